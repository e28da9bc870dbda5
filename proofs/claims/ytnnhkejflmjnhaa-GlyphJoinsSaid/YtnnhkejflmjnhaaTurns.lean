/-
  GlyphTurns answers true.
-/
import Derived.Test.YtnnhkejflmjnhaaBack
namespace Go.Proofs.Ytnnhkejflmjnhaa
open Go.RowKit

/-- A call answers a value, and keeps all that was there. -/
def Ans (f : FuncId) (args : Array Value) (v : Value) : Prop := ∀ w, Calls Try.prog f args w fun e w' => e = .returned v ∧ Kept0 w w'

set_option maxRecDepth 100000 in
set_option maxHeartbeats 8000000 in
theorem turns_core (s0 s1 r xi yi zi : Int) (b : Nat) (xb yb zb : Bool) (w : World) (hb : b < 256)
    (HOf : Ans 11 #[.int .i64 s0, .int .u8 (b : Int)] (.int .i32 r)) (HBk : Ans 13 #[.int .i64 s0, .int .i32 r] (.tuple #[.int .u8 xi, .bool xb]))
    (HTu : Ans 15 #[.int .i64 s0, .int .i64 s1, .int .u8 (b : Int)] (.tuple #[.int .u8 yi, .bool yb]))
    (HOx : xb = true → Ans 11 #[.int .i64 s0, .int .u8 xi] (.int .i32 r)) (HOy : yb = true → Ans 11 #[.int .i64 s1, .int .u8 yi] (.int .i32 r))
    (HZ : Ans 13 #[.int .i64 1, .int .i32 (b : Int)] (.tuple #[.int .u8 zi, .bool zb]))
    (HOs : Hid (∀ k : Nat, 1 ≤ k → k ≤ 5 → 64 ≤ b → b ≤ 90 → Ans 11 #[.int .i64 (k : Int), .int .u8 (b : Int)] (.int .i32 (b : Int))))
    (hr : (r == 65533) = !xb) (hx : xb = true → xi ≤ b) (hz1 : zb = true → zi = b ∧ 32 ≤ b ∧ b ≤ 126) (hz2 : zb = false → b < 32 ∨ 126 < b) :
    Calls Try.prog 6 #[.agg #[.int .i64 s0, .int .i64 s1], .int .u8 (b : Int)] w fun e w' => e = .returned (.bool true) ∧ Below w.heap.size w w' := by
  have H1 := Lib.hid HOf
  have H2 := Lib.hid HBk
  have H3 := Lib.hid HTu
  have H4 := Lib.hid HOx
  have H5 := Lib.hid HOy
  have H6 := Lib.hid HZ
  have HZ1 := Lib.hid hz1
  have HZ2 := Lib.hid hz2
  have HX := Lib.hid hx
  clear HOf HBk HTu HOx HOy HZ hz1 hz2 hx
  go_enter Try.func6, Try.ntmps6
  go_wp2_with fail
  obtain ⟨w0, hw0⟩ : ∃ w0, w0 = w.alloc (.cells #[.int .i64 s0, .int .i64 s1] 28) := ⟨_, rfl⟩
  have c0 : w0.cell? ⟨w.heap.size, 0, none⟩ = some (.int .i64 s0) := by rw [hw0]; simp [go_sem]
  have c1 : w0.cell? ⟨w.heap.size, 1, none⟩ = some (.int .i64 s1) := by rw [hw0]; simp [go_sem]
  have hk0 : Kept0 w w0 := by rw [hw0]; exact (Kept.refl _ w).alloc _
  rw [← hw0]
  clear hw0
  refine (H1.out _).mono ?_
  rintro e w1 ⟨rfl, hk1⟩
  replace c0 := kcell hk1 c0
  replace c1 := kcell hk1 c1
  replace hk0 := hk0.trans hk1
  clear hk1 H1
  go_wp2_with fail
  refine (H2.out _).mono ?_
  rintro e w2 ⟨rfl, hk1⟩
  replace c0 := kcell hk1 c0
  replace c1 := kcell hk1 c1
  replace hk0 := hk0.trans hk1
  clear hk1 H2
  have hbr : b < 64 ∨ (64 ≤ b ∧ b ≤ 90) ∨ 90 < b := by omega
  have hr2 : (r != 65533) = xb := by
    show (!(r == 65533)) = xb
    rw [hr]
    cases xb <;> rfl
  cases xb
  · rw [Bool.not_false] at hr
    clear H4 HX
    go_wp2_with fail
    refine (H3.out _).mono ?_
    rintro e w4 ⟨rfl, hk1⟩
    replace c0 := kcell hk1 c0
    replace c1 := kcell hk1 c1
    replace hk0 := hk0.trans hk1
    clear hk1
    clear H3
    cases yb
    · clear H5
      rcases hbr with hbr | ⟨hbr, hbr2⟩ | hbr
      · go_wp2_with fail
        refine (H6.out _).mono ?_
        rintro e w8 ⟨rfl, hk1⟩
        replace hk0 := hk0.trans hk1
        clear hk1
        cases zb with
        | true =>
          obtain ⟨rfl, hz1, hz2⟩ := HZ1.out rfl
          go_wp2_with fail
          refine (awake_any _).mono ?_
          rintro e w9 ⟨rfl, hk1⟩
          go_wp2_with fail
          go_ret
          exact ⟨rfl, Kept0.below (hk0.trans hk1)⟩
        | false =>
          have hz := HZ2.out rfl
          first
            | (exfalso; omega)
            | (have hz3 : b < 32 := by omega
               go_wp2_with fail
               refine (awake_any _).mono ?_
               rintro e w9 ⟨rfl, hk1⟩
               go_wp2_with fail
               go_ret
               exact ⟨rfl, Kept0.below (hk0.trans hk1)⟩)
            | (have hz3 : 126 < b := by omega
               have hz4 : decide ((b : Int) ≤ 126) = false := by simp; omega
               clear hz
               go_wp2_with fail
               refine (awake_any _).mono ?_
               rintro e w9 ⟨rfl, hk1⟩
               go_wp2_with fail
               go_ret
               exact ⟨rfl, Kept0.below (hk0.trans hk1)⟩)
      · have hd1 : decide (64 ≤ (b : Int)) = true := by simp; omega
        have hd2 : decide ((b : Int) ≤ 90) = true := by simp; omega
        go_wp2_with fail
        go_loopw [10] (fun s10 wr => ∃ k : Nat, 1 ≤ k ∧ k ≤ 6 ∧ s10 = .int .i64 (k : Int) ∧ Kept0 w wr) (fun s10 _ => 6 - (intOf s10).toNat)
        case atStart => exact ⟨1, by omega, by omega, rfl, hk0⟩
        case round =>
          obtain ⟨k, hk1, hk2, rfl, hkr⟩ := hrel
          clear hk0 c0 c1
          by_cases hk5 : k ≤ 5
          · go_wp2_with fail
            refine (HOs.out k hk1 hk5 hbr hbr2 _).mono ?_
            rintro e w7 ⟨rfl, hk3⟩
            go_wp2_with fail
            go_roundw
            case rel => exact ⟨k + 1, by omega, by omega, by go_num, hkr.trans hk3⟩
            case measure => simp [intOf]; omega
          · have hk0 := hkr
            go_wp2_with fail
            refine (H6.out _).mono ?_
            rintro e w8 ⟨rfl, hk1⟩
            replace hk0 := hk0.trans hk1
            clear hk1
            cases zb with
            | true =>
              obtain ⟨rfl, hz1, hz2⟩ := HZ1.out rfl
              go_wp2_with fail
              refine (awake_any _).mono ?_
              rintro e w9 ⟨rfl, hk1⟩
              go_wp2_with fail
              go_ret
              exact ⟨rfl, Kept0.below (hk0.trans hk1)⟩
            | false =>
              have hz := HZ2.out rfl
              first
                | (exfalso; omega)
                | (have hz3 : b < 32 := by omega
                   go_wp2_with fail
                   refine (awake_any _).mono ?_
                   rintro e w9 ⟨rfl, hk1⟩
                   go_wp2_with fail
                   go_ret
                   exact ⟨rfl, Kept0.below (hk0.trans hk1)⟩)
                | (have hz3 : 126 < b := by omega
                   have hz4 : decide ((b : Int) ≤ 126) = false := by simp; omega
                   clear hz
                   go_wp2_with fail
                   refine (awake_any _).mono ?_
                   rintro e w9 ⟨rfl, hk1⟩
                   go_wp2_with fail
                   go_ret
                   exact ⟨rfl, Kept0.below (hk0.trans hk1)⟩)
      · go_wp2_with fail
        refine (H6.out _).mono ?_
        rintro e w8 ⟨rfl, hk1⟩
        replace hk0 := hk0.trans hk1
        clear hk1
        cases zb with
        | true =>
          obtain ⟨rfl, hz1, hz2⟩ := HZ1.out rfl
          go_wp2_with fail
          refine (awake_any _).mono ?_
          rintro e w9 ⟨rfl, hk1⟩
          go_wp2_with fail
          go_ret
          exact ⟨rfl, Kept0.below (hk0.trans hk1)⟩
        | false =>
          have hz := HZ2.out rfl
          first
            | (exfalso; omega)
            | (have hz3 : b < 32 := by omega
               go_wp2_with fail
               refine (awake_any _).mono ?_
               rintro e w9 ⟨rfl, hk1⟩
               go_wp2_with fail
               go_ret
               exact ⟨rfl, Kept0.below (hk0.trans hk1)⟩)
            | (have hz3 : 126 < b := by omega
               have hz4 : decide ((b : Int) ≤ 126) = false := by simp; omega
               clear hz
               go_wp2_with fail
               refine (awake_any _).mono ?_
               rintro e w9 ⟨rfl, hk1⟩
               go_wp2_with fail
               go_ret
               exact ⟨rfl, Kept0.below (hk0.trans hk1)⟩)
    · go_wp2_with fail
      refine (H5.out (by simp) _).mono ?_
      rintro e w5 ⟨rfl, hk1⟩
      replace c0 := kcell hk1 c0
      replace c1 := kcell hk1 c1
      replace hk0 := hk0.trans hk1
      clear hk1
      clear H5
      rcases hbr with hbr | ⟨hbr, hbr2⟩ | hbr
      · go_wp2_with fail
        refine (H6.out _).mono ?_
        rintro e w8 ⟨rfl, hk1⟩
        replace hk0 := hk0.trans hk1
        clear hk1
        cases zb with
        | true =>
          obtain ⟨rfl, hz1, hz2⟩ := HZ1.out rfl
          go_wp2_with fail
          refine (awake_any _).mono ?_
          rintro e w9 ⟨rfl, hk1⟩
          go_wp2_with fail
          go_ret
          exact ⟨rfl, Kept0.below (hk0.trans hk1)⟩
        | false =>
          have hz := HZ2.out rfl
          first
            | (exfalso; omega)
            | (have hz3 : b < 32 := by omega
               go_wp2_with fail
               refine (awake_any _).mono ?_
               rintro e w9 ⟨rfl, hk1⟩
               go_wp2_with fail
               go_ret
               exact ⟨rfl, Kept0.below (hk0.trans hk1)⟩)
            | (have hz3 : 126 < b := by omega
               have hz4 : decide ((b : Int) ≤ 126) = false := by simp; omega
               clear hz
               go_wp2_with fail
               refine (awake_any _).mono ?_
               rintro e w9 ⟨rfl, hk1⟩
               go_wp2_with fail
               go_ret
               exact ⟨rfl, Kept0.below (hk0.trans hk1)⟩)
      · have hd1 : decide (64 ≤ (b : Int)) = true := by simp; omega
        have hd2 : decide ((b : Int) ≤ 90) = true := by simp; omega
        go_wp2_with fail
        go_loopw [10] (fun s10 wr => ∃ k : Nat, 1 ≤ k ∧ k ≤ 6 ∧ s10 = .int .i64 (k : Int) ∧ Kept0 w wr) (fun s10 _ => 6 - (intOf s10).toNat)
        case atStart => exact ⟨1, by omega, by omega, rfl, hk0⟩
        case round =>
          obtain ⟨k, hk1, hk2, rfl, hkr⟩ := hrel
          clear hk0 c0 c1
          by_cases hk5 : k ≤ 5
          · go_wp2_with fail
            refine (HOs.out k hk1 hk5 hbr hbr2 _).mono ?_
            rintro e w7 ⟨rfl, hk3⟩
            go_wp2_with fail
            go_roundw
            case rel => exact ⟨k + 1, by omega, by omega, by go_num, hkr.trans hk3⟩
            case measure => simp [intOf]; omega
          · have hk0 := hkr
            go_wp2_with fail
            refine (H6.out _).mono ?_
            rintro e w8 ⟨rfl, hk1⟩
            replace hk0 := hk0.trans hk1
            clear hk1
            cases zb with
            | true =>
              obtain ⟨rfl, hz1, hz2⟩ := HZ1.out rfl
              go_wp2_with fail
              refine (awake_any _).mono ?_
              rintro e w9 ⟨rfl, hk1⟩
              go_wp2_with fail
              go_ret
              exact ⟨rfl, Kept0.below (hk0.trans hk1)⟩
            | false =>
              have hz := HZ2.out rfl
              first
                | (exfalso; omega)
                | (have hz3 : b < 32 := by omega
                   go_wp2_with fail
                   refine (awake_any _).mono ?_
                   rintro e w9 ⟨rfl, hk1⟩
                   go_wp2_with fail
                   go_ret
                   exact ⟨rfl, Kept0.below (hk0.trans hk1)⟩)
                | (have hz3 : 126 < b := by omega
                   have hz4 : decide ((b : Int) ≤ 126) = false := by simp; omega
                   clear hz
                   go_wp2_with fail
                   refine (awake_any _).mono ?_
                   rintro e w9 ⟨rfl, hk1⟩
                   go_wp2_with fail
                   go_ret
                   exact ⟨rfl, Kept0.below (hk0.trans hk1)⟩)
      · go_wp2_with fail
        refine (H6.out _).mono ?_
        rintro e w8 ⟨rfl, hk1⟩
        replace hk0 := hk0.trans hk1
        clear hk1
        cases zb with
        | true =>
          obtain ⟨rfl, hz1, hz2⟩ := HZ1.out rfl
          go_wp2_with fail
          refine (awake_any _).mono ?_
          rintro e w9 ⟨rfl, hk1⟩
          go_wp2_with fail
          go_ret
          exact ⟨rfl, Kept0.below (hk0.trans hk1)⟩
        | false =>
          have hz := HZ2.out rfl
          first
            | (exfalso; omega)
            | (have hz3 : b < 32 := by omega
               go_wp2_with fail
               refine (awake_any _).mono ?_
               rintro e w9 ⟨rfl, hk1⟩
               go_wp2_with fail
               go_ret
               exact ⟨rfl, Kept0.below (hk0.trans hk1)⟩)
            | (have hz3 : 126 < b := by omega
               have hz4 : decide ((b : Int) ≤ 126) = false := by simp; omega
               clear hz
               go_wp2_with fail
               refine (awake_any _).mono ?_
               rintro e w9 ⟨rfl, hk1⟩
               go_wp2_with fail
               go_ret
               exact ⟨rfl, Kept0.below (hk0.trans hk1)⟩)
  · rw [Bool.not_true] at hr
    have hxi := HX.out rfl
    clear HX
    go_wp2_with fail
    refine (H4.out (by simp) _).mono ?_
    rintro e w3 ⟨rfl, hk1⟩
    replace c0 := kcell hk1 c0
    replace c1 := kcell hk1 c1
    replace hk0 := hk0.trans hk1
    clear hk1
    clear H4
    go_wp2_with fail
    refine (H3.out _).mono ?_
    rintro e w4 ⟨rfl, hk1⟩
    replace c0 := kcell hk1 c0
    replace c1 := kcell hk1 c1
    replace hk0 := hk0.trans hk1
    clear hk1
    clear H3
    cases yb
    · clear H5
      rcases hbr with hbr | ⟨hbr, hbr2⟩ | hbr
      · go_wp2_with fail
        refine (H6.out _).mono ?_
        rintro e w8 ⟨rfl, hk1⟩
        replace hk0 := hk0.trans hk1
        clear hk1
        cases zb with
        | true =>
          obtain ⟨rfl, hz1, hz2⟩ := HZ1.out rfl
          go_wp2_with fail
          refine (awake_any _).mono ?_
          rintro e w9 ⟨rfl, hk1⟩
          go_wp2_with fail
          go_ret
          exact ⟨rfl, Kept0.below (hk0.trans hk1)⟩
        | false =>
          have hz := HZ2.out rfl
          first
            | (exfalso; omega)
            | (have hz3 : b < 32 := by omega
               go_wp2_with fail
               refine (awake_any _).mono ?_
               rintro e w9 ⟨rfl, hk1⟩
               go_wp2_with fail
               go_ret
               exact ⟨rfl, Kept0.below (hk0.trans hk1)⟩)
            | (have hz3 : 126 < b := by omega
               have hz4 : decide ((b : Int) ≤ 126) = false := by simp; omega
               clear hz
               go_wp2_with fail
               refine (awake_any _).mono ?_
               rintro e w9 ⟨rfl, hk1⟩
               go_wp2_with fail
               go_ret
               exact ⟨rfl, Kept0.below (hk0.trans hk1)⟩)
      · have hd1 : decide (64 ≤ (b : Int)) = true := by simp; omega
        have hd2 : decide ((b : Int) ≤ 90) = true := by simp; omega
        go_wp2_with fail
        go_loopw [10] (fun s10 wr => ∃ k : Nat, 1 ≤ k ∧ k ≤ 6 ∧ s10 = .int .i64 (k : Int) ∧ Kept0 w wr) (fun s10 _ => 6 - (intOf s10).toNat)
        case atStart => exact ⟨1, by omega, by omega, rfl, hk0⟩
        case round =>
          obtain ⟨k, hk1, hk2, rfl, hkr⟩ := hrel
          clear hk0 c0 c1
          by_cases hk5 : k ≤ 5
          · go_wp2_with fail
            refine (HOs.out k hk1 hk5 hbr hbr2 _).mono ?_
            rintro e w7 ⟨rfl, hk3⟩
            go_wp2_with fail
            go_roundw
            case rel => exact ⟨k + 1, by omega, by omega, by go_num, hkr.trans hk3⟩
            case measure => simp [intOf]; omega
          · have hk0 := hkr
            go_wp2_with fail
            refine (H6.out _).mono ?_
            rintro e w8 ⟨rfl, hk1⟩
            replace hk0 := hk0.trans hk1
            clear hk1
            cases zb with
            | true =>
              obtain ⟨rfl, hz1, hz2⟩ := HZ1.out rfl
              go_wp2_with fail
              refine (awake_any _).mono ?_
              rintro e w9 ⟨rfl, hk1⟩
              go_wp2_with fail
              go_ret
              exact ⟨rfl, Kept0.below (hk0.trans hk1)⟩
            | false =>
              have hz := HZ2.out rfl
              first
                | (exfalso; omega)
                | (have hz3 : b < 32 := by omega
                   go_wp2_with fail
                   refine (awake_any _).mono ?_
                   rintro e w9 ⟨rfl, hk1⟩
                   go_wp2_with fail
                   go_ret
                   exact ⟨rfl, Kept0.below (hk0.trans hk1)⟩)
                | (have hz3 : 126 < b := by omega
                   have hz4 : decide ((b : Int) ≤ 126) = false := by simp; omega
                   clear hz
                   go_wp2_with fail
                   refine (awake_any _).mono ?_
                   rintro e w9 ⟨rfl, hk1⟩
                   go_wp2_with fail
                   go_ret
                   exact ⟨rfl, Kept0.below (hk0.trans hk1)⟩)
      · go_wp2_with fail
        refine (H6.out _).mono ?_
        rintro e w8 ⟨rfl, hk1⟩
        replace hk0 := hk0.trans hk1
        clear hk1
        cases zb with
        | true =>
          obtain ⟨rfl, hz1, hz2⟩ := HZ1.out rfl
          go_wp2_with fail
          refine (awake_any _).mono ?_
          rintro e w9 ⟨rfl, hk1⟩
          go_wp2_with fail
          go_ret
          exact ⟨rfl, Kept0.below (hk0.trans hk1)⟩
        | false =>
          have hz := HZ2.out rfl
          first
            | (exfalso; omega)
            | (have hz3 : b < 32 := by omega
               go_wp2_with fail
               refine (awake_any _).mono ?_
               rintro e w9 ⟨rfl, hk1⟩
               go_wp2_with fail
               go_ret
               exact ⟨rfl, Kept0.below (hk0.trans hk1)⟩)
            | (have hz3 : 126 < b := by omega
               have hz4 : decide ((b : Int) ≤ 126) = false := by simp; omega
               clear hz
               go_wp2_with fail
               refine (awake_any _).mono ?_
               rintro e w9 ⟨rfl, hk1⟩
               go_wp2_with fail
               go_ret
               exact ⟨rfl, Kept0.below (hk0.trans hk1)⟩)
    · go_wp2_with fail
      refine (H5.out (by simp) _).mono ?_
      rintro e w5 ⟨rfl, hk1⟩
      replace c0 := kcell hk1 c0
      replace c1 := kcell hk1 c1
      replace hk0 := hk0.trans hk1
      clear hk1
      clear H5
      rcases hbr with hbr | ⟨hbr, hbr2⟩ | hbr
      · go_wp2_with fail
        refine (H6.out _).mono ?_
        rintro e w8 ⟨rfl, hk1⟩
        replace hk0 := hk0.trans hk1
        clear hk1
        cases zb with
        | true =>
          obtain ⟨rfl, hz1, hz2⟩ := HZ1.out rfl
          go_wp2_with fail
          refine (awake_any _).mono ?_
          rintro e w9 ⟨rfl, hk1⟩
          go_wp2_with fail
          go_ret
          exact ⟨rfl, Kept0.below (hk0.trans hk1)⟩
        | false =>
          have hz := HZ2.out rfl
          first
            | (exfalso; omega)
            | (have hz3 : b < 32 := by omega
               go_wp2_with fail
               refine (awake_any _).mono ?_
               rintro e w9 ⟨rfl, hk1⟩
               go_wp2_with fail
               go_ret
               exact ⟨rfl, Kept0.below (hk0.trans hk1)⟩)
            | (have hz3 : 126 < b := by omega
               have hz4 : decide ((b : Int) ≤ 126) = false := by simp; omega
               clear hz
               go_wp2_with fail
               refine (awake_any _).mono ?_
               rintro e w9 ⟨rfl, hk1⟩
               go_wp2_with fail
               go_ret
               exact ⟨rfl, Kept0.below (hk0.trans hk1)⟩)
      · have hd1 : decide (64 ≤ (b : Int)) = true := by simp; omega
        have hd2 : decide ((b : Int) ≤ 90) = true := by simp; omega
        go_wp2_with fail
        go_loopw [10] (fun s10 wr => ∃ k : Nat, 1 ≤ k ∧ k ≤ 6 ∧ s10 = .int .i64 (k : Int) ∧ Kept0 w wr) (fun s10 _ => 6 - (intOf s10).toNat)
        case atStart => exact ⟨1, by omega, by omega, rfl, hk0⟩
        case round =>
          obtain ⟨k, hk1, hk2, rfl, hkr⟩ := hrel
          clear hk0 c0 c1
          by_cases hk5 : k ≤ 5
          · go_wp2_with fail
            refine (HOs.out k hk1 hk5 hbr hbr2 _).mono ?_
            rintro e w7 ⟨rfl, hk3⟩
            go_wp2_with fail
            go_roundw
            case rel => exact ⟨k + 1, by omega, by omega, by go_num, hkr.trans hk3⟩
            case measure => simp [intOf]; omega
          · have hk0 := hkr
            go_wp2_with fail
            refine (H6.out _).mono ?_
            rintro e w8 ⟨rfl, hk1⟩
            replace hk0 := hk0.trans hk1
            clear hk1
            cases zb with
            | true =>
              obtain ⟨rfl, hz1, hz2⟩ := HZ1.out rfl
              go_wp2_with fail
              refine (awake_any _).mono ?_
              rintro e w9 ⟨rfl, hk1⟩
              go_wp2_with fail
              go_ret
              exact ⟨rfl, Kept0.below (hk0.trans hk1)⟩
            | false =>
              have hz := HZ2.out rfl
              first
                | (exfalso; omega)
                | (have hz3 : b < 32 := by omega
                   go_wp2_with fail
                   refine (awake_any _).mono ?_
                   rintro e w9 ⟨rfl, hk1⟩
                   go_wp2_with fail
                   go_ret
                   exact ⟨rfl, Kept0.below (hk0.trans hk1)⟩)
                | (have hz3 : 126 < b := by omega
                   have hz4 : decide ((b : Int) ≤ 126) = false := by simp; omega
                   clear hz
                   go_wp2_with fail
                   refine (awake_any _).mono ?_
                   rintro e w9 ⟨rfl, hk1⟩
                   go_wp2_with fail
                   go_ret
                   exact ⟨rfl, Kept0.below (hk0.trans hk1)⟩)
      · go_wp2_with fail
        refine (H6.out _).mono ?_
        rintro e w8 ⟨rfl, hk1⟩
        replace hk0 := hk0.trans hk1
        clear hk1
        cases zb with
        | true =>
          obtain ⟨rfl, hz1, hz2⟩ := HZ1.out rfl
          go_wp2_with fail
          refine (awake_any _).mono ?_
          rintro e w9 ⟨rfl, hk1⟩
          go_wp2_with fail
          go_ret
          exact ⟨rfl, Kept0.below (hk0.trans hk1)⟩
        | false =>
          have hz := HZ2.out rfl
          first
            | (exfalso; omega)
            | (have hz3 : b < 32 := by omega
               go_wp2_with fail
               refine (awake_any _).mono ?_
               rintro e w9 ⟨rfl, hk1⟩
               go_wp2_with fail
               go_ret
               exact ⟨rfl, Kept0.below (hk0.trans hk1)⟩)
            | (have hz3 : 126 < b := by omega
               have hz4 : decide ((b : Int) ≤ 126) = false := by simp; omega
               clear hz
               go_wp2_with fail
               refine (awake_any _).mono ?_
               rintro e w9 ⟨rfl, hk1⟩
               go_wp2_with fail
               go_ret
               exact ⟨rfl, Kept0.below (hk0.trans hk1)⟩)

theorem bk_of_ref {set : Int} {b : Nat} (hb : b < 256) (hr : refN set b ≠ 65533) : ∃ x, bk set (refN set b) = some x ∧ x ≤ b := by
  cases h : bk set (refN set b) with
  | none => exact absurd rfl (bk_none h (by omega) hb)
  | some x =>
    obtain ⟨_, _, _, h4⟩ := bk_some h
    refine ⟨x, rfl, ?_⟩
    by_cases h5 : b < x
    · exact absurd rfl (h4 b h5)
    · omega
theorem bk_no (set : Int) : bk set 65533 = none := by simp [bk]
theorem turns_self : ∀ b : Fin 256, 64 ≤ b.val → b.val ≤ 90 → refN 1 b = b ∧ refN 2 b = b ∧ refN 3 b = b ∧ refN 4 b = b ∧ refN 5 b = b := by decide +kernel
theorem turns_plain : ∀ b : Fin 256, bk 1 (b.val : Int) = if 32 ≤ b.val ∧ b.val ≤ 126 then some b.val else none := by decide +kernel

theorem turns_calls (s0 s1 : Int) (b : Nat) (hb : b < 256) (w : World) :
    Calls Try.prog 6 #[.agg #[.int .i64 s0, .int .i64 s1], .int .u8 (b : Int)] w fun e w' => e = .returned (.bool true) ∧ Below w.heap.size w w' := by
  have hz := turns_plain ⟨b, hb⟩
  simp only at hz
  refine turns_core s0 s1 (refN s0 b) (bkB (bk s0 (refN s0 b))) (bkB (bk s1 (refN s0 b))) (bkB (bk 1 (b : Int))) b (bk s0 (refN s0 b)).isSome (bk s1 (refN s0 b)).isSome (bk 1 (b : Int)).isSome w hb
    (of_any s0 b hb) (back_any s0 _) (turn_any s0 s1 b hb) ?_ ?_ (back_any 1 _) ?_ ?_ ?_ ?_ ?_
  · intro h
    obtain ⟨x, hx⟩ := Option.isSome_iff_exists.1 h
    obtain ⟨_, h2, h3, _⟩ := bk_some hx
    have := of_any s0 x h2
    rw [h3] at this
    rw [hx]
    exact this
  · intro h
    obtain ⟨x, hx⟩ := Option.isSome_iff_exists.1 h
    obtain ⟨_, h2, h3, _⟩ := bk_some hx
    have := of_any s1 x h2
    rw [h3] at this
    rw [hx]
    exact this
  · intro k h1 h2 h3 h4
    have hs := turns_self ⟨b, hb⟩ h3 h4
    have ho := of_any (k : Int) b hb
    have hk : k = 1 ∨ k = 2 ∨ k = 3 ∨ k = 4 ∨ k = 5 := by omega
    have he : refN (k : Int) b = b := by
      rcases hk with rfl | rfl | rfl | rfl | rfl
      · exact hs.1
      · exact hs.2.1
      · exact hs.2.2.1
      · exact hs.2.2.2.1
      · exact hs.2.2.2.2
    rw [he] at ho
    exact ho
  · by_cases hr : refN s0 b = 65533
    · rw [hr, show bk s0 ((65533 : Nat) : Int) = none from bk_no s0]
      rfl
    · obtain ⟨x, hx, _⟩ := bk_of_ref hb hr
      rw [hx]
      simp
      omega
  · intro h
    by_cases hr : refN s0 b = 65533
    · rw [hr, show bk s0 ((65533 : Nat) : Int) = none from bk_no s0] at h
      cases h
    · obtain ⟨x, hx, hle⟩ := bk_of_ref hb hr
      rw [hx]
      simp only [bkB, Option.getD_some]
      omega
  · intro h
    rw [hz] at h ⊢
    split at h
    · rename_i hc
      rw [if_pos hc]
      exact ⟨rfl, hc.1, hc.2⟩
    · cases h
  · intro h
    rw [hz] at h
    split at h
    · cases h
    · omega

#print axioms turns_calls
end Go.Proofs.Ytnnhkejflmjnhaa
