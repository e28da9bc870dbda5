/-
  What Guarded, Up, Lines and Chars of package shift do.
-/
import Derived.Test.YtljfbocjnpnaiaaFree
namespace Go.Proofs.Ytljfbocjnpnaiaa
open Go.RowKit

/-- How many of n cells are guarded, from one on. -/
def cnt (f : Nat → Cel) (a : Nat) : Nat → Nat
  | 0 => 0
  | n + 1 => cnt f a n + (if (f (a + n)).b = true then 1 else 0)
theorem cnt_le (f : Nat → Cel) (a : Nat) : ∀ n, cnt f a n ≤ n
  | 0 => Nat.le_refl _
  | n + 1 => by
    have := cnt_le f a n
    unfold cnt
    split <;> omega

set_option maxHeartbeats 1000000 in
theorem guarded_ok (g t cap R C : Nat) (f : Nat → Cel) (r : Nat) (w : World) (hg : GridAt w g t cap R C f) (hr : r < R) :
    Calls Try.prog 12 #[.pointer (some ⟨g, 0, none⟩), .int .i64 (r : Int)] w fun e w' => e = .returned (.tuple #[.int .i64 (cnt f (r * C) ((R - r) * C) : Int), .int .i64 0]) ∧ Kept0 w w' := by
  have hC1 := hg.C1
  have hC2 := hg.C2
  have hR2 := hg.R2
  have hT : Hid (There R C (r : Int) 0) := ⟨by omega, by omega, by omega, by omega⟩
  obtain ⟨V, hV⟩ : ∃ V, V = cnt f (r * C) ((R - r) * C) := ⟨_, rfl⟩
  rw [← hV]
  have HV := Lib.hid hV
  clear hV
  go_enter Try.func12, Try.ntmps12
  go_wp2_with fail
  refine (at_in g t cap R C f _ _ _ hg hT.out).mono ?_
  rintro e w1 ⟨rfl, hk1⟩
  go_wp2_with fail
  have hk1' := hk1.alloc (.cells #[.int .i32 (f (idx C (r : Int) 0)).g, .int .i64 (f (idx C (r : Int) 0)).a, .bool (f (idx C (r : Int) 0)).b, .int .i64 (f (idx C (r : Int) 0)).m] 44)
  refine (size_any g R C _ (kcell hk1' hg.c0) (kcell hk1' hg.c1)).mono ?_
  rintro e w2 ⟨rfl, hk2⟩
  replace hk2 := hk1'.trans hk2
  clear hk1 hk1'
  obtain ⟨W, hW⟩ : ∃ W, W = w2.alloc (.cells #[.int .i64 (R : Int), .int .i64 (C : Int)] 72) := ⟨_, rfl⟩
  have q0 : W.cell? ⟨w2.heap.size, 0, none⟩ = some (.int .i64 (R : Int)) := by rw [hW]; simp [go_sem]
  have q1 : W.cell? ⟨w2.heap.size, 1, none⟩ = some (.int .i64 (C : Int)) := by rw [hW]; simp [go_sem]
  have hkW : Kept0 w W := by rw [hW]; exact hk2.alloc _
  have hgW := hg.kept hkW (fun e => e) (fun e => e)
  go_wp2_with fail
  rw [← hW]
  clear hW hk2
  go_loopw [1, 8] (fun s1 s8 wr => ∃ i : Nat, r ≤ i ∧ i ≤ R ∧ s1 = .int .i64 i ∧ s8 = .int .i64 (cnt f (r * C) ((i - r) * C) : Int) ∧ Kept0 W wr) (fun s1 _ _ => R - (intOf s1).toNat)
  case atStart => exact ⟨r, Nat.le_refl _, by omega, rfl, by simp [cnt], Kept.refl _ _⟩
  case round =>
    obtain ⟨i, hi1, hi2, rfl, rfl, hkp⟩ := hrel
    have p0 := kcell hkp q0
    have p1 := kcell hkp q1
    by_cases hlt : i < R
    · go_wp2_with fail
      have hle : (i - r) * C + C ≤ 65025 := by
        have : (i - r + 1) * C ≤ 255 * 255 := Nat.mul_le_mul (by omega) (by omega)
        rw [Nat.add_mul] at this
        omega
      obtain ⟨a, ha⟩ : ∃ a, a = (i - r) * C := ⟨_, rfl⟩
      rw [← ha] at hle ⊢
      have HA := Lib.hid ha
      clear ha
      go_loopw [31, 8] (fun s31 s8 wr => ∃ c : Nat, c ≤ C ∧ s31 = .int .i64 c ∧ s8 = .int .i64 (cnt f (r * C) (a + c) : Int) ∧ Kept0 W wr) (fun s31 _ _ => C - (intOf s31).toNat)
      case atStart => exact ⟨0, by omega, rfl, by simp, hkp⟩
      case round =>
        obtain ⟨c, hc, rfl, rfl, hkp2⟩ := hrel
        by_cases hlt2 : c < C
        · have hle2 := cnt_le f (r * C) (a + c)
          have hg2 := hgW.kept hkp2 (fun e => e) (fun e => e)
          have hpos : r * C + (a + c) = i * C + c := by
            rw [HA.out, ← Nat.add_assoc, ← Nat.add_mul]; congr 2; omega
          cases hb : gd C f i c
          · have HE : Hid (freeE R C f (i : Int) (c : Int) = 0) := by
              show _ = _
              rw [freeE_at R C f i c hlt hlt2, hb]; rfl
            have HC : Hid (cnt f (r * C) (a + (c + 1)) = cnt f (r * C) (a + c)) := by
              show cnt f (r * C) (a + c + 1) = _
              rw [cnt, hpos]
              unfold gd at hb
              rw [hb]; rfl
            clear hb hpos
            generalize hm : cnt f (r * C) (a + c) = m at *
            have HM := Lib.hid hm
            clear hm
            go_wp2_with fail
            refine (free_any g t cap R C f _ _ _ hg2).mono ?_
            rw [HE.out]
            rintro e w3 ⟨rfl, hk3⟩
            go_wp2_with fail
            go_roundw
            case rel => exact ⟨c + 1, by omega, by go_num, by rw [HC.out], hkp2.trans hk3⟩
            case measure => simp [intOf]; omega
          · have HE : Hid (freeE R C f (i : Int) (c : Int) = 15) := by
              show _ = _
              rw [freeE_at R C f i c hlt hlt2, hb]; rfl
            have HC : Hid (cnt f (r * C) (a + (c + 1)) = cnt f (r * C) (a + c) + 1) := by
              show cnt f (r * C) (a + c + 1) = _
              rw [cnt, hpos]
              unfold gd at hb
              rw [hb]; rfl
            clear hb hpos
            generalize hm : cnt f (r * C) (a + c) = m at *
            have HM := Lib.hid hm
            clear hm
            go_wp2_with fail
            refine (free_any g t cap R C f _ _ _ hg2).mono ?_
            rw [HE.out]
            rintro e w3 ⟨rfl, hk3⟩
            go_wp2_with fail
            go_roundw
            case rel => exact ⟨c + 1, by omega, by go_num, by rw [HC.out]; go_num, hkp2.trans hk3⟩
            case measure => simp [intOf]; omega
        · obtain rfl : c = C := by omega
          have HC : Hid (a + c = (i + 1 - r) * c) := by
            show _ = _
            rw [HA.out, show i + 1 - r = i - r + 1 by omega, Nat.add_mul, Nat.one_mul]
          go_wp2_with fail
          go_roundw
          case rel => exact ⟨i + 1, by omega, by omega, by go_num, by rw [HC.out], hkp2⟩
          case measure => simp [intOf]; omega
    · obtain rfl : i = R := by omega
      go_wp2_with fail
      refine bodyPost_ret (v := .tuple #[.int .i64 (V : Int), .int .i64 0]) (by rw [HV.out]; simp [results, Try.results12, go_sem]) rfl ⟨rfl, hkW.trans hkp⟩

set_option maxHeartbeats 400000 in
theorem guarded_no (g : Value) (gp : Option Addr) (hgp : g = .pointer gp) (r E : Int) (w : World) (hE : ¬ E = 0)
    (hat : ∀ w', Kept0 w w' → Calls Try.prog 28 #[g, .agg #[.int .i64 r, .int .i64 0]] w' fun e w'' => e = .returned (.tuple #[(.agg #[.int .i32 zc.g, .int .i64 zc.a, .bool zc.b, .int .i64 zc.m]), .int .i64 E]) ∧ Kept0 w' w'') :
    Calls Try.prog 12 #[g, .int .i64 r] w fun e w' => e = .returned (.tuple #[.int .i64 0, .int .i64 E]) ∧ Kept0 w w' := by
  subst hgp
  have HF := Lib.hid hat
  clear hat
  go_enter Try.func12, Try.ntmps12
  go_wp2_with fail
  refine (HF.out _ (Kept.refl _ w)).mono ?_
  rintro e w1 ⟨rfl, hk1⟩
  go_wp2_with fail
  refine bodyPost_ret (v := .tuple #[.int .i64 0, .int .i64 E]) (by simp [results, Try.results12, go_sem]) rfl ⟨rfl, hk1.alloc _⟩

theorem guarded_out (g t cap R C : Nat) (f : Nat → Cel) (r : Int) (w : World) (hg : GridAt w g t cap R C f) (h : ¬ (0 ≤ r ∧ r < R)) :
    Calls Try.prog 12 #[.pointer (some ⟨g, 0, none⟩), .int .i64 r] w fun e w' => e = .returned (.tuple #[.int .i64 0, .int .i64 11]) ∧ Kept0 w w' :=
  guarded_no _ _ rfl r 11 w (by omega) fun w' k => at_out g R C r 0 w' (kcell k hg.c0) (kcell k hg.c1) (fun e => h ⟨e.1, e.2.1⟩)
theorem guarded_nil (r : Int) (w : World) :
    Calls Try.prog 12 #[.pointer none, .int .i64 r] w fun e w' => e = .returned (.tuple #[.int .i64 0, .int .i64 2]) ∧ Kept0 w w' :=
  guarded_no _ _ rfl r 2 w (by omega) fun w' _ => at_nil r 0 w'
end Go.Proofs.Ytljfbocjnpnaiaa
