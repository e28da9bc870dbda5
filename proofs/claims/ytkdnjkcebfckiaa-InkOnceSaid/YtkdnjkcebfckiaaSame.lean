/-
  The statements' own words: Same.
-/
import Derived.Test.YtkdnjkcebfckiaaMade
namespace Go.Proofs.Ytkdnjkcebfckiaa
open Go.RowKit

/-- A cell is itself. -/
theorem same_cel (x : Cel) (w : World) : (Op.equalIn 10000 36 x.v x.v).run Try.prog w = .ok true w := by
  rw [run_equalIn_agg w 9999 36 _ _ (by kernel_rfl) (by kernel_rfl)]
  simp [go_sem]

set_option maxHeartbeats 2000000 in
theorem sameL (g t cap g' t' cap' R C : Nat) (f : Nat → Cel) (w : World) (hg : GridAt w g t cap R C f) (hr : RefAt w g' t' cap' R C f) :
    Calls Try.prog 18 #[.pointer (some ⟨g, 0, none⟩), .pointer (some ⟨g', 0, none⟩)] w fun e w' => e = .returned (.bool true) ∧ Kept0 w w' := by
  have hC2 := hg.C2
  have hR2 := hg.R2
  have HG := Lib.hid hg
  have HR := Lib.hid hr
  have a0 := hr.c0
  have a1 := hr.c1
  clear hg hr
  go_enter Try.func18, Try.ntmps18
  go_wp2_with fail
  refine (size_any g R C _ HG.out.c0 HG.out.c1).mono ?_
  rintro e w1 ⟨rfl, hk1⟩
  obtain ⟨W, hW⟩ : ∃ W, W = w1.alloc (.cells #[.int .i64 (R : Int), .int .i64 (C : Int)] 73) := ⟨_, rfl⟩
  have kW : Kept0 w W := by rw [hW]; exact hk1.alloc _
  have z0 : W.cell? ⟨w1.heap.size, 0, none⟩ = some (.int .i64 (R : Int)) := by rw [hW]; simp [go_sem]
  have z1 : W.cell? ⟨w1.heap.size, 1, none⟩ = some (.int .i64 (C : Int)) := by rw [hW]; simp [go_sem]
  go_wp2_with fail
  rw [← hW]
  clear hW hk1
  have b0 := kcell kW a0
  have b1 := kcell kW a1
  go_quiet (fail)
  go_wp2_with fail
  go_loopw [6, 7, 8, 9] (fun i s7 s8 s9 wr => ∃ d : Nat, d ≤ R ∧ i = .int .i64 (d : Int) ∧ Kept0 w wr) (fun i _ _ _ _ => R - (intOf i).toNat)
  case atStart => exact ⟨0, by omega, rfl, kW.drewN _⟩
  case round =>
    obtain ⟨d, hd, rfl, hkp⟩ := hrel
    have q0 := kcell hkp a0
    by_cases hlt : d < R
    · have hdt : decide ((d : Int) < (R : Int)) = true := by simp; omega
      go_wp2_with fail
      go_loopw [7, 8, 9] (fun i s8 s9 wr => ∃ e : Nat, e ≤ C ∧ i = .int .i64 (e : Int) ∧ Kept0 w wr) (fun i _ _ _ => C - (intOf i).toNat)
      case atStart => exact ⟨0, by omega, rfl, hkp⟩
      case round =>
        obtain ⟨e, he, rfl, hkq⟩ := hrel
        have q1 := kcell hkq a1
        by_cases hlt2 : e < C
        · have hdk : decide ((e : Int) < (C : Int)) = true := by simp; omega
          have hT : Hid (There R C (d : Int) (e : Int)) := ⟨by omega, by omega, by omega, by omega⟩
          go_wp2_with fail
          refine (at_in g t cap R C f _ _ _ (HG.out.kept hkq (fun e => e) (fun e => e)) hT.out).mono ?_
          rintro e9 w3 ⟨rfl, hk3⟩
          generalize hx : f (idx C (d : Int) (e : Int)) = x
          have HX := Lib.hid hx
          clear hx
          have hkr := hkq.trans hk3
          obtain ⟨V, hV⟩ : ∃ V, V = w3.alloc (.cells #[.int .i32 x.g, .int .i64 x.a, .bool x.b, .int .i64 x.m] 36) := ⟨_, rfl⟩
          have kV : Kept0 w V := by rw [hV]; exact hkr.alloc _
          have hc : CelAt V w3.heap.size x := by rw [hV]; exact CelAt.new w3 x 36
          go_wp2_with fail
          rw [← hV]
          clear hV hk3 hkr
          obtain ⟨y0, y1, y2, y3⟩ := hc
          have HR1 : Hid (RefAt V g' t' cap' R C f) := HR.out.kept kV (fun e => e) (fun e => e)
          have hsm := same_cel x
          go_region_held3 (fun w' => w'.cell? ⟨w3.heap.size, 0, none⟩ = some (.int .i32 x.g) ∧ w'.cell? ⟨w3.heap.size, 1, none⟩ = some (.int .i64 x.a) ∧ w'.cell? ⟨w3.heap.size, 2, none⟩ = some (.bool x.b) ∧ w'.cell? ⟨w3.heap.size, 3, none⟩ = some (.int .i64 x.m)) (go_keep)
            (first
              | (go_at_call 33; refine (getR g' t' cap' R C f _ _ _ (HR1.out.kept ((Kept.refl (fun _ => False) V).drew) (fun e => e) (fun e => e)) hT.out).mono ?_; rw [HX.out]; rintro e9 w4 ⟨rfl, hk4⟩; have hk5 : Kept0 V w4 := ((Kept.refl (fun _ => False) V).drew).trans hk4; have v0 := kcell hk5 y0; have v1 := kcell hk5 y1; have v2 := kcell hk5 y2; have v3 := kcell hk5 y3))
          all_goals
            go_wp2_with fail
            go_roundw
            case rel => exact ⟨e + 1, by omega, by go_num, kV.trans hk5⟩
            case measure => simp [intOf]; omega
        · obtain rfl : e = C := by omega
          have hdk : decide ((e : Int) < (e : Int)) = false := by simp
          go_wp2_with fail
          go_roundw
          case rel => exact ⟨d + 1, by omega, by go_num, hkq⟩
          case measure => simp [intOf]; omega
    · obtain rfl : d = R := by omega
      have hdk : decide ((d : Int) < (d : Int)) = false := by simp
      go_wp2_with fail
      go_ret
      exact ⟨rfl, hkp⟩
end Go.Proofs.Ytkdnjkcebfckiaa
