/-
  Two grids of the document's answer that are the same are said to be alike.
-/
import Derived.Test.YtkpfhgfdfndliaaGreatDoorMIt
import Derived.Test.YtkpfhgfdfndliaaGreatDoorMWp
namespace Go.Proofs.YtkpfhgfdfndliaaGreatDoor
open Go.RowKit

set_option maxRecDepth 100000 in
set_option maxHeartbeats 4000000 in
theorem alike_same (g t cap h u cap' R C : Nat) (f : Nat → Cel) (w : World) (hg : RefAt w g t cap R C f) (hh : RefAt w h u cap' R C f) :
    Calls Tryz.prog 34 #[.pointer (some ⟨g, 0, none⟩), .pointer (some ⟨h, 0, none⟩)] w fun e w' => e = .returned (.bool true) ∧ Kept0 w w' := by
  have hRC : R * C ≤ 65025 := Nat.mul_le_mul hg.R2 hg.C2
  have hgr := hg.row
  have hhr := hh.row
  have a0 := hg.c0
  have a1 := hg.c1
  have a2 := hg.c2
  have b0 := hh.c0
  have b1 := hh.c1
  have b2 := hh.c2
  have hc1 := hg.cap
  have hc2 := hh.cap
  obtain ⟨N, hN⟩ : ∃ N, N = R * C := ⟨_, rfl⟩
  rw [← hN] at a2 b2 hRC hgr hhr hc1 hc2
  clear hN hg hh
  have HG := Lib.hid hgr
  have HH := Lib.hid hhr
  clear hgr hhr
  go_enter Tryz.func34, Tryz.ntmps34
  go_wp2_with fail
  go_quiet (fail)
  go_wp2_with fail
  go_loopw [5] (fun s4 wr => ∃ i : Nat, i ≤ N ∧ s4 = .int .i64 (i : Int) ∧ Kept0 w wr) (fun s4 _ => N - (intOf s4).toNat)
  case atStart => exact ⟨0, by omega, rfl, (Kept.refl _ _).drewN _⟩
  case round =>
    obtain ⟨i, hi, rfl, ki⟩ := hrel
    replace a2 := kcell ki a2
    replace b2 := kcell ki b2
    by_cases hlt : i < N
    · have hdt : decide ((i : Int) < (N : Int)) = true := by simp; omega
      obtain ⟨e0, e1, e2, e3⟩ := (HG.out.kept ki (fun e => e)).cell hlt
      obtain ⟨f0, f1, f2, f3⟩ := (HH.out.kept ki (fun e => e)).cell hlt
      go_wp2_with fail
      go_quiet (fail)
      go_wp2_with fail
      go_roundw
      case rel => exact ⟨i + 1, by omega, by go_num, ki.drewN _⟩
      case measure => simp [intOf]; omega
    · obtain rfl : i = N := by omega
      have hdt : decide ((i : Int) < (i : Int)) = false := by simp
      go_wp2_with fail
      go_ret
      exact ⟨rfl, ki⟩
end Go.Proofs.YtkpfhgfdfndliaaGreatDoor
