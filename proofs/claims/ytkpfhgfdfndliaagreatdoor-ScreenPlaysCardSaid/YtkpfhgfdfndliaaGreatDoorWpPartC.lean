/-
  What the document's answer's Part is.
-/
import Derived.Test.YtkpfhgfdfndliaaGreatDoorMSh2
namespace Go.Proofs.YtkpfhgfdfndliaaGreatDoor
namespace Wp
open Go.RowKit

/-- The numbers of a part's first place, and of its last one. -/
def refA (C r c p : Int) : Int := if p = 1 ∨ p = 3 then 0 else if p = 2 ∨ p = 5 then r * C + c else r * C
def refB (R C r c p : Int) : Int := if p = 1 ∨ p = 2 then R * C - 1 else if p = 3 ∨ p = 6 then r * C + c else r * C + C - 1

set_option maxHeartbeats 2000000 in
theorem refPart_ok (R C r c p : Int) (w : World) (h1 : 1 ≤ R ∧ R ≤ 255 ∧ 1 ≤ C ∧ C ≤ 255) (h2 : 0 ≤ r ∧ r < R ∧ 0 ≤ c ∧ c < C) (h3 : 1 ≤ p ∧ p ≤ 6) :
    Calls Tryz.prog 118 #[.agg #[.int .i64 R, .int .i64 C], .agg #[.int .i64 r, .int .i64 c], .int .i64 p] w fun e w' =>
      e = .returned (.tuple #[.int .i64 (refA C r c p), .int .i64 (refB R C r c p)]) ∧ Kept0 w w' := by
  have m1 : r * C ≤ 255 * 255 := Int.mul_le_mul (by omega) (by omega) (by omega) (by omega)
  have m2 : R * C ≤ 255 * 255 := Int.mul_le_mul (by omega) (by omega) (by omega) (by omega)
  have m3 : 0 ≤ r * C := Int.mul_nonneg (by omega) (by omega)
  have m4 : 0 ≤ R * C := Int.mul_nonneg (by omega) (by omega)
  obtain ⟨a1, a2, a3, a4⟩ := h1
  obtain ⟨b1, b2, b3, b4⟩ := h2
  have hp : p = 1 ∨ p = 2 ∨ p = 3 ∨ p = 4 ∨ p = 5 ∨ p = 6 := by omega
  clear h3
  generalize hrC : r * C = X at *
  generalize hRC : R * C = Y at *
  rcases hp with rfl | rfl | rfl | rfl | rfl | rfl
  · rw [show refA C r c 1 = 0 from rfl, show refB R C r c 1 = R * C - 1 from rfl, hRC]
    go_enter Tryz.func118, Tryz.ntmps118
    go_wp2_with fail
    go_ret2
    exact ⟨rfl, ((Kept.refl _ w).alloc _).alloc _⟩
  · rw [show refA C r c 2 = r * C + c from rfl, show refB R C r c 2 = R * C - 1 from rfl, hRC, hrC]
    go_enter Tryz.func118, Tryz.ntmps118
    go_wp2_with fail
    go_ret2
    exact ⟨rfl, ((Kept.refl _ w).alloc _).alloc _⟩
  · rw [show refA C r c 3 = 0 from rfl, show refB R C r c 3 = r * C + c from rfl, hrC]
    go_enter Tryz.func118, Tryz.ntmps118
    go_wp2_with fail
    go_ret2
    exact ⟨rfl, ((Kept.refl _ w).alloc _).alloc _⟩
  · rw [show refA C r c 4 = r * C from rfl, show refB R C r c 4 = r * C + C - 1 from rfl, hrC]
    have ew : IntKind.i64.wrap (IntKind.i64.wrap (X + C) - 1) = X + C - 1 := by rw [IntWalk.i64_left, IntWalk.i64_left, w64 (n := X + C) (by omega) (by omega), w64 (by omega) (by omega)]
    have EW := Lib.hid ew
    clear ew
    go_enter Tryz.func118, Tryz.ntmps118
    go_wp2_with fail
    go_region_held3 (fun w' => w'.cell? ⟨w.heap.size, 1, none⟩ = some (.int .i64 C)) (go_keep) (first | fail)
    all_goals
      rw [EW.out]
      go_wp2_with fail
      go_ret2
      exact ⟨rfl, (((Kept.refl _ w).alloc _).alloc _).drew⟩
  · rw [show refA C r c 5 = r * C + c from rfl, show refB R C r c 5 = r * C + C - 1 from rfl, hrC]
    have ew : IntKind.i64.wrap (IntKind.i64.wrap (X + C) - 1) = X + C - 1 := by rw [IntWalk.i64_left, IntWalk.i64_left, w64 (n := X + C) (by omega) (by omega), w64 (by omega) (by omega)]
    have EW := Lib.hid ew
    clear ew
    go_enter Tryz.func118, Tryz.ntmps118
    go_wp2_with fail
    go_region_held3 (fun w' => w'.cell? ⟨w.heap.size, 1, none⟩ = some (.int .i64 C)) (go_keep) (first | fail)
    all_goals
      rw [EW.out]
      go_wp2_with fail
      go_ret2
      exact ⟨rfl, (((Kept.refl _ w).alloc _).alloc _).drew⟩
  · rw [show refA C r c 6 = r * C from rfl, show refB R C r c 6 = r * C + c from rfl, hrC]
    go_enter Tryz.func118, Tryz.ntmps118
    go_wp2_with fail
    go_ret2
    exact ⟨rfl, ((Kept.refl _ w).alloc _).alloc _⟩
end Wp
end Go.Proofs.YtkpfhgfdfndliaaGreatDoor
