/-
  What the small calls do: bound, May, and the document's near, far and May.
-/
import Derived.Test.YtonpkogafgnkjaaProg
import Derived.Test.YtonpkogafgnkjaaNums
import Derived.Deep.QuietTactic
import Derived.BigQuiet
namespace Go.Proofs.Ytonpkogafgnkjaa
open Go.RowKit

set_option maxHeartbeats 400000 in
theorem bound_any (n lo hi : Int) (w : World) :
    Calls Try.prog 22 #[.int .i64 n, .int .i64 lo, .int .i64 hi] w fun e w' => e = .returned (.int .i64 (max lo (min n hi))) ∧ w = w' := by
  go_enter Try.func22, Try.ntmps22
  go_wp2
  all_goals
    go_ret
    exact ⟨ret_int (by omega), rfl⟩

set_option maxHeartbeats 400000 in
theorem may_any (r c : Int) (w : World) :
    Calls Try.prog 21 #[pos r c] w fun e w' => e = .returned (.int .i64 (mayE r c)) ∧ Kept0 w w' := by
  go_enter Try.func21, Try.ntmps21
  go_wp2
  all_goals
    go_ret
    refine ⟨ret_int ?_, ((Kept.refl _ w).alloc _)⟩
    first | exact (mayE_yes ⟨by omega, by omega, by omega, by omega⟩).symm | exact (mayE_no (by unfold may; omega)).symm

theorem ret_may {R C : Int} (b : Bool) (h : b = true ↔ may R C) : Ending.returned (.bool b) = .returned (.bool (decide (may R C))) := by
  by_cases hm : may R C
  · rw [decide_eq_true hm, h.2 hm]
  · cases b
    · rw [decide_eq_false hm]
    · exact absurd (h.1 rfl) hm

set_option maxHeartbeats 400000 in
theorem refMay1_any (r c : Int) (w : World) :
    Calls Try.prog 23 #[.int .i64 r, .int .i64 c] w fun e w' => e = .returned (.bool (decide (may r c))) ∧ w = w' := by
  go_enter Try.func23, Try.ntmps23
  go_wp2
  all_goals
    go_ret
    refine ⟨ret_may _ ?_, rfl⟩
    unfold may
    simp
    try omega

theorem refMay_any (r c : Int) (w : World) :
    Calls Try.prog 11 #[pos r c] w fun e w' => e = .returned (.bool (decide (may r c))) ∧ Kept0 w w' := by
  go_enter Try.func11, Try.ntmps11
  go_wp2_with fail
  refine (refMay1_any r c _).mono ?_
  rintro e w1 ⟨rfl, rfl⟩
  go_wp2_with fail
  go_ret
  exact ⟨rfl, (Kept.refl _ w).alloc _⟩

set_option maxHeartbeats 400000 in
theorem refnear_any (x n : Int) (h0 : 1 ≤ n) (h1 : n ≤ 255) (w : World) :
    Calls Try.prog 24 #[.int .i64 x, .int .i64 n] w fun e w' => e = .returned (.int .i64 (nr x n)) ∧ w = w' := by
  go_enter Try.func24, Try.ntmps24
  go_wp2
  all_goals
    go_ret
    exact ⟨ret_int (by unfold nr; omega), rfl⟩

set_option maxHeartbeats 400000 in
theorem far_any (x : Int) (w : World) :
    Calls Try.prog 25 #[.int .i64 x] w fun e w' => e = .returned (.int .i64 (cut x 1000)) ∧ w = w' := by
  go_enter Try.func25, Try.ntmps25
  go_wp2
  all_goals
    go_ret
    exact ⟨ret_int (by unfold cut; omega), rfl⟩

end Go.Proofs.Ytonpkogafgnkjaa
