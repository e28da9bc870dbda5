/-
  What the small calls of walk do: bound, and the document's near.
-/
import Derived.Test.YtkdnjkcebfckiaaWNums
import Derived.Deep.QuietTactic
import Derived.BigQuiet
namespace Go.Proofs.Ytkdnjkcebfckiaa
open Go.RowKit

set_option maxHeartbeats 400000 in
theorem wbound_any (n lo hi : Int) (w : World) :
    Calls Try.prog 61 #[.int .i64 n, .int .i64 lo, .int .i64 hi] w fun e w' => e = .returned (.int .i64 (max lo (min n hi))) ∧ w = w' := by
  go_enter Try.func61, Try.ntmps61
  go_wp2
  all_goals
    go_ret
    exact ⟨ret_int (by omega), rfl⟩

set_option maxHeartbeats 400000 in
theorem refnear_any (x n : Int) (h0 : 1 ≤ n) (h1 : n ≤ 255) (w : World) :
    Calls Try.prog 56 #[.int .i64 x, .int .i64 n] w fun e w' => e = .returned (.int .i64 (nr x n)) ∧ w = w' := by
  go_enter Try.func56, Try.ntmps56
  go_wp2
  all_goals
    go_ret
    exact ⟨ret_int (by unfold nr; omega), rfl⟩

end Go.Proofs.Ytkdnjkcebfckiaa
