/-
  The law on a nil grid.
-/
import Derived.Test.YtedgnjideemfbaaAwake
import Derived.Test.YtedgnjideemfbaaOps
namespace Go.Proofs.Ytedgnjideemfbaa
open Go.RowKit

set_option maxHeartbeats 1000000 in
theorem nil_calls (ask r c r' c' : Int) (x : Cel) (b : Bool) (w : World) : Calls Try.prog 7 #[opV ask r c r' c' x b] w fun e w' => e = .returned (.bool true) ∧ Below w.heap.size w w' := by
  go_enter Try.func7, Try.ntmps7
  go_wp2_with fail
  refine (does_nil ask r c r' c' x b _).mono ?_
  rintro e w1 ⟨rfl, k1⟩
  have kk : Kept0 w w1 := ((Kept.refl _ w).alloc _).trans k1
  clear k1
  go_wp2_with fail
  refine (awake_any _).mono ?_
  rintro e w2 ⟨rfl, k2⟩
  replace kk := kk.trans k2
  clear k2
  go_wp2_with fail
  go_ret
  exact ⟨rfl, Kept0.below kk⟩
end Go.Proofs.Ytedgnjideemfbaa
