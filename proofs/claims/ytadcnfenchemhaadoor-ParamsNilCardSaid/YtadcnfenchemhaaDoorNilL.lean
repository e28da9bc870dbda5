/-
  ParamsNil: a nil buffer has nothing.
-/
import Derived.Test.YtadcnfenchemhaaDoorAwC
namespace Go.Proofs.YtadcnfenchemhaaDoor
open Go.RowKit Go.Maps

theorem push_nil (c : Int) (w : World) : Calls Tryd.prog 16 #[.pointer none, .int .u8 c] w fun e w' => e = .returned (.bool false) ∧ Kept0 w w' := by
  go_enter Tryd.func16, Tryd.ntmps16
  go_wp2_with fail
  go_ret
  exact ⟨rfl, Kept.refl _ _⟩
theorem reset_nil (w : World) : Calls Tryd.prog 15 #[.pointer none] w fun e w' => e = .returned (.tuple #[]) ∧ Kept0 w w' := by
  go_enter Tryd.func15, Tryd.ntmps15
  go_wp2_with fail
  refine bodyPost_ret (results_none rfl _ _ _) rfl ?_
  exact ⟨rfl, Kept.refl _ _⟩
theorem bytes_nil (w : World) : Calls Tryd.prog 18 #[.pointer none] w fun e w' => e = .returned (.string ⟨#[]⟩) ∧ Kept0 w w' := by
  go_enter Tryd.func18, Tryd.ntmps18
  go_wp2_with fail
  go_ret
  exact ⟨rfl, Kept.refl _ _⟩
theorem len_nil (w : World) : Calls Tryd.prog 19 #[.pointer none] w fun e w' => e = .returned (.int .i64 0) ∧ Kept0 w w' := by
  go_enter Tryd.func19, Tryd.ntmps19
  go_wp2_with fail
  go_ret
  exact ⟨rfl, Kept.refl _ _⟩
theorem lost_nil (w : World) : Calls Tryd.prog 20 #[.pointer none] w fun e w' => e = .returned (.int .i64 0) ∧ Kept0 w w' := by
  go_enter Tryd.func20, Tryd.ntmps20
  go_wp2_with fail
  go_ret
  exact ⟨rfl, Kept.refl _ _⟩
theorem bnums_nil (w : World) : Calls Tryd.prog 21 #[.pointer none] w fun e w' => (∃ a cap, e = .returned (.tuple #[.slice a 0 cap, .bool true])) ∧ Kept0 w w' := by
  go_enter Tryd.func21, Tryd.ntmps21
  go_wp2_with fail
  refine (bytes_nil w).mono ?_
  rintro e w1 ⟨rfl, k1⟩
  go_wp2_with fail
  refine (numbers_none w1).mono ?_
  rintro e w2 ⟨⟨a, cap, rfl, _⟩, k2⟩
  go_wp2_with fail
  go_ret2
  exact ⟨⟨a, cap, rfl⟩, k1.trans k2⟩
set_option maxHeartbeats 1000000 in
theorem nil_calls (c : Int) (w : World) : Calls Tryd.prog 6 #[.int .u8 c] w fun e w' => e = .returned (.bool true) ∧ Below w.heap.size w w' := by
  go_enter Tryd.func6, Tryd.ntmps6
  go_wp2_with fail
  refine (push_nil c w).mono ?_
  rintro e w1 ⟨rfl, k1⟩
  go_wp2_with fail
  refine (reset_nil w1).mono ?_
  rintro e w2 ⟨rfl, k2⟩
  go_wp2_with fail
  refine (bnums_nil w2).mono ?_
  rintro e w3 ⟨⟨a, cap, rfl⟩, k3⟩
  go_wp2_with fail
  refine (bytes_nil w3).mono ?_
  rintro e w4 ⟨rfl, k4⟩
  go_wp2_with fail
  refine (len_nil w4).mono ?_
  rintro e w5 ⟨rfl, k5⟩
  go_wp2_with fail
  refine (lost_nil w5).mono ?_
  rintro e w6 ⟨rfl, k6⟩
  go_wp2_with fail
  refine (awake_any w6).mono ?_
  rintro e w7 ⟨rfl, k7⟩
  go_wp2_with fail
  go_ret
  exact ⟨rfl, Kept0.below (((k1.trans k2).trans (k3.trans k4)).trans ((k5.trans k6).trans k7))⟩
end Go.Proofs.YtadcnfenchemhaaDoor
