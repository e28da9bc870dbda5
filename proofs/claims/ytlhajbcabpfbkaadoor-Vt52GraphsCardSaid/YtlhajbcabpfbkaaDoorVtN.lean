/-
  A terminal that is none has nothing.
-/
import Derived.Test.YtlhajbcabpfbkaaDoorVtL
namespace Go.Proofs.YtlhajbcabpfbkaaDoor
open Go.RowKit

theorem reset_nil (w : World) : Calls Tryd.prog 11 #[.pointer none] w fun e w' => e = .returned (.tuple #[]) ∧ w' = w := by
  go_enter Tryd.func11, Tryd.ntmps11
  go_wp2_with fail
  refine bodyPost_ret (results_none rfl _ _ _) rfl ?_
  exact ⟨rfl, rfl⟩
theorem drop_nil (w : World) : Calls Tryd.prog 12 #[.pointer none] w fun e w' => e = .returned (.tuple #[]) ∧ w' = w := by
  go_enter Tryd.func12, Tryd.ntmps12
  go_wp2_with fail
  refine bodyPost_ret (results_none rfl _ _ _) rfl ?_
  exact ⟨rfl, rfl⟩
theorem pending_nil (w : World) : Calls Tryd.prog 14 #[.pointer none] w fun e w' => e = .returned (.string ⟨#[]⟩) ∧ w' = w := by
  go_enter Tryd.func14, Tryd.ntmps14
  go_wp2_with fail
  go_ret
  exact ⟨rfl, rfl⟩
theorem modes_nil (w : World) : Calls Tryd.prog 13 #[.pointer none] w fun e w' => e = .returned (.agg #[.bool false, .bool false, .bool false]) ∧ Kept0 w w' := by
  go_enter Tryd.func13, Tryd.ntmps13
  go_wp2_with fail
  exact bodyPost_ret (v := .agg #[.bool false, .bool false, .bool false]) (by simp [results, Tryd.results13, go_sem]) rfl ⟨rfl, (Kept.refl (fun _ => False) w).alloc _⟩
set_option maxRecDepth 100000 in
theorem feed_nil (s : ByteArray) (w : World) : Calls Tryd.prog 10 #[.pointer none, .string s] w fun e w' => e = .returned (.tuple #[]) ∧ Kept0 w w' := by
  refine calls_marks Tryd.func10 rfl ?_
  simp only [Tryd.ntmps10, List.size_toArray, List.length_cons, List.length_nil, Nat.reduceAdd, Nat.reduceSub, Array.replicate_succ, Array.replicate_zero, List.push_toArray, List.append_toArray, List.nil_append, List.cons_append]
  go_wp2_with fail
  exact ⟨_, results_none rfl _ _ _, rfl, (Kept.refl _ w).alloc _⟩
end Go.Proofs.YtlhajbcabpfbkaaDoor
