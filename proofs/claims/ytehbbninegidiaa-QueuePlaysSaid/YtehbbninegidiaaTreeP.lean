/-
  Steps through a region that draws its order, operation by operation. No program.
-/
import Derived.Test.YtehbbninegidiaaCalm
import Derived.Deep.RegionHeld3
namespace Go.Proofs.Ytehbbninegidiaa
open Go.RowKit

section
variable {P : Program} {ops : Array Oper} {Q : Exit → Act → World → Prop}
theorem wpOp_enter {i : Nat} {K : Act → World → Prop} {a : Act} {w w' : World} {o : Oper} (hi : ops[i]? = some o) (hw : Region.wanted o (yielded ops a.tmps) = true) (f : Nat) (args : Array Value)
    (hr : (execOp a.eval o).run P w = .ok (.enter f args) w') (v : Value) (C : World → Prop) (hc : Calls P f args w' fun e w'' => e = .returned v ∧ C w'') (h : ∀ w'', C w'' → K (a.put o.dst v) w'') : wpOp P ops Q i K a w := by
  unfold wpOp
  rw [hi]
  simp only
  rw [if_pos hw]
  left
  unfold Oper.wp
  rw [hr]
  refine Calls.mono hc ?_
  rintro e w'' ⟨rfl, hC⟩
  exact h _ hC
theorem wpAnyH_one {S : World → Prop} {fuel i : Nat} {listed : Array Bool} {a : Act} {w : World} (hr : Region.ready .any ops listed = [i])
    (h : wpOp P ops Q i (fun a' w' => S w' ∧ wpAnyH P .any ops Q S fuel (listed.setIfInBounds i true) a' w') a w) : wpAnyH P .any ops Q S (fuel + 1) listed a w :=
  wpAnyH_all hr (by simp) (fun j hj => by rw [List.mem_singleton] at hj; subst hj; exact h)
/-- What is held may be more from some operation on. -/
theorem wpAnyH_weaken {S S' : World → Prop} (hS : ∀ w, S' w → S w) : ∀ {fuel : Nat} {listed : Array Bool} {a : Act} {w : World}, wpAnyH P .any ops Q S' fuel listed a w → wpAnyH P .any ops Q S fuel listed a w
  | 0, _, _, _, h => h
  | _ + 1, _, _, _, h => ⟨h.1, fun i hi => wpOp_mono (fun _ _ h' => ⟨hS _ h'.1, wpAnyH_weaken hS h'.2⟩) (h.2 i hi)⟩
end
end Go.Proofs.Ytehbbninegidiaa
