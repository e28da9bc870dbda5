/-
  Steps through a region that draws its order and makes memory. No program.
-/
import Derived.Test.YtacnoakgfkcfbaaDoorFive
import Derived.Deep.RegionHeld3
namespace Go.Proofs.YtacnoakgfkcfbaaDoor
open Go.RowKit

section
variable {P : Program} {ops : Array Oper} {Q : Exit → Act → World → Prop}

theorem wpAnyH_one {S : World → Prop} {fuel i : Nat} {listed : Array Bool} {a : Act} {w : World} (hr : Region.ready .any ops listed = [i])
    (h : wpOp P ops Q i (fun a' w' => S w' ∧ wpAnyH P .any ops Q S fuel (listed.setIfInBounds i true) a' w') a w) : wpAnyH P .any ops Q S (fuel + 1) listed a w :=
  wpAnyH_all hr (by simp) (fun j hj => by rw [List.mem_singleton] at hj; subst hj; exact h)
theorem wpAnyH_two {S : World → Prop} {fuel i j : Nat} {listed : Array Bool} {a : Act} {w : World} (hr : Region.ready .any ops listed = [i, j])
    (h1 : wpOp P ops Q i (fun a' w' => S w' ∧ wpAnyH P .any ops Q S fuel (listed.setIfInBounds i true) a' w') a w)
    (h2 : wpOp P ops Q j (fun a' w' => S w' ∧ wpAnyH P .any ops Q S fuel (listed.setIfInBounds j true) a' w') a w) : wpAnyH P .any ops Q S (fuel + 1) listed a w :=
  wpAnyH_all hr (by simp) (fun k hk => by
    simp only [List.mem_cons, List.not_mem_nil, or_false] at hk
    rcases hk with rfl | rfl
    · exact h1
    · exact h2)
theorem cell_new (w : World) (x : Value) (t : TypeId) : (w.alloc (.cells #[x] t)).cell? ⟨w.heap.size, 0, none⟩ = some x := by
  unfold World.cell?
  rw [show (w.alloc (.cells #[x] t)).heap[w.heap.size]? = some (.cells #[x] t) from heap_new w _]
  rfl
theorem wpOp_build {i : Nat} {K : Act → World → Prop} {a : Act} {w : World} {o : Oper} (hi : ops[i]? = some o) (hw : Region.wanted o (yielded ops a.tmps) = true) (x : Value) (t : TypeId)
    (hr : (execOp a.eval o).run P w = .ok (.value (.slice (some ⟨w.heap.size, 0, none⟩) 1 1)) (w.alloc (.cells #[x] t)))
    (h : ∀ (b : Nat) (Y : World), Kept0 w Y → Y.cell? ⟨b, 0, none⟩ = some x → K (a.put o.dst (.slice (some ⟨b, 0, none⟩) 1 1)) Y) : wpOp P ops Q i K a w :=
  wpOp_value hi hw _ hr (h _ _ ((Kept.refl _ w).alloc _) (cell_new w x t))
end
end Go.Proofs.YtacnoakgfkcfbaaDoor
