/-
  What the document's answer, Of of vizardref02, is.
-/
import Derived.Test.YtlhajbcabpfbkaaDoorGlOf
namespace Go.Proofs.YtlhajbcabpfbkaaDoor.Gl
open Go.RowKit

def listCells (l : List Nat) : Array Value := (l.map fun n : Nat => Value.int .i32 (n : Int)).toArray
theorem listCells_get {l : List Nat} {k : Nat} (h : k < l.length) : (listCells l)[k]? = some (.int .i32 (l.getD k 0 : Int)) := by
  simp [listCells, h, List.getD]

/-- An operation that answers a value, told as a run. -/
theorem wpList_value {P : Program} {ops : Array Oper} {Q : Exit → Act → World → Prop} {a : Act} {w w' : World} {rest : List Oper} {o : Oper} {v : Value} (hg : o.guard = none) (hr : (execOp a.eval o).run P w = .ok (.value v) w')
    (h : wpList P ops Q rest (a.put o.dst v) w') : wpList P ops Q (o :: rest) a w :=
  wpList_plain hg fun K hK => by
    unfold Oper.wp
    rw [hr]
    exact hK _ _ h





/-- A list that was laid as a row. -/
theorem laid_row (w : World) (l : List Nat) : (∀ k, k < l.length → (w.alloc (.cells (listCells l) 21)).cell? ⟨w.heap.size, k, none⟩ = some (.int .i32 (l.getD k 0 : Int))) ∧ Kept0 w (w.alloc (.cells (listCells l) 21)) := by
  refine ⟨fun k hk => ?_, (Kept.refl _ w).alloc _⟩
  unfold World.cell?
  rw [show (w.alloc (.cells (listCells l) 21)).heap[w.heap.size]? = some (.cells (listCells l) 21) from heap_new w _]
  exact listCells_get hk








end Go.Proofs.YtlhajbcabpfbkaaDoor.Gl
