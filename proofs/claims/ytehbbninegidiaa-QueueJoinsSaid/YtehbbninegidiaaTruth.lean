/-
  A cell that holds a truth. No program.
-/
import Derived.Test.YtehbbninegidiaaBase
namespace Go.Proofs.Ytehbbninegidiaa
open Go.RowKit

theorem heap_new3 (w : World) (o o' o'' : Obj) : (((w.alloc o).alloc o').alloc o'').heap[w.heap.size + 2]? = some o'' := by
  have := heap_new2 (w.alloc o) o' o''
  rwa [World.size_alloc] at this

/-- A cell that holds a truth. -/
structure BoolAt (w : World) (b : Nat) (v : Bool) : Prop where
  c : w.cell? ⟨b, 0, none⟩ = some (.bool v)
  f : w.frozen? ⟨b, 0, none⟩ = false
theorem BoolAt.of {w : World} {b : Nat} {v : Bool} {t : TypeId} (h : w.heap[b]? = some (.cells #[.bool v] t (0, 0))) : BoolAt w b v := ⟨by simp [World.cell?, h], by simp [World.frozen?, h]⟩
theorem BoolAt.lt {w : World} {b : Nat} {v : Bool} (h : BoolAt w b v) : b < w.heap.size := World.block_lt_of_cell? w _ h.c
theorem BoolAt.kept {w w' : World} {b : Nat} {v : Bool} (h : BoolAt w b v) {S : Nat → Prop} (k : Kept S w w') (hs : ¬ S b) : BoolAt w' b v :=
  ⟨(k.cell h.lt hs).trans h.c, (k.frozen h.lt hs).trans h.f⟩
theorem BoolAt.set {w : World} {b : Nat} {v : Bool} (h : BoolAt w b v) (v' : Bool) : BoolAt (w.setCell ⟨b, 0, none⟩ (.bool v')) b v' :=
  ⟨by simp [go_sem, h.c], by simp [go_sem, h.f]⟩

end Go.Proofs.Ytehbbninegidiaa
