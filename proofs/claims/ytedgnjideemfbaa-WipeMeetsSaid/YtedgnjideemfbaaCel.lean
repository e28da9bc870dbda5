/-
  A cell as a value, and a cell in a block of its own.
-/
import Derived.Test.YtedgnjideemfbaaRowOps
namespace Go.Proofs.Ytedgnjideemfbaa
open Go.RowKit

abbrev Cel.v (x : Cel) : Value := .agg #[.int .i32 x.g, .int .i64 x.a, .bool x.b, .int .i64 x.m]


/-- A cell that lies in a block of its own. -/
structure CelAt (w : World) (b : Nat) (x : Cel) : Prop where
  c0 : w.cell? ⟨b, 0, none⟩ = some (.int .i32 x.g)
  c1 : w.cell? ⟨b, 1, none⟩ = some (.int .i64 x.a)
  c2 : w.cell? ⟨b, 2, none⟩ = some (.bool x.b)
  c3 : w.cell? ⟨b, 3, none⟩ = some (.int .i64 x.m)
theorem CelAt.new (w : World) (x : Cel) (t : TypeId) : CelAt (w.alloc (.cells #[.int .i32 x.g, .int .i64 x.a, .bool x.b, .int .i64 x.m] t)) w.heap.size x := by
  obtain ⟨h0, h1, h2, h3⟩ := cel_new w x t
  exact ⟨h0, h1, h2, h3⟩
theorem CelAt.kept {S : Nat → Prop} {w w' : World} {b : Nat} {x : Cel} (h : CelAt w b x) (k : Kept S w w') (hs : ¬ S b) : CelAt w' b x :=
  ⟨kcellS k h.c0 hs, kcellS k h.c1 hs, kcellS k h.c2 hs, kcellS k h.c3 hs⟩
theorem CelAt.drew {w : World} {b : Nat} {x : Cel} (h : CelAt w b x) : CelAt w.drew b x := ⟨h.c0, h.c1, h.c2, h.c3⟩

end Go.Proofs.Ytedgnjideemfbaa
