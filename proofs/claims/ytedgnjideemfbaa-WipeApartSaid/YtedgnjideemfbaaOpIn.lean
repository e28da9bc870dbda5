/-
  A call in a block of its own; calls inside a round.
-/
import Derived.Test.YtedgnjideemfbaaSameG
import Derived.Test.YtedgnjideemfbaaOps
namespace Go.Proofs.Ytedgnjideemfbaa
open Go.RowKit

theorem round_call0 {l : Nat} {f : FuncId} {args : Array Value} {w : World} {R : Ending → World → Prop} (h : Calls Try.prog f args w R) :
    Fence.wide.fn f ∧ Fence.wide.depth = none ∧ CallsIn (Fence.wide.inRound l) 0 Try.prog f args w R :=
  ⟨trivial, rfl, CallsIn.inRound l (callsIn_wide.2 h)⟩

/-- A call in a block of its own. -/
def OpIn (w : World) (b : Nat) (o : OpR) : Prop := ∀ (j : Nat) (v : Value), o.vals[j]? = some v → w.cell? ⟨b, j, none⟩ = some v
theorem OpIn.kept {S : Nat → Prop} {w w' : World} {b : Nat} {o : OpR} (h : OpIn w b o) (k : Kept S w w') (hs : ¬ S b) : OpIn w' b o := fun j v hv => kcellS k (h j v hv) hs
theorem opIn_new (w : World) (o : OpR) : OpIn (w.alloc (.cells #[.int .i64 o.ask, .int .i64 o.r, .int .i64 o.c, .int .i64 o.r', .int .i64 o.c', .int .i32 o.x.g, .int .i64 o.x.a, .bool o.x.b, .int .i64 o.x.m, .bool o.b] 40)) w.heap.size o := by
  intro j v hv
  have hj : j < 10 := by have := (List.getElem?_eq_some_iff.1 hv).1; simpa [OpR.vals] using this
  have hh := heap_new w (.cells #[.int .i64 o.ask, .int .i64 o.r, .int .i64 o.c, .int .i64 o.r', .int .i64 o.c', .int .i32 o.x.g, .int .i64 o.x.a, .bool o.x.b, .int .i64 o.x.m, .bool o.b] 40)
  have : (#[.int .i64 o.ask, .int .i64 o.r, .int .i64 o.c, .int .i64 o.r', .int .i64 o.c', .int .i32 o.x.g, .int .i64 o.x.a, .bool o.x.b, .int .i64 o.x.m, .bool o.b] : Array Value)[j]? = some v := by
    rw [← hv]; simp [OpR.vals]
  simp only [World.cell?, hh, this]
  rfl
end Go.Proofs.Ytedgnjideemfbaa
