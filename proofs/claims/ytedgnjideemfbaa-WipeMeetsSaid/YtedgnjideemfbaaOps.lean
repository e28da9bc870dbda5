/-
  A call of the statements', and a list of them, in memory.
-/
import Derived.Test.YtedgnjideemfbaaMade
namespace Go.Proofs.Ytedgnjideemfbaa
open Go.RowKit

/-- A call: what is asked, two places, a cell, whether what is guarded counts. -/
structure OpR where
  ask : Int
  r : Int
  c : Int
  r' : Int
  c' : Int
  x : Cel
  b : Bool
def OpR.vals (o : OpR) : List Value := [.int .i64 o.ask, .int .i64 o.r, .int .i64 o.c, .int .i64 o.r', .int .i64 o.c', .int .i32 o.x.g, .int .i64 o.x.a, .bool o.x.b, .int .i64 o.x.m, .bool o.b]

/-- A list of calls in memory. -/
def OpsIn (w : World) (a : Option Addr) (l : List OpR) : Prop := ∀ (i : Nat) (o : OpR), l[i]? = some o → ∃ b off, a = some ⟨b, off, none⟩ ∧ ∀ (j : Nat) (v : Value), o.vals[j]? = some v → w.cell? ⟨b, off + i * 10 + j, none⟩ = some v
theorem OpsIn.kept0 {w w' : World} {a : Option Addr} {l : List OpR} (h : OpsIn w a l) (k : Kept0 w w') : OpsIn w' a l := fun i o ho => by
  obtain ⟨b, off, h1, h2⟩ := h i o ho
  exact ⟨b, off, h1, fun j v hv => kcell k (h2 j v hv)⟩
end Go.Proofs.Ytedgnjideemfbaa
