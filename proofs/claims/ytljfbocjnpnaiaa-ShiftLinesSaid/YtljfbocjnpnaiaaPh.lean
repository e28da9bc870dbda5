/-
  What a law's grid and the document's are like, call by call.
-/
import Derived.Test.YtljfbocjnpnaiaaAwake
namespace Go.Proofs.Ytljfbocjnpnaiaa
open Go.RowKit

/-- A grid with the cells fg, and the document's with the cells fr; what is asked lies in block p; all that was there is kept. -/
structure Ph (w : World) (g t cg h u ch p R C : Nat) (r c n : Int) (b : Bool) (fg fr : Nat → Cel) (w' : World) : Prop where
  grid : GridAt w' g t cg R C fg
  ref : RefAt w' h u ch R C fr
  kept : Kept0 w w'
  p0 : w'.cell? ⟨p, 0, none⟩ = some (.int .i64 r)
  p1 : w'.cell? ⟨p, 1, none⟩ = some (.int .i64 c)
  p2 : w'.cell? ⟨p, 2, none⟩ = some (.int .i64 n)
  p3 : w'.cell? ⟨p, 3, none⟩ = some (.bool b)
  n1 : w.heap.size ≤ t
  n2 : w.heap.size ≤ u
  n3 : ¬ t = u
  n4 : ¬ t = h
  n5 : ¬ u = g
  n6 : ¬ p = t
  n7 : ¬ p = u

namespace Ph
variable {w : World} {g t cg h u ch p R C : Nat} {r c n : Int} {b : Bool} {fg fr : Nat → Cel} {w1 : World}
theorem keep (H : Ph w g t cg h u ch p R C r c n b fg fr w1) {w2 : World} (k : Kept0 w1 w2) : Ph w g t cg h u ch p R C r c n b fg fr w2 :=
  ⟨H.grid.kept k (fun e => e) (fun e => e), H.ref.kept k (fun e => e) (fun e => e), H.kept.trans k, kcell k H.p0, kcell k H.p1, kcell k H.p2, kcell k H.p3, H.n1, H.n2, H.n3, H.n4, H.n5, H.n6, H.n7⟩
theorem drew (H : Ph w g t cg h u ch p R C r c n b fg fr w1) : Ph w g t cg h u ch p R C r c n b fg fr w1.drew := H.keep (Kept.refl _ w1).drew
theorem ongrid (H : Ph w g t cg h u ch p R C r c n b fg fr w1) {w2 : World} {fg' : Nat → Cel} (hg : GridAt w2 g t cg R C fg') (k : Kept (· = t) w1 w2) : Ph w g t cg h u ch p R C r c n b fg' fr w2 :=
  ⟨hg, H.ref.kept k (fun e => H.n4 e.symm) (fun e => H.n3 e.symm), H.kept.later k (fun i hi e => by have := H.n1; omega), kcellS k H.p0 H.n6, kcellS k H.p1 H.n6, kcellS k H.p2 H.n6, kcellS k H.p3 H.n6, H.n1, H.n2, H.n3, H.n4, H.n5, H.n6, H.n7⟩
theorem onref (H : Ph w g t cg h u ch p R C r c n b fg fr w1) {w2 : World} {fr' : Nat → Cel} (hg : RefAt w2 h u ch R C fr') (k : Kept (· = u) w1 w2) : Ph w g t cg h u ch p R C r c n b fg fr' w2 :=
  ⟨H.grid.kept k (fun e => H.n5 e.symm) (fun e => H.n3 e), hg, H.kept.later k (fun i hi e => by have := H.n2; omega), kcellS k H.p0 H.n7, kcellS k H.p1 H.n7, kcellS k H.p2 H.n7, kcellS k H.p3 H.n7, H.n1, H.n2, H.n3, H.n4, H.n5, H.n6, H.n7⟩
end Ph
end Go.Proofs.Ytljfbocjnpnaiaa
