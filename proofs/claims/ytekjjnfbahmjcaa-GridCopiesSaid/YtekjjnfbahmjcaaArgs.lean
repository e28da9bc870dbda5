/-
  How the arguments are read: places, sizes, calls.
-/
import Derived.Test.YtekjjnfbahmjcaaRows
import Derived.Test.YtekjjnfbahmjcaaFew
import Derived.ProofKit
import Derived.OpenShut
import Derived.ShutString
import Derived.ChangeOld
namespace Go.Proofs.Ytekjjnfbahmjcaa
open Go.ChangeShapes Go.WideShapes Go.ChangeAt Go.RowKit

theorem Try.own : ownKnob Try.prog.godebug = none := by kernel_rfl
theorem Try.laidOut : laidOutB Try.prog = true := by kernel_rfl
theorem Try.cells41 : Try.prog.cellsOf 41 = 7 := by kernel_rfl
theorem Try.cells39 : Try.prog.cellsOf 39 = 2 := by kernel_rfl
theorem Try.cells23 : Try.prog.cellsOf 23 = 2 := by kernel_rfl
theorem Try.cells3 : Try.prog.cellsOf 3 = 1 := by kernel_rfl

/-- A number of the kind int. -/
def I64 (n : Int) : Prop := -9223372036854775808 ≤ n ∧ n ≤ 9223372036854775807

theorem I64.of {n : Int} (h : (Lit.int .i64 n).wf = true) : I64 n := by
  simp only [Lit.wf, IntKind.min, IntKind.max, IntKind.signed, IntKind.bits, Bool.and_eq_true, decide_eq_true_eq, if_true] at h
  exact ⟨by omega, by omega⟩

section
variable {H : Type} {enc : TypeId × Value → H} {w : World} {base : Nat} {spare : Nat → Bool} {held : Bool}

theorem int_of {fuel : Nat} {cs : List Value} {x : DataW H × List MemPlace} (h : DataW.trod enc Try.prog w base spare held fuel 3 cs = some x) :
    ∃ n : Int, cs = [.int .i64 n] ∧ I64 n := by
  obtain ⟨n, h1, _, h2⟩ := DataW.trod_int Try.underlying3 h
  exact ⟨n, h1, I64.of h2⟩

theorem get_some {α : Type} {xs : List α} {i n : Nat} (h : xs.length = n) (hi : i < n) : ∃ y, xs[i]? = some y := ⟨_, List.getElem?_eq_getElem (by omega)⟩

theorem pos_of {fuel : Nat} {cs : List Value} {x : DataW H × List MemPlace} (h : DataW.trod enc Try.prog w base spare held fuel 39 cs = some x) :
    ∃ r c : Int, cs = [.int .i64 r, .int .i64 c] ∧ I64 r ∧ I64 c := by
  obtain ⟨xs, n, _, _, hl, hxl, hf⟩ := DataW.trod_struct Try.underlying39 h
  rw [Try.cells39] at hl
  match cs, hl with
  | [a, b], _ =>
    have f0 : DataW.trod enc Try.prog w base spare held n 3 (List.take (Try.prog.cellsOf 3) (List.drop 0 [a, b])) = xs[0]? := hf 0 _ rfl
    have f1 : DataW.trod enc Try.prog w base spare held n 3 (List.take (Try.prog.cellsOf 3) (List.drop 1 [a, b])) = xs[1]? := hf 1 _ rfl
    obtain ⟨y0, e0⟩ := get_some (i := 0) hxl (by simp)
    obtain ⟨y1, e1⟩ := get_some (i := 1) hxl (by simp)
    rw [e0, Try.cells3] at f0
    rw [e1, Try.cells3] at f1
    obtain ⟨r, hr, br⟩ := int_of f0
    obtain ⟨c, hc, bc⟩ := int_of f1
    simp at hr hc
    exact ⟨r, c, by rw [hr, hc], br, bc⟩

theorem size_of {fuel : Nat} {cs : List Value} {x : DataW H × List MemPlace} (h : DataW.trod enc Try.prog w base spare held fuel 23 cs = some x) :
    ∃ r c : Int, cs = [.int .i64 r, .int .i64 c] ∧ I64 r ∧ I64 c := by
  obtain ⟨xs, n, _, _, hl, hxl, hf⟩ := DataW.trod_struct Try.underlying23 h
  rw [Try.cells23] at hl
  match cs, hl with
  | [a, b], _ =>
    have f0 : DataW.trod enc Try.prog w base spare held n 3 (List.take (Try.prog.cellsOf 3) (List.drop 0 [a, b])) = xs[0]? := hf 0 _ rfl
    have f1 : DataW.trod enc Try.prog w base spare held n 3 (List.take (Try.prog.cellsOf 3) (List.drop 1 [a, b])) = xs[1]? := hf 1 _ rfl
    obtain ⟨y0, e0⟩ := get_some (i := 0) hxl (by simp)
    obtain ⟨y1, e1⟩ := get_some (i := 1) hxl (by simp)
    rw [e0, Try.cells3] at f0
    rw [e1, Try.cells3] at f1
    obtain ⟨r, hr, br⟩ := int_of f0
    obtain ⟨c, hc, bc⟩ := int_of f1
    simp at hr hc
    exact ⟨r, c, by rw [hr, hc], br, bc⟩

def OpV.vals (o : OpV) : List Value := [.int .i64 o.ask, .int .i64 o.ar, .int .i64 o.ac, .int .i64 o.br, .int .i64 o.bc, .int .i64 o.n, .int .i64 o.x]
structure OpV.Ok (o : OpV) : Prop where
  ask : I64 o.ask
  ar : I64 o.ar
  ac : I64 o.ac
  br : I64 o.br
  bc : I64 o.bc
  n : I64 o.n
  x : I64 o.x

theorem op_of {fuel : Nat} {cs : List Value} {x : DataW H × List MemPlace} (h : DataW.trod enc Try.prog w base spare held fuel 41 cs = some x) :
    ∃ o : OpV, cs = o.vals ∧ o.Ok := by
  obtain ⟨xs, n, _, _, hl, hxl, hf⟩ := DataW.trod_struct Try.underlying41 h
  rw [Try.cells41] at hl
  match cs, hl with
  | [v0, v1, v2, v3, v4, v5, v6], _ =>
    have f0 : DataW.trod enc Try.prog w base spare held n 3 (List.take (Try.prog.cellsOf 3) (List.drop 0 [v0, v1, v2, v3, v4, v5, v6])) = xs[0]? := hf 0 _ rfl
    have f1 : DataW.trod enc Try.prog w base spare held n 39 (List.take (Try.prog.cellsOf 39) (List.drop 1 [v0, v1, v2, v3, v4, v5, v6])) = xs[1]? := hf 1 _ rfl
    have f2 : DataW.trod enc Try.prog w base spare held n 39 (List.take (Try.prog.cellsOf 39) (List.drop 3 [v0, v1, v2, v3, v4, v5, v6])) = xs[2]? := hf 2 _ rfl
    have f3 : DataW.trod enc Try.prog w base spare held n 3 (List.take (Try.prog.cellsOf 3) (List.drop 5 [v0, v1, v2, v3, v4, v5, v6])) = xs[3]? := hf 3 _ rfl
    have f4 : DataW.trod enc Try.prog w base spare held n 3 (List.take (Try.prog.cellsOf 3) (List.drop 6 [v0, v1, v2, v3, v4, v5, v6])) = xs[4]? := hf 4 _ rfl
    obtain ⟨y0, e0⟩ := get_some (i := 0) hxl (by simp)
    obtain ⟨y1, e1⟩ := get_some (i := 1) hxl (by simp)
    obtain ⟨y2, e2⟩ := get_some (i := 2) hxl (by simp)
    obtain ⟨y3, e3⟩ := get_some (i := 3) hxl (by simp)
    obtain ⟨y4, e4⟩ := get_some (i := 4) hxl (by simp)
    rw [e0, Try.cells3] at f0
    rw [e1, Try.cells39] at f1
    rw [e2, Try.cells39] at f2
    rw [e3, Try.cells3] at f3
    rw [e4, Try.cells3] at f4
    obtain ⟨a, ha, ba⟩ := int_of f0
    obtain ⟨r, c, hrc, br, bc⟩ := pos_of f1
    obtain ⟨r', c', hrc', br', bc'⟩ := pos_of f2
    obtain ⟨m, hm, bm⟩ := int_of f3
    obtain ⟨z, hz, bz⟩ := int_of f4
    simp at ha hrc hrc' hm hz
    exact ⟨⟨a, r, c, r', c', m, z⟩, by simp [OpV.vals, ha, hrc, hrc', hm, hz], ⟨ba, br, bc, br', bc', bm, bz⟩⟩
end
end Go.Proofs.Ytekjjnfbahmjcaa
