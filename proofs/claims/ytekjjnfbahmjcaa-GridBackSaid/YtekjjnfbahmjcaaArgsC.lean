/-
  How three numbers are read.
-/
import Derived.Test.YtekjjnfbahmjcaaArgsB
namespace Go.Proofs.Ytekjjnfbahmjcaa
open Go.ChangeShapes Go.WideShapes Go.ChangeAt Go.RowKit Go.Deep

theorem Try.cells63 : Try.prog.cellsOf 63 = 3 := by kernel_rfl

section
variable {H : Type} {enc : TypeId × Value → H} {w : World} {base : Nat} {spare : Nat → Bool} {held : Bool}

theorem three_of {fuel : Nat} {cs : List Value} {x : DataW H × List MemPlace} (h : DataW.trod enc Try.prog w base spare held fuel 63 cs = some x) :
    ∃ a b c : Int, cs = [.int .i64 a, .int .i64 b, .int .i64 c] ∧ I64 a ∧ I64 b ∧ I64 c := by
  obtain ⟨xs, n, _, _, hl, hxl, hf⟩ := DataW.trod_array Try.underlying63 h
  rw [Try.cells63] at hl
  match cs, hl with
  | [v0, v1, v2], _ =>
    have f0 := hf 0 (by omega)
    have f1 := hf 1 (by omega)
    have f2 := hf 2 (by omega)
    obtain ⟨y0, e0⟩ := get_some (i := 0) hxl (by omega)
    obtain ⟨y1, e1⟩ := get_some (i := 1) hxl (by omega)
    obtain ⟨y2, e2⟩ := get_some (i := 2) hxl (by omega)
    rw [e0, Try.cells3] at f0
    rw [e1, Try.cells3] at f1
    rw [e2, Try.cells3] at f2
    obtain ⟨a, ha, ia⟩ := int_of f0
    obtain ⟨b, hb, ib⟩ := int_of f1
    obtain ⟨c, hc, ic⟩ := int_of f2
    simp at ha hb hc
    exact ⟨a, b, c, by rw [ha, hb, hc], ia, ib, ic⟩
end
end Go.Proofs.Ytekjjnfbahmjcaa
