/-
  How the arguments are read: sizes, places, two numbers.
-/
import Derived.Test.YtonpkogafgnkjaaRows
import Derived.ProofKit
import Derived.OpenShut
import Derived.ShutString
import Derived.ChangeOld
import Derived.Deep.Slices
namespace Go.Proofs.Ytonpkogafgnkjaa
open Go.ChangeShapes Go.WideShapes Go.ChangeAt Go.RowKit Go.Deep

theorem Try.own : ownKnob Try.prog.godebug = none := by kernel_rfl
theorem Try.laidOut : laidOutB Try.prog = true := by kernel_rfl
theorem Try.cells28 : Try.prog.cellsOf 28 = 2 := by kernel_rfl
theorem Try.cells27 : Try.prog.cellsOf 27 = 3 := by kernel_rfl
theorem Try.cells25 : Try.prog.cellsOf 25 = 2 := by kernel_rfl
theorem Try.cells23 : Try.prog.cellsOf 23 = 2 := by kernel_rfl
theorem Try.cells3 : Try.prog.cellsOf 3 = 1 := by kernel_rfl
theorem Try.cells4 : Try.prog.cellsOf 4 = 1 := by kernel_rfl

theorem okWide_array' {P : Program} {w : World} {r : Reach} {base : Nat} {t e : TypeId} {n : Nat} {v : Value} (ht : P.underlying t = some (.array n e)) (h : Value.okWide P w r base t v) : ∃ cs, v = .agg cs ∧ cs.size = P.cellsOf t := by
  simp only [Value.okWide, ht] at h
  obtain ⟨cs, h1, h2, _⟩ := h
  exact ⟨cs, h1, h2⟩

section
variable {H : Type} {enc : TypeId × Value → H} {w : World} {base : Nat} {spare : Nat → Bool} {held : Bool}

theorem int_of {fuel : Nat} {cs : List Value} {x : DataW H × List MemPlace} (h : DataW.trod enc Try.prog w base spare held fuel 3 cs = some x) : ∃ n : Int, cs = [.int .i64 n] := by
  obtain ⟨n, h1, _, _⟩ := DataW.trod_int Try.underlying3 h
  exact ⟨n, h1⟩
theorem bool_of {fuel : Nat} {cs : List Value} {x : DataW H × List MemPlace} (h : DataW.trod enc Try.prog w base spare held fuel 4 cs = some x) : ∃ b : Bool, cs = [.bool b] := by
  obtain ⟨b, h1, _⟩ := DataW.trod_bool Try.underlying4 h
  exact ⟨b, h1⟩

theorem get_some {α : Type} {xs : List α} {i n : Nat} (h : xs.length = n) (hi : i < n) : ∃ y, xs[i]? = some y := ⟨_, List.getElem?_eq_getElem (by omega)⟩

theorem pos_of {fuel : Nat} {cs : List Value} {x : DataW H × List MemPlace} (h : DataW.trod enc Try.prog w base spare held fuel 25 cs = some x) :
    ∃ r c : Int, cs = [.int .i64 r, .int .i64 c] := by
  obtain ⟨xs, n, _, _, hl, hxl, hf⟩ := DataW.trod_struct Try.underlying25 h
  rw [Try.cells25] at hl
  match cs, hl with
  | [a, b], _ =>
    have f0 : DataW.trod enc Try.prog w base spare held n 3 (List.take (Try.prog.cellsOf 3) (List.drop 0 [a, b])) = xs[0]? := hf 0 _ rfl
    have f1 : DataW.trod enc Try.prog w base spare held n 3 (List.take (Try.prog.cellsOf 3) (List.drop 1 [a, b])) = xs[1]? := hf 1 _ rfl
    obtain ⟨y0, e0⟩ := get_some (i := 0) hxl (by simp)
    obtain ⟨y1, e1⟩ := get_some (i := 1) hxl (by simp)
    rw [e0, Try.cells3] at f0
    rw [e1, Try.cells3] at f1
    obtain ⟨r, hr⟩ := int_of f0
    obtain ⟨c, hc⟩ := int_of f1
    simp at hr hc
    exact ⟨r, c, by rw [hr, hc]⟩

theorem size_of {fuel : Nat} {cs : List Value} {x : DataW H × List MemPlace} (h : DataW.trod enc Try.prog w base spare held fuel 23 cs = some x) :
    ∃ r c : Int, cs = [.int .i64 r, .int .i64 c] := by
  obtain ⟨xs, n, _, _, hl, hxl, hf⟩ := DataW.trod_struct Try.underlying23 h
  rw [Try.cells23] at hl
  match cs, hl with
  | [a, b], _ =>
    have f0 : DataW.trod enc Try.prog w base spare held n 3 (List.take (Try.prog.cellsOf 3) (List.drop 0 [a, b])) = xs[0]? := hf 0 _ rfl
    have f1 : DataW.trod enc Try.prog w base spare held n 3 (List.take (Try.prog.cellsOf 3) (List.drop 1 [a, b])) = xs[1]? := hf 1 _ rfl
    obtain ⟨y0, e0⟩ := get_some (i := 0) hxl (by simp)
    obtain ⟨y1, e1⟩ := get_some (i := 1) hxl (by simp)
    rw [e0, Try.cells3] at f0
    rw [e1, Try.cells3] at f1
    obtain ⟨r, hr⟩ := int_of f0
    obtain ⟨c, hc⟩ := int_of f1
    simp at hr hc
    exact ⟨r, c, by rw [hr, hc]⟩

theorem place_of {fuel : Nat} {cs : List Value} {x : DataW H × List MemPlace} (h : DataW.trod enc Try.prog w base spare held fuel 27 cs = some x) :
    ∃ (r c : Int) (v : Bool), cs = [.int .i64 r, .int .i64 c, .bool v] := by
  obtain ⟨xs, n, _, _, hl, hxl, hf⟩ := DataW.trod_struct Try.underlying27 h
  rw [Try.cells27] at hl
  match cs, hl with
  | [a, b, c], _ =>
    have f0 : DataW.trod enc Try.prog w base spare held n 25 (List.take (Try.prog.cellsOf 25) (List.drop 0 [a, b, c])) = xs[0]? := hf 0 _ rfl
    have f1 : DataW.trod enc Try.prog w base spare held n 4 (List.take (Try.prog.cellsOf 4) (List.drop 2 [a, b, c])) = xs[1]? := hf 1 _ rfl
    obtain ⟨y0, e0⟩ := get_some (i := 0) hxl (by simp)
    obtain ⟨y1, e1⟩ := get_some (i := 1) hxl (by simp)
    rw [e0, Try.cells25] at f0
    rw [e1, Try.cells4] at f1
    obtain ⟨r, q, hr⟩ := pos_of f0
    obtain ⟨v, hv⟩ := bool_of f1
    simp at hr hv
    exact ⟨r, q, v, by rw [hr.1, hr.2, hv]⟩

theorem two_of {fuel : Nat} {cs : List Value} {x : DataW H × List MemPlace} (h : DataW.trod enc Try.prog w base spare held fuel 28 cs = some x) :
    ∃ a b : Int, cs = [.int .i64 a, .int .i64 b] := by
  obtain ⟨xs, n, _, _, hl, hxl, hf⟩ := DataW.trod_array Try.underlying28 h
  rw [Try.cells28] at hl
  match cs, hl with
  | [v0, v1], _ =>
    have f0 := hf 0 (by omega)
    have f1 := hf 1 (by omega)
    obtain ⟨y0, e0⟩ := get_some (i := 0) hxl (by omega)
    obtain ⟨y1, e1⟩ := get_some (i := 1) hxl (by omega)
    rw [e0, Try.cells3] at f0
    rw [e1, Try.cells3] at f1
    obtain ⟨a, ha⟩ := int_of f0
    obtain ⟨b, hb⟩ := int_of f1
    simp at ha hb
    exact ⟨a, b, by rw [ha, hb]⟩
end
end Go.Proofs.Ytonpkogafgnkjaa
