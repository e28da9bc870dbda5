/-
  How the arguments are read: boards, calls, lists of calls, places, sizes.
-/
import Derived.Test.YtedgnjideemfbaaRows
import Derived.Test.YtedgnjideemfbaaOps
import Derived.ProofKit
import Derived.OpenShut
import Derived.ShutString
import Derived.ChangeOld
import Derived.Deep.Slices
import Derived.SliceStrings
namespace Go.Proofs.Ytedgnjideemfbaa
open Go.ChangeShapes Go.WideShapes Go.ChangeAt Go.RowKit Go.Deep

theorem Try.own : ownKnob Try.prog.godebug = none := by kernel_rfl
theorem Try.laidOut : laidOutB Try.prog = true := by kernel_rfl
theorem Try.cells36 : Try.prog.cellsOf 36 = 2 := by kernel_rfl
theorem Try.cells45 : Try.prog.cellsOf 45 = 2 := by kernel_rfl
theorem Try.cells38 : Try.prog.cellsOf 38 = 4 := by kernel_rfl
theorem Try.cells40 : Try.prog.cellsOf 40 = 10 := by kernel_rfl
theorem Try.cells21 : Try.prog.cellsOf 21 = 1 := by kernel_rfl
theorem Try.cells24 : Try.prog.cellsOf 24 = 2 := by kernel_rfl
theorem Try.cells22 : Try.prog.cellsOf 22 = 1 := by kernel_rfl
theorem Try.cells9 : Try.prog.cellsOf 9 = 1 := by kernel_rfl
theorem Try.cells3 : Try.prog.cellsOf 3 = 1 := by kernel_rfl
theorem Try.cells4 : Try.prog.cellsOf 4 = 1 := by kernel_rfl

/-- A number of the kind int. -/
def I64 (n : Int) : Prop := -9223372036854775808 ≤ n ∧ n ≤ 9223372036854775807
theorem I64.of {n : Int} (h : (Lit.int .i64 n).wf = true) : I64 n := by
  simp only [Lit.wf, IntKind.min, IntKind.max, IntKind.signed, IntKind.bits, Bool.and_eq_true, decide_eq_true_eq, if_true] at h
  exact ⟨by omega, by omega⟩

theorem okWide_array' {P : Program} {w : World} {r : Reach} {base : Nat} {t e : TypeId} {n : Nat} {v : Value} (ht : P.underlying t = some (.array n e)) (h : Value.okWide P w r base t v) : ∃ cs, v = .agg cs ∧ cs.size = P.cellsOf t := by
  simp only [Value.okWide, ht] at h
  obtain ⟨cs, h1, h2, _⟩ := h
  exact ⟨cs, h1, h2⟩

section
variable {H : Type} {enc : TypeId × Value → H} {w : World} {base : Nat} {spare : Nat → Bool} {held : Bool}

theorem int_of {fuel : Nat} {cs : List Value} {x : DataW H × List MemPlace} (h : DataW.trod enc Try.prog w base spare held fuel 3 cs = some x) :
    ∃ n : Int, cs = [.int .i64 n] ∧ I64 n := by
  obtain ⟨n, h1, _, h2⟩ := DataW.trod_int Try.underlying3 h
  exact ⟨n, h1, I64.of h2⟩
theorem bool_of {fuel : Nat} {cs : List Value} {x : DataW H × List MemPlace} (h : DataW.trod enc Try.prog w base spare held fuel 4 cs = some x) : ∃ b : Bool, cs = [.bool b] := by
  obtain ⟨b, h1, _⟩ := DataW.trod_bool Try.underlying4 h
  exact ⟨b, h1⟩

theorem get_some {α : Type} {xs : List α} {i n : Nat} (h : xs.length = n) (hi : i < n) : ∃ y, xs[i]? = some y := ⟨_, List.getElem?_eq_getElem (by omega)⟩

theorem pos_of {fuel : Nat} {cs : List Value} {x : DataW H × List MemPlace} (h : DataW.trod enc Try.prog w base spare held fuel 36 cs = some x) :
    ∃ r c : Int, cs = [.int .i64 r, .int .i64 c] ∧ I64 r ∧ I64 c := by
  obtain ⟨xs, n, _, _, hl, hxl, hf⟩ := DataW.trod_struct Try.underlying36 h
  rw [Try.cells36] at hl
  match cs, hl with
  | [a, b], _ =>
    have f0 : DataW.trod enc Try.prog w base spare held n 3 (List.take (Try.prog.cellsOf 3) (List.drop 0 [a, b])) = xs[0]? := hf 0 _ rfl
    have f1 : DataW.trod enc Try.prog w base spare held n 3 (List.take (Try.prog.cellsOf 3) (List.drop 1 [a, b])) = xs[1]? := hf 1 _ rfl
    obtain ⟨y0, e0⟩ := get_some (i := 0) hxl (by simp)
    obtain ⟨y1, e1⟩ := get_some (i := 1) hxl (by simp)
    rw [e0, Try.cells3] at f0
    rw [e1, Try.cells3] at f1
    obtain ⟨r, hr, br⟩ := int_of f0
    obtain ⟨c, hc, bc⟩ := int_of f1
    simp at hr hc
    exact ⟨r, c, by rw [hr, hc], br, bc⟩

theorem size_of {fuel : Nat} {cs : List Value} {x : DataW H × List MemPlace} (h : DataW.trod enc Try.prog w base spare held fuel 45 cs = some x) :
    ∃ r c : Int, cs = [.int .i64 r, .int .i64 c] ∧ I64 r ∧ I64 c := by
  obtain ⟨xs, n, _, _, hl, hxl, hf⟩ := DataW.trod_struct Try.underlying45 h
  rw [Try.cells45] at hl
  match cs, hl with
  | [a, b], _ =>
    have f0 : DataW.trod enc Try.prog w base spare held n 3 (List.take (Try.prog.cellsOf 3) (List.drop 0 [a, b])) = xs[0]? := hf 0 _ rfl
    have f1 : DataW.trod enc Try.prog w base spare held n 3 (List.take (Try.prog.cellsOf 3) (List.drop 1 [a, b])) = xs[1]? := hf 1 _ rfl
    obtain ⟨y0, e0⟩ := get_some (i := 0) hxl (by simp)
    obtain ⟨y1, e1⟩ := get_some (i := 1) hxl (by simp)
    rw [e0, Try.cells3] at f0
    rw [e1, Try.cells3] at f1
    obtain ⟨r, hr, br⟩ := int_of f0
    obtain ⟨c, hc, bc⟩ := int_of f1
    simp at hr hc
    exact ⟨r, c, by rw [hr, hc], br, bc⟩

theorem glyph_of {fuel : Nat} {cs : List Value} {x : DataW H × List MemPlace} (h : DataW.trod enc Try.prog w base spare held fuel 21 cs = some x) : ∃ n : Int, cs = [.int .i32 n] := by
  obtain ⟨n, h1, _, _⟩ := DataW.trod_int Try.underlying21 h
  exact ⟨n, h1⟩

theorem cel_of {fuel : Nat} {cs : List Value} {x : DataW H × List MemPlace} (h : DataW.trod enc Try.prog w base spare held fuel 38 cs = some x) :
    ∃ c : Cel, cs = [.int .i32 c.g, .int .i64 c.a, .bool c.b, .int .i64 c.m] := by
  obtain ⟨xs, n, _, _, hl, hxl, hf⟩ := DataW.trod_struct Try.underlying38 h
  rw [Try.cells38] at hl
  match cs, hl with
  | [a, b, c, d], _ =>
    have f0 : DataW.trod enc Try.prog w base spare held n 21 (List.take (Try.prog.cellsOf 21) (List.drop 0 [a, b, c, d])) = xs[0]? := hf 0 _ rfl
    have f1 : DataW.trod enc Try.prog w base spare held n 3 (List.take (Try.prog.cellsOf 3) (List.drop 1 [a, b, c, d])) = xs[1]? := hf 1 _ rfl
    have f2 : DataW.trod enc Try.prog w base spare held n 4 (List.take (Try.prog.cellsOf 4) (List.drop 2 [a, b, c, d])) = xs[2]? := hf 2 _ rfl
    have f3 : DataW.trod enc Try.prog w base spare held n 3 (List.take (Try.prog.cellsOf 3) (List.drop 3 [a, b, c, d])) = xs[3]? := hf 3 _ rfl
    obtain ⟨y0, e0⟩ := get_some (i := 0) hxl (by simp)
    obtain ⟨y1, e1⟩ := get_some (i := 1) hxl (by simp)
    obtain ⟨y2, e2⟩ := get_some (i := 2) hxl (by simp)
    obtain ⟨y3, e3⟩ := get_some (i := 3) hxl (by simp)
    rw [e0, Try.cells21] at f0
    rw [e1, Try.cells3] at f1
    rw [e2, Try.cells4] at f2
    rw [e3, Try.cells3] at f3
    obtain ⟨g, hg⟩ := glyph_of f0
    obtain ⟨t, ht, _⟩ := int_of f1
    obtain ⟨v, hv⟩ := bool_of f2
    obtain ⟨m, hm, _⟩ := int_of f3
    simp at hg ht hv hm
    exact ⟨⟨g, t, v, m⟩, by rw [hg, ht, hv, hm]⟩

theorem op_of {fuel : Nat} {cs : List Value} {x : DataW H × List MemPlace} (h : DataW.trod enc Try.prog w base spare held fuel 40 cs = some x) :
    ∃ o : OpR, cs = o.vals := by
  obtain ⟨xs, n, _, _, hl, hxl, hf⟩ := DataW.trod_struct Try.underlying40 h
  rw [Try.cells40] at hl
  match cs, hl with
  | [v0, v1, v2, v3, v4, v5, v6, v7, v8, v9], _ =>
    have f0 : DataW.trod enc Try.prog w base spare held n 3 (List.take (Try.prog.cellsOf 3) (List.drop 0 [v0, v1, v2, v3, v4, v5, v6, v7, v8, v9])) = xs[0]? := hf 0 _ rfl
    have f1 : DataW.trod enc Try.prog w base spare held n 36 (List.take (Try.prog.cellsOf 36) (List.drop 1 [v0, v1, v2, v3, v4, v5, v6, v7, v8, v9])) = xs[1]? := hf 1 _ rfl
    have f2 : DataW.trod enc Try.prog w base spare held n 36 (List.take (Try.prog.cellsOf 36) (List.drop 3 [v0, v1, v2, v3, v4, v5, v6, v7, v8, v9])) = xs[2]? := hf 2 _ rfl
    have f3 : DataW.trod enc Try.prog w base spare held n 38 (List.take (Try.prog.cellsOf 38) (List.drop 5 [v0, v1, v2, v3, v4, v5, v6, v7, v8, v9])) = xs[3]? := hf 3 _ rfl
    have f4 : DataW.trod enc Try.prog w base spare held n 4 (List.take (Try.prog.cellsOf 4) (List.drop 9 [v0, v1, v2, v3, v4, v5, v6, v7, v8, v9])) = xs[4]? := hf 4 _ rfl
    obtain ⟨y0, e0⟩ := get_some (i := 0) hxl (by simp)
    obtain ⟨y1, e1⟩ := get_some (i := 1) hxl (by simp)
    obtain ⟨y2, e2⟩ := get_some (i := 2) hxl (by simp)
    obtain ⟨y3, e3⟩ := get_some (i := 3) hxl (by simp)
    obtain ⟨y4, e4⟩ := get_some (i := 4) hxl (by simp)
    rw [e0, Try.cells3] at f0
    rw [e1, Try.cells36] at f1
    rw [e2, Try.cells36] at f2
    rw [e3, Try.cells38] at f3
    rw [e4, Try.cells4] at f4
    obtain ⟨a, ha, _⟩ := int_of f0
    obtain ⟨r, c, hrc, _, _⟩ := pos_of f1
    obtain ⟨r', c', hrc', _, _⟩ := pos_of f2
    obtain ⟨q, hq⟩ := cel_of f3
    obtain ⟨b, hb⟩ := bool_of f4
    simp at ha hrc hrc' hq hb
    exact ⟨⟨a, r, c, r', c', q, b⟩, by simp [OpR.vals, ha, hrc, hrc', hq, hb]⟩

theorem op_of' {fuel : Nat} {cs : List Value} {x : DataW H × List MemPlace} (h : DataW.trod enc Try.prog w base spare held fuel 40 cs = some x) :
    ∃ o : OpR, cs = [.int .i64 o.ask, .int .i64 o.r, .int .i64 o.c, .int .i64 o.r', .int .i64 o.c', .int .i32 o.x.g, .int .i64 o.x.a, .bool o.x.b, .int .i64 o.x.m, .bool o.b] ∧ True := by
  obtain ⟨o, ho⟩ := op_of h
  exact ⟨o, ho, trivial⟩

theorem ops_of {fuel : Nat} {a : Option Addr} {len cap : Nat} {x : DataW H × List MemPlace} (h : DataW.trod enc Try.prog w base spare held fuel 25 [.slice a len cap] = some x) :
    ∃ l : List OpR, l.length = len ∧ OpsIn w a l ∧ len ≤ 9223372036854775807 := by
  rcases open_slice Try.underlying25 h with ⟨hcs, _⟩ | ⟨ad, len', cap', m, n, D, Pl, hcs, hb, hl, hm, hmm, hx, hi⟩
  · simp at hcs
    obtain ⟨rfl, rfl, rfl⟩ := hcs
    exact ⟨[], rfl, fun i o ho => by simp at ho, by omega⟩
  · simp at hcs
    obtain ⟨rfl, rfl, rfl⟩ := hcs
    have hlm : len ≤ m := by rw [hmm]; split <;> omega
    have each : ∀ i, i < len → ∃ o : OpR, ∀ j, j < 10 → w.cell? (ad.add (i * 10 + j)) = o.vals[j]? := fun i hil => by
      obtain ⟨cs', hc, ht⟩ := hi i (by omega)
      obtain ⟨o, ho⟩ := op_of ht
      rw [Try.cells40] at hc
      obtain ⟨_, _, hat⟩ := World.cells?_some hc
      refine ⟨o, fun j hj => ?_⟩
      have := hat j hj
      rw [ho] at this
      rw [← this]
      congr 1
      exact (Go.Deep.add_add _ _ _).symm
    obtain ⟨F, hF⟩ : ∃ F : Nat → OpR, ∀ i, i < len → ∀ j, j < 10 → w.cell? (ad.add (i * 10 + j)) = (F i).vals[j]? :=
      ⟨fun i => if hi : i < len then (each i hi).choose else ⟨0, 0, 0, 0, 0, zc, false⟩, fun i hi => by simp only [hi, dite_true]; exact (each i hi).choose_spec⟩
    have hget : ∀ i o, ((List.range len).map F)[i]? = some o → i < len ∧ o = F i := fun i o ho => by
      simp only [List.getElem?_map, Option.map_eq_some_iff] at ho
      obtain ⟨i', h1, h2⟩ := ho
      obtain ⟨hlt, rfl⟩ := List.getElem?_eq_some_iff.1 h1
      simp at hlt
      exact ⟨hlt, by simpa using h2.symm⟩
    refine ⟨(List.range len).map F, by simp, fun i o ho => ?_, by unfold maxLen at hm; omega⟩
    obtain ⟨hil, rfl⟩ := hget i o ho
    have hv := hF i hil
    obtain ⟨b, off, spot⟩ := ad
    have h0 := (hF 0 (by omega)) 0 (by omega)
    have hspot : spot = none := by
      have h9 : w.cell? ((⟨b, off, spot⟩ : Addr).add (0 * 10 + 0)) = some (.int .i64 (F 0).ask) := h0
      have := World.cell?_spot h9
      simpa [Addr.add] using this
    subst hspot
    refine ⟨b, off, rfl, fun j v hj => ?_⟩
    have hj10 : j < 10 := by have := (List.getElem?_eq_some_iff.1 hj).1; simpa [OpR.vals] using this
    have := hv j hj10
    rw [Go.Proofs.Ytedgnjideemfbaa.addr_add, hj] at this
    rw [← this]
    congr 2
    omega

theorem strs_of {fuel : Nat} {cs : List Value} {x : DataW H × List MemPlace} (h : DataW.trod enc Try.prog w base spare held fuel 22 cs = some x) :
    ∃ (a : Option Addr) (l : List ByteArray) (cap : Nat), cs = [.slice a l.length cap] ∧ StrsIn w a l ∧ l.length ≤ 9223372036854775807 := by
  rcases open_strings Try.underlying22 Try.underlying9 Try.cells9 h with ⟨hcs, _⟩ | ⟨ad, len, cap, zs, hcs, hb, hl, hm, hz, hx, hi, hs⟩
  · exact ⟨none, [], 0, hcs, fun k y hy => by simp at hy, by decide⟩
  · have hlz : len ≤ zs.length := by rw [hz]; split <;> omega
    have hlen : (zs.take len).length = len := by rw [List.length_take]; omega
    refine ⟨some ad, zs.take len, cap, by rw [hlen]; exact hcs, fun k y hy => ?_, by rw [hlen]; unfold maxLen at hm; omega⟩
    have hk : k < len := by
      have := (List.getElem?_eq_some_iff.1 hy).1
      omega
    rw [List.getElem?_take_of_lt hk] at hy
    have hc := hi k (by omega)
    rw [List.getD_eq_getElem?_getD, hy] at hc
    obtain ⟨b, off, spot⟩ := ad
    have hspot : spot = none := by
      have := World.cell?_spot (hi 0 (by omega))
      simpa [Addr.add] using this
    subst hspot
    rw [Go.Proofs.Ytedgnjideemfbaa.addr_add] at hc
    exact ⟨b, off, rfl, hc, hs y (List.mem_of_getElem? hy)⟩

theorem board_of {fuel : Nat} {cs : List Value} {x : DataW H × List MemPlace} (h : DataW.trod enc Try.prog w base spare held fuel 24 cs = some x) :
    ∃ (a : Option Addr) (l : List ByteArray) (cap : Nat) (C : Int), cs = [.slice a l.length cap, .int .i64 C] ∧ StrsIn w a l ∧ l.length ≤ 9223372036854775807 ∧ I64 C := by
  obtain ⟨xs, n, _, _, hl, hxl, hf⟩ := DataW.trod_struct Try.underlying24 h
  rw [Try.cells24] at hl
  match cs, hl with
  | [a, b], _ =>
    have f0 : DataW.trod enc Try.prog w base spare held n 22 (List.take (Try.prog.cellsOf 22) (List.drop 0 [a, b])) = xs[0]? := hf 0 _ rfl
    have f1 : DataW.trod enc Try.prog w base spare held n 3 (List.take (Try.prog.cellsOf 3) (List.drop 1 [a, b])) = xs[1]? := hf 1 _ rfl
    obtain ⟨y0, e0⟩ := get_some (i := 0) hxl (by simp)
    obtain ⟨y1, e1⟩ := get_some (i := 1) hxl (by simp)
    rw [e0, Try.cells22] at f0
    rw [e1, Try.cells3] at f1
    obtain ⟨ad, l, cap, hs, hS, hn⟩ := strs_of f0
    obtain ⟨C, hC, bC⟩ := int_of f1
    simp at hs hC
    exact ⟨ad, l, cap, C, by rw [hs, hC], hS, hn, bC⟩
end
end Go.Proofs.Ytedgnjideemfbaa
