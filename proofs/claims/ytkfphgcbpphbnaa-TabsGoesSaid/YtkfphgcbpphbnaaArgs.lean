/-
  How the arguments are read: numbers, lists of numbers, calls.
-/
import Derived.Test.YtkfphgcbpphbnaaRows
import Derived.Test.YtkfphgcbpphbnaaFew
import Derived.ProofKit
import Derived.OpenShut
import Derived.ShutString
import Derived.ChangeOld
import Derived.Deep.Slices
namespace Go.Proofs.Ytkfphgcbpphbnaa
open Go.ChangeShapes Go.WideShapes Go.ChangeAt Go.RowKit Go.Deep

theorem Try.own : ownKnob Try.prog.godebug = none := by kernel_rfl
theorem Try.laidOut : laidOutB Try.prog = true := by kernel_rfl
theorem Try.cells35 : Try.prog.cellsOf 35 = 4 := by kernel_rfl
theorem Try.cells47 : Try.prog.cellsOf 47 = 2 := by kernel_rfl
theorem Try.cells33 : Try.prog.cellsOf 33 = 1 := by kernel_rfl
theorem Try.cells3 : Try.prog.cellsOf 3 = 1 := by kernel_rfl

/-- A number of the kind int. -/
def I64 (n : Int) : Prop := -9223372036854775808 ≤ n ∧ n ≤ 9223372036854775807
theorem I64.of {n : Int} (h : (Lit.int .i64 n).wf = true) : I64 n := by
  simp only [Lit.wf, IntKind.min, IntKind.max, IntKind.signed, IntKind.bits, Bool.and_eq_true, decide_eq_true_eq, if_true] at h
  exact ⟨by omega, by omega⟩

theorem okWide_array' {P : Program} {w : World} {r : Reach} {base : Nat} {t e : TypeId} {n : Nat} {v : Value} (ht : P.underlying t = some (.array n e)) (h : Value.okWide P w r base t v) : ∃ cs, v = .agg cs ∧ cs.size = P.cellsOf t := by
  simp only [Value.okWide, ht] at h
  obtain ⟨cs, h1, h2, _⟩ := h
  exact ⟨cs, h1, h2⟩

section
variable {H : Type} {enc : TypeId × Value → H} {w : World} {base : Nat} {spare : Nat → Bool} {held : Bool}

theorem int_of {fuel : Nat} {cs : List Value} {x : DataW H × List MemPlace} (h : DataW.trod enc Try.prog w base spare held fuel 3 cs = some x) :
    ∃ n : Int, cs = [.int .i64 n] ∧ I64 n := by
  obtain ⟨n, h1, _, h2⟩ := DataW.trod_int Try.underlying3 h
  exact ⟨n, h1, I64.of h2⟩

theorem get_some {α : Type} {xs : List α} {i n : Nat} (h : xs.length = n) (hi : i < n) : ∃ y, xs[i]? = some y := ⟨_, List.getElem?_eq_getElem (by omega)⟩

theorem two_of {fuel : Nat} {cs : List Value} {x : DataW H × List MemPlace} (h : DataW.trod enc Try.prog w base spare held fuel 47 cs = some x) :
    ∃ a b : Int, cs = [.int .i64 a, .int .i64 b] ∧ I64 a ∧ I64 b := by
  obtain ⟨xs, n, _, _, hl, hxl, hf⟩ := DataW.trod_array Try.underlying47 h
  rw [Try.cells47] at hl
  match cs, hl with
  | [v0, v1], _ =>
    have f0 := hf 0 (by omega)
    have f1 := hf 1 (by omega)
    obtain ⟨y0, e0⟩ := get_some (i := 0) hxl (by omega)
    obtain ⟨y1, e1⟩ := get_some (i := 1) hxl (by omega)
    rw [e0, Try.cells3] at f0
    rw [e1, Try.cells3] at f1
    obtain ⟨a, ha, wa⟩ := int_of f0
    obtain ⟨b, hb, wb⟩ := int_of f1
    simp at ha hb
    exact ⟨a, b, by rw [ha, hb], wa, wb⟩

theorem addr_add (b off k : Nat) : (⟨b, off, none⟩ : Addr).add k = ⟨b, off + k, none⟩ := by
  unfold Addr.add
  by_cases h : k = 0 <;> simp [h]

theorem ints_of {fuel : Nat} {cs : List Value} {x : DataW H × List MemPlace} (h : DataW.trod enc Try.prog w base spare held fuel 33 cs = some x) :
    ∃ (a : Option Addr) (l : List Int) (cap : Nat), cs = [.slice a l.length cap] ∧ IntsIn w a l ∧ l.length ≤ 9223372036854775807 := by
  rcases open_ints Try.underlying33 Try.underlying3 Try.cells3 h with ⟨hcs, _⟩ | ⟨ad, len, cap, zs, hcs, hb, hl, hm, hz, hx, hi, _⟩
  · exact ⟨none, [], 0, hcs, fun k y hy => by simp at hy, by decide⟩
  · have hlz : len ≤ zs.length := by rw [hz]; split <;> omega
    have hlen : (zs.take len).length = len := by rw [List.length_take]; omega
    refine ⟨some ad, zs.take len, cap, by rw [hlen]; exact hcs, fun k y hy => ?_, by rw [hlen]; unfold maxLen at hm; omega⟩
    have hk : k < len := by
      have := (List.getElem?_eq_some_iff.1 hy).1
      omega
    rw [List.getElem?_take_of_lt hk] at hy
    have hc := hi k (by omega)
    rw [List.getD_eq_getElem?_getD, hy] at hc
    obtain ⟨b, off, spot⟩ := ad
    have hspot : spot = none := by
      have := World.cell?_spot (hi 0 (by omega))
      simpa [Addr.add] using this
    subst hspot
    rw [addr_add] at hc
    exact ⟨b, off, rfl, hc⟩

def OpV.vals (o : OpV) : List Value := [.int .i64 o.ask, .int .i64 o.n, .int .i64 o.m, .slice o.la o.l.length o.lcap]

theorem op_of {fuel : Nat} {cs : List Value} {x : DataW H × List MemPlace} (h : DataW.trod enc Try.prog w base spare held fuel 35 cs = some x) :
    ∃ o : OpV, cs = o.vals ∧ o.Ok ∧ IntsIn w o.la o.l := by
  obtain ⟨xs, n, _, _, hl, hxl, hf⟩ := DataW.trod_struct Try.underlying35 h
  rw [Try.cells35] at hl
  match cs, hl with
  | [v0, v1, v2, v3], _ =>
    have f0 : DataW.trod enc Try.prog w base spare held n 3 (List.take (Try.prog.cellsOf 3) (List.drop 0 [v0, v1, v2, v3])) = xs[0]? := hf 0 _ rfl
    have f1 : DataW.trod enc Try.prog w base spare held n 3 (List.take (Try.prog.cellsOf 3) (List.drop 1 [v0, v1, v2, v3])) = xs[1]? := hf 1 _ rfl
    have f2 : DataW.trod enc Try.prog w base spare held n 3 (List.take (Try.prog.cellsOf 3) (List.drop 2 [v0, v1, v2, v3])) = xs[2]? := hf 2 _ rfl
    have f3 : DataW.trod enc Try.prog w base spare held n 33 (List.take (Try.prog.cellsOf 33) (List.drop 3 [v0, v1, v2, v3])) = xs[3]? := hf 3 _ rfl
    obtain ⟨y0, e0⟩ := get_some (i := 0) hxl (by simp)
    obtain ⟨y1, e1⟩ := get_some (i := 1) hxl (by simp)
    obtain ⟨y2, e2⟩ := get_some (i := 2) hxl (by simp)
    obtain ⟨y3, e3⟩ := get_some (i := 3) hxl (by simp)
    rw [e0, Try.cells3] at f0
    rw [e1, Try.cells3] at f1
    rw [e2, Try.cells3] at f2
    rw [e3, Try.cells33] at f3
    obtain ⟨a, ha, ba⟩ := int_of f0
    obtain ⟨b, hb, bb⟩ := int_of f1
    obtain ⟨c, hc, bc⟩ := int_of f2
    obtain ⟨la, l, cap, hd, hI, hn⟩ := ints_of f3
    simp at ha hb hc hd
    exact ⟨⟨a, b, c, la, cap, l⟩, by simp [OpV.vals, ha, hb, hc, hd], ⟨bb, bc, hn⟩, hI⟩

theorem ops_of {fuel : Nat} {a : Option Addr} {len cap : Nat} {x : DataW H × List MemPlace} (h : DataW.trod enc Try.prog w base spare held fuel 22 [.slice a len cap] = some x) :
    ∃ l : List OpV, l.length = len ∧ OpsIn w a l ∧ OpsOk l ∧ len ≤ 9223372036854775807 := by
  rcases open_slice Try.underlying22 h with ⟨hcs, _⟩ | ⟨ad, len', cap', m, n, D, Pl, hcs, hb, hl, hm, hmm, hx, hi⟩
  · simp at hcs
    obtain ⟨rfl, rfl, rfl⟩ := hcs
    exact ⟨[], rfl, fun i o ho => by simp at ho, fun i o ho => by simp at ho, by omega⟩
  · simp at hcs
    obtain ⟨rfl, rfl, rfl⟩ := hcs
    have hlm : len ≤ m := by rw [hmm]; split <;> omega
    have each : ∀ i, i < len → ∃ o : OpV, (o.Ok ∧ IntsIn w o.la o.l) ∧ ∀ j, j < 4 → w.cell? (ad.add (i * 4 + j)) = o.vals[j]? := fun i hil => by
      obtain ⟨cs', hc, ht⟩ := hi i (by omega)
      obtain ⟨o, ho, hok⟩ := op_of ht
      rw [Try.cells35] at hc
      obtain ⟨_, _, hat⟩ := World.cells?_some hc
      refine ⟨o, hok, fun j hj => ?_⟩
      have := hat j hj
      rw [ho] at this
      rw [← this]
      congr 1
      exact (Go.Deep.add_add _ _ _).symm
    obtain ⟨F, hF⟩ : ∃ F : Nat → OpV, ∀ i, i < len → ((F i).Ok ∧ IntsIn w (F i).la (F i).l) ∧ ∀ j, j < 4 → w.cell? (ad.add (i * 4 + j)) = (F i).vals[j]? :=
      ⟨fun i => if hi : i < len then (each i hi).choose else ⟨0, 0, 0, none, 0, []⟩, fun i hi => by simp only [hi, dite_true]; exact (each i hi).choose_spec⟩
    have hget : ∀ i o, ((List.range len).map F)[i]? = some o → i < len ∧ o = F i := fun i o ho => by
      simp only [List.getElem?_map, Option.map_eq_some_iff] at ho
      obtain ⟨i', h1, h2⟩ := ho
      obtain ⟨hlt, rfl⟩ := List.getElem?_eq_some_iff.1 h1
      simp at hlt
      exact ⟨hlt, by simpa using h2.symm⟩
    refine ⟨(List.range len).map F, by simp, fun i o ho => ?_, fun i o ho => ?_, by unfold maxLen at hm; omega⟩
    · obtain ⟨hil, rfl⟩ := hget i o ho
      obtain ⟨hok, hv⟩ := hF i hil
      obtain ⟨b, off, spot⟩ := ad
      have h0 := (hF 0 (by omega)).2 0 (by omega)
      have hspot : spot = none := by
        have h9 : w.cell? ((⟨b, off, spot⟩ : Addr).add (0 * 4 + 0)) = some (.int .i64 (F 0).ask) := h0
        have := World.cell?_spot h9
        simpa [Addr.add] using this
      subst hspot
      have g : ∀ j v, j < 4 → (F i).vals[j]? = some v → w.cell? ⟨b, off + i * 4 + j, none⟩ = some v := fun j v hj hv' => by
        have := hv j hj
        rw [addr_add, hv'] at this
        rw [← this]
        congr 2
        omega
      exact ⟨b, off, rfl, ⟨g 0 _ (by omega) rfl, g 1 _ (by omega) rfl, g 2 _ (by omega) rfl, g 3 _ (by omega) rfl⟩, hok.2⟩
    · obtain ⟨hil, rfl⟩ := hget i o ho
      exact (hF i hil).1.1
end
end Go.Proofs.Ytkfphgcbpphbnaa
