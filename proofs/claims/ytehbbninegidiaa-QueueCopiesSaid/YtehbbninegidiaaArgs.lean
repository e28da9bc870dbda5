/-
  How the arguments are read: numbers, texts, calls; each text takes no more bytes than the form's own reach.
-/
import Derived.Test.YtehbbninegidiaaRows
import Derived.Test.YtehbbninegidiaaRgG
import Derived.ProofKit
import Derived.OpenShut
import Derived.ShutString
import Derived.ChangeOld
import Derived.Deep.Slices
import Derived.SliceStrings
import Derived.SizedLaws
namespace Go.Proofs.Ytehbbninegidiaa
open Go.ChangeShapes Go.WideShapes Go.ChangeAt Go.RowKit Go.Deep

theorem Try.own : ownKnob Try.prog.godebug = none := by kernel_rfl
theorem Try.laidOut : laidOutB Try.prog = true := by kernel_rfl
theorem Try.cells35 : Try.prog.cellsOf 35 = 3 := by kernel_rfl
theorem Try.cells33 : Try.prog.cellsOf 33 = 1 := by kernel_rfl
theorem Try.cells9 : Try.prog.cellsOf 9 = 1 := by kernel_rfl
theorem Try.cells3 : Try.prog.cellsOf 3 = 1 := by kernel_rfl

/-- A number of the kind int. -/
def I64 (n : Int) : Prop := -9223372036854775808 ≤ n ∧ n ≤ 9223372036854775807
theorem I64.of {n : Int} (h : (Lit.int .i64 n).wf = true) : I64 n := by
  simp only [Lit.wf, IntKind.min, IntKind.max, IntKind.signed, IntKind.bits, Bool.and_eq_true, decide_eq_true_eq, if_true] at h
  exact ⟨by omega, by omega⟩
theorem get_some {α : Type} {xs : List α} {i n : Nat} (h : xs.length = n) (hi : i < n) : ∃ y, xs[i]? = some y := ⟨_, List.getElem?_eq_getElem (by omega)⟩

/-- What is read takes no more than the form's reach. -/
def Small {H : Type} (t : TypeId) (d : DataW H) : Prop := ∀ n ∈ d.weights Try.prog t, n ≤ 140737488351232
theorem weights_all {H : Type} {P : Program} {e : TypeId} : ∀ {ds : List (DataW H)} {d : DataW H}, d ∈ ds → ∀ n ∈ d.weights P e, n ∈ DataW.weightsAll P e ds
  | [], _, h, _, _ => by simp at h
  | d0 :: ds, d, h, n, hn => by
    simp only [DataW.weightsAll, List.mem_append]
    rcases List.mem_cons.1 h with rfl | h
    · exact Or.inl hn
    · exact Or.inr (weights_all h n hn)
section
variable {H : Type} {enc : TypeId × Value → H} {w : World} {base : Nat} {spare : Nat → Bool} {held : Bool}

theorem int_of {fuel : Nat} {cs : List Value} {x : DataW H × List MemPlace} (h : DataW.trod enc Try.prog w base spare held fuel 3 cs = some x) :
    ∃ n : Int, cs = [.int .i64 n] ∧ I64 n := by
  obtain ⟨n, h1, _, h2⟩ := DataW.trod_int Try.underlying3 h
  exact ⟨n, h1, I64.of h2⟩

theorem strs_of {fuel : Nat} {cs : List Value} {x : DataW H × List MemPlace} (h : DataW.trod enc Try.prog w base spare held fuel 33 cs = some x) (hw : Small 33 x.1) :
    ∃ (a : Option Addr) (l : List ByteArray) (cap : Nat), cs = [.slice a l.length cap] ∧ StrsIn w a l ∧ l.length ≤ 9223372036854775807 := by
  rcases open_strings Try.underlying33 Try.underlying9 Try.cells9 h with ⟨hcs, _⟩ | ⟨ad, len, cap, zs, hcs, hb, hl, hm, hz, hx, hi, hs⟩
  · exact ⟨none, [], 0, hcs, fun k y hy => by simp at hy, by decide⟩
  · have hlz : len ≤ zs.length := by rw [hz]; split <;> omega
    have hlen : (zs.take len).length = len := by rw [List.length_take]; omega
    have hsm : ∀ s ∈ zs.take len, s.size ≤ 140737488351232 := fun s hs => by
      refine hw _ ?_
      rw [hx]
      simp only [DataW.weights, Try.underlying33, List.mem_cons, List.mem_append]
      refine Or.inr (Or.inl (weights_all (d := .lit (.string s.data.toList)) ?_ _ ?_))
      · unfold strs
        exact List.mem_map.2 ⟨s, hs, rfl⟩
      · simp [DataW.weights]
    refine ⟨some ad, zs.take len, cap, by rw [hlen]; exact hcs, fun k y hy => ?_, by rw [hlen]; unfold maxLen at hm; omega⟩
    have hsy := hsm y (List.mem_of_getElem? hy)
    have hk : k < len := by
      have := (List.getElem?_eq_some_iff.1 hy).1
      omega
    rw [List.getElem?_take_of_lt hk] at hy
    have hc := hi k (by omega)
    rw [List.getD_eq_getElem?_getD, hy] at hc
    obtain ⟨b, off, spot⟩ := ad
    have hspot : spot = none := by
      have := World.cell?_spot (hi 0 (by omega))
      simpa [Addr.add] using this
    subst hspot
    rw [Go.Proofs.Ytehbbninegidiaa.addr_add] at hc
    exact ⟨b, off, rfl, hc, hsy⟩

def OpV.vals (o : OpV) : List Value := [.int .i64 o.ask, .slice o.la o.l.length o.lcap, .int .i64 o.n]

theorem op_of {fuel : Nat} {cs : List Value} {x : DataW H × List MemPlace} (h : DataW.trod enc Try.prog w base spare held fuel 35 cs = some x) (hw : Small 35 x.1) :
    ∃ o : OpV, cs = o.vals ∧ o.Ok ∧ StrsIn w o.la o.l := by
  obtain ⟨xs, n, _, hxx, hl, hxl, hf⟩ := DataW.trod_struct Try.underlying35 h
  rw [Try.cells35] at hl
  match cs, hl with
  | [v0, v1, v2], _ =>
    have f0 : DataW.trod enc Try.prog w base spare held n 3 (List.take (Try.prog.cellsOf 3) (List.drop 0 [v0, v1, v2])) = xs[0]? := hf 0 _ rfl
    have f1 : DataW.trod enc Try.prog w base spare held n 33 (List.take (Try.prog.cellsOf 33) (List.drop 1 [v0, v1, v2])) = xs[1]? := hf 1 _ rfl
    have f2 : DataW.trod enc Try.prog w base spare held n 3 (List.take (Try.prog.cellsOf 3) (List.drop 2 [v0, v1, v2])) = xs[2]? := hf 2 _ rfl
    obtain ⟨y0, e0⟩ := get_some (i := 0) hxl (by simp)
    obtain ⟨y1, e1⟩ := get_some (i := 1) hxl (by simp)
    obtain ⟨y2, e2⟩ := get_some (i := 2) hxl (by simp)
    rw [e0, Try.cells3] at f0
    rw [e1, Try.cells33] at f1
    rw [e2, Try.cells3] at f2
    obtain ⟨a, ha, ba⟩ := int_of f0
    obtain ⟨c, hc, bc⟩ := int_of f2
    have hw1 : Small 33 y1.1 := fun m hm => by
      refine hw m ?_
      rw [hxx]
      simp only [DataW.weights, Try.underlying35]
      exact DataW.weights_mem_each (j := 1) (t := 33) (d := y1.1) rfl (by rw [List.getElem?_map, e1]; rfl) m hm
    obtain ⟨la, l, cap, hd, hI, hn⟩ := strs_of f1 hw1
    simp at ha hc hd
    exact ⟨⟨a, la, cap, l, c⟩, by simp [OpV.vals, ha, hc, hd], ⟨bc, hn⟩, hI⟩

theorem ops_of {fuel : Nat} {a : Option Addr} {len cap : Nat} {x : DataW H × List MemPlace} (h : DataW.trod enc Try.prog w base spare held fuel 22 [.slice a len cap] = some x) (hw : Small 22 x.1) :
    ∃ l : List OpV, l.length = len ∧ OpsIn w a l ∧ OpsOk l ∧ len ≤ 9223372036854775807 := by
  rcases open_slice Try.underlying22 h with ⟨hcs, _⟩ | ⟨ad, len', cap', m, n, D, Pl, hcs, hb, hl, hm, hmm, hx, hi⟩
  · simp at hcs
    obtain ⟨rfl, rfl, rfl⟩ := hcs
    exact ⟨[], rfl, fun i o ho => by simp at ho, fun i o ho => by simp at ho, by omega⟩
  · simp at hcs
    obtain ⟨rfl, rfl, rfl⟩ := hcs
    have hlm : len ≤ m := by rw [hmm]; split <;> omega
    have each : ∀ i, i < len → ∃ o : OpV, (o.Ok ∧ StrsIn w o.la o.l) ∧ ∀ j, j < 3 → w.cell? (ad.add (i * 3 + j)) = o.vals[j]? := fun i hil => by
      obtain ⟨cs', hc, ht⟩ := hi i (by omega)
      have hwD : Small 35 (D i) := fun q hq => by
        refine hw q ?_
        rw [hx]
        simp only [DataW.weights, Try.underlying22, List.mem_cons, List.mem_append]
        exact Or.inr (Or.inl (weights_all (List.mem_map.2 ⟨i, by simpa using hil, rfl⟩) q hq))
      obtain ⟨o, ho, hok⟩ := op_of ht hwD
      rw [Try.cells35] at hc
      obtain ⟨_, _, hat⟩ := World.cells?_some hc
      refine ⟨o, hok, fun j hj => ?_⟩
      have := hat j hj
      rw [ho] at this
      rw [← this]
      congr 1
      exact (Go.Deep.add_add _ _ _).symm
    obtain ⟨F, hF⟩ : ∃ F : Nat → OpV, ∀ i, i < len → ((F i).Ok ∧ StrsIn w (F i).la (F i).l) ∧ ∀ j, j < 3 → w.cell? (ad.add (i * 3 + j)) = (F i).vals[j]? :=
      ⟨fun i => if hi : i < len then (each i hi).choose else ⟨0, none, 0, [], 0⟩, fun i hi => by simp only [hi, dite_true]; exact (each i hi).choose_spec⟩
    have hget : ∀ i o, ((List.range len).map F)[i]? = some o → i < len ∧ o = F i := fun i o ho => by
      simp only [List.getElem?_map, Option.map_eq_some_iff] at ho
      obtain ⟨i', h1, h2⟩ := ho
      obtain ⟨hlt, rfl⟩ := List.getElem?_eq_some_iff.1 h1
      simp at hlt
      exact ⟨hlt, by simpa using h2.symm⟩
    refine ⟨(List.range len).map F, by simp, fun i o ho => ?_, fun i o ho => ?_, by unfold maxLen at hm; omega⟩
    · obtain ⟨hil, rfl⟩ := hget i o ho
      obtain ⟨hok, hv⟩ := hF i hil
      obtain ⟨b, off, spot⟩ := ad
      have h0 := (hF 0 (by omega)).2 0 (by omega)
      have hspot : spot = none := by
        have h9 : w.cell? ((⟨b, off, spot⟩ : Addr).add (0 * 3 + 0)) = some (.int .i64 (F 0).ask) := h0
        have := World.cell?_spot h9
        simpa [Addr.add] using this
      subst hspot
      have g : ∀ j v, j < 3 → (F i).vals[j]? = some v → w.cell? ⟨b, off + i * 3 + j, none⟩ = some v := fun j v hj hv' => by
        have := hv j hj
        rw [Go.Proofs.Ytehbbninegidiaa.addr_add, hv'] at this
        rw [← this]
        congr 2
        omega
      exact ⟨b, off, rfl, ⟨g 0 _ (by omega) rfl, g 1 _ (by omega) rfl, g 2 _ (by omega) rfl⟩, hok.2⟩
    · obtain ⟨hil, rfl⟩ := hget i o ho
      exact (hF i hil).1.1
theorem texts_of {fuel : Nat} {a : Option Addr} {len cap : Nat} {x : DataW H × List MemPlace} (h : DataW.trod enc Try.prog w base spare held fuel 33 [.slice a len cap] = some x) (hw : Small 33 x.1) :
    ∃ l : List ByteArray, l.length = len ∧ StrsIn w a l ∧ len ≤ 9223372036854775807 := by
  obtain ⟨a', l, cap', h1, h2, h3⟩ := strs_of h hw
  simp at h1
  obtain ⟨rfl, rfl, rfl⟩ := h1
  exact ⟨l, rfl, h2, h3⟩
theorem op_one {fuel : Nat} {cs : List Value} {x : DataW H × List MemPlace} (h : DataW.trod enc Try.prog w base spare held fuel 35 cs = some x) (hw : Small 35 x.1) :
    ∃ o : OpV, cs = [.int .i64 o.ask, .slice o.la o.l.length o.lcap, .int .i64 o.n] ∧ o.Ok ∧ StrsIn w o.la o.l := op_of h hw
end
end Go.Proofs.Ytehbbninegidiaa
