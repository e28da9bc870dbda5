/-
  How a list of calls, and two places, are read.
-/
import Derived.Test.YtekjjnfbahmjcaaArgs
import Derived.Test.YtekjjnfbahmjcaaBegun
import Derived.Deep.Slices
namespace Go.Proofs.Ytekjjnfbahmjcaa
open Go.ChangeShapes Go.WideShapes Go.ChangeAt Go.RowKit Go.Deep

theorem Try.cells71 : Try.prog.cellsOf 71 = 4 := by kernel_rfl

theorem okWide_array' {P : Program} {w : World} {r : Reach} {base : Nat} {t e : TypeId} {n : Nat} {v : Value} (ht : P.underlying t = some (.array n e)) (h : Value.okWide P w r base t v) : ∃ cs, v = .agg cs ∧ cs.size = P.cellsOf t := by
  simp only [Value.okWide, ht] at h
  obtain ⟨cs, h1, h2, _⟩ := h
  exact ⟨cs, h1, h2⟩

section
variable {H : Type} {enc : TypeId × Value → H} {w : World} {base : Nat} {spare : Nat → Bool} {held : Bool}

theorem two_of {fuel : Nat} {cs : List Value} {x : DataW H × List MemPlace} (h : DataW.trod enc Try.prog w base spare held fuel 71 cs = some x) :
    ∃ a b c d : Int, cs = [.int .i64 a, .int .i64 b, .int .i64 c, .int .i64 d] := by
  obtain ⟨xs, n, _, _, hl, hxl, hf⟩ := DataW.trod_array Try.underlying71 h
  rw [Try.cells71] at hl
  match cs, hl with
  | [v0, v1, v2, v3], _ =>
    have f0 := hf 0 (by omega)
    have f1 := hf 1 (by omega)
    obtain ⟨y0, e0⟩ := get_some (i := 0) hxl (by omega)
    obtain ⟨y1, e1⟩ := get_some (i := 1) hxl (by omega)
    rw [e0, Try.cells39] at f0
    rw [e1, Try.cells39] at f1
    obtain ⟨a, b, hab, _, _⟩ := pos_of f0
    obtain ⟨c, d, hcd, _, _⟩ := pos_of f1
    simp at hab hcd
    exact ⟨a, b, c, d, by rw [hab.1, hab.2, hcd.1, hcd.2]⟩

theorem ops_of {fuel : Nat} {a : Option Addr} {len cap : Nat} {x : DataW H × List MemPlace} (h : DataW.trod enc Try.prog w base spare held fuel 24 [.slice a len cap] = some x) :
    ∃ l : List OpV, l.length = len ∧ OpsIn w a l ∧ OpsOk l ∧ len ≤ 9223372036854775807 := by
  rcases open_slice Try.underlying24 h with ⟨hcs, _⟩ | ⟨ad, len', cap', m, n, D, Pl, hcs, hb, hl, hm, hmm, hx, hi⟩
  · simp at hcs
    obtain ⟨rfl, rfl, rfl⟩ := hcs
    exact ⟨[], rfl, fun i o ho => by simp at ho, fun i o ho => by simp at ho, by omega⟩
  · simp at hcs
    obtain ⟨rfl, rfl, rfl⟩ := hcs
    have hlm : len ≤ m := by rw [hmm]; split <;> omega
    have each : ∀ i, i < len → ∃ o : OpV, o.Ok ∧ ∀ j, j < 7 → w.cell? (ad.add (i * 7 + j)) = o.vals[j]? := fun i hil => by
      obtain ⟨cs', hc, ht⟩ := hi i (by omega)
      obtain ⟨o, ho, hok⟩ := op_of ht
      rw [Try.cells41] at hc
      obtain ⟨_, _, hat⟩ := World.cells?_some hc
      refine ⟨o, hok, fun j hj => ?_⟩
      have := hat j hj
      rw [ho] at this
      rw [← this]
      congr 1
      exact (Go.Deep.add_add _ _ _).symm
    obtain ⟨F, hF⟩ : ∃ F : Nat → OpV, ∀ i, i < len → (F i).Ok ∧ ∀ j, j < 7 → w.cell? (ad.add (i * 7 + j)) = (F i).vals[j]? :=
      ⟨fun i => if hi : i < len then (each i hi).choose else ⟨0, 0, 0, 0, 0, 0, 0⟩, fun i hi => by simp only [hi, dite_true]; exact (each i hi).choose_spec⟩
    have hget : ∀ i o, ((List.range len).map F)[i]? = some o → i < len ∧ o = F i := fun i o ho => by
      simp only [List.getElem?_map, Option.map_eq_some_iff] at ho
      obtain ⟨i', h1, h2⟩ := ho
      obtain ⟨hlt, rfl⟩ := List.getElem?_eq_some_iff.1 h1
      simp at hlt
      exact ⟨hlt, by simpa using h2.symm⟩
    refine ⟨(List.range len).map F, by simp, fun i o ho => ?_, fun i o ho => ?_, by unfold maxLen at hm; omega⟩
    · obtain ⟨hil, rfl⟩ := hget i o ho
      obtain ⟨_, hv⟩ := hF i hil
      obtain ⟨b, off, spot⟩ := ad
      have h0 := (hF 0 (by omega)).2 0 (by omega)
      have hspot : spot = none := by
        have h9 : w.cell? ((⟨b, off, spot⟩ : Addr).add (0 * 7 + 0)) = some (.int .i64 (F 0).ask) := h0
        have := World.cell?_spot h9
        simpa [Addr.add] using this
      subst hspot
      have g : ∀ j v, j < 7 → (F i).vals[j]? = some v → w.cell? ⟨b, off + i * 7 + j, none⟩ = some v := fun j v hj hv' => by
        have := hv j hj
        rw [addr_add, hv'] at this
        rw [← this]
        congr 2
        omega
      exact ⟨b, off, rfl, g 0 _ (by omega) rfl, g 1 _ (by omega) rfl, g 2 _ (by omega) rfl, g 3 _ (by omega) rfl, g 4 _ (by omega) rfl, g 5 _ (by omega) rfl, g 6 _ (by omega) rfl⟩
    · obtain ⟨hil, rfl⟩ := hget i o ho
      exact (hF i hil).1.n
end
end Go.Proofs.Ytekjjnfbahmjcaa
