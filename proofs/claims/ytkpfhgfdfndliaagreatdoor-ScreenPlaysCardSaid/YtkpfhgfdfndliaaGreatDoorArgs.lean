/-
  How the arguments, and the listed variable, are read: calls, lists of calls, places, sizes, cells; the blank cell.
-/
import Derived.Test.YtkpfhgfdfndliaaGreatDoorRows
import Derived.Test.YtkpfhgfdfndliaaGreatDoorBg
import Derived.ProofKit
import Derived.OpenShut
import Derived.ShutString
import Derived.ChangeOld
import Derived.Deep.Slices
import Derived.SliceStrings
import Derived.LaidMore
import Derived.LaidSub
import Derived.Stop.Joined
namespace Go.Proofs.YtkpfhgfdfndliaaGreatDoor
open Go.ChangeShapes Go.WideShapes Go.ChangeAt Go.RowKit Go.Deep

theorem Tryz.own : ownKnob Tryz.prog.godebug = none := by kernel_rfl
theorem Tryz.laidOut : laidOutB Tryz.prog = true := by kernel_rfl
theorem Tryz.cells40 : Tryz.prog.cellsOf 40 = 2 := by kernel_rfl
theorem Tryz.cells23 : Tryz.prog.cellsOf 23 = 2 := by kernel_rfl
theorem Tryz.cells36 : Tryz.prog.cellsOf 36 = 4 := by kernel_rfl
theorem Tryz.cells42 : Tryz.prog.cellsOf 42 = 12 := by kernel_rfl
theorem Tryz.cells21 : Tryz.prog.cellsOf 21 = 1 := by kernel_rfl
theorem Tryz.cells3 : Tryz.prog.cellsOf 3 = 1 := by kernel_rfl
theorem Tryz.cells4 : Tryz.prog.cellsOf 4 = 1 := by kernel_rfl

/-- A number of the kind int. -/
def I64 (n : Int) : Prop := -9223372036854775808 ≤ n ∧ n ≤ 9223372036854775807
theorem I64.of {n : Int} (h : (Lit.int .i64 n).wf = true) : I64 n := by
  simp only [Lit.wf, IntKind.min, IntKind.max, IntKind.signed, IntKind.bits, Bool.and_eq_true, decide_eq_true_eq, if_true] at h
  exact ⟨by omega, by omega⟩

theorem okWide_array' {P : Program} {w : World} {r : Reach} {base : Nat} {t e : TypeId} {n : Nat} {v : Value} (ht : P.underlying t = some (.array n e)) (h : Value.okWide P w r base t v) : ∃ cs, v = .agg cs ∧ cs.size = P.cellsOf t := by
  simp only [Value.okWide, ht] at h
  obtain ⟨cs, h1, h2, _⟩ := h
  exact ⟨cs, h1, h2⟩

theorem len1 {α : Type} {l : List α} (h : l.length = 1) : ∃ a, l = [a] := match l, h with | [a], _ => ⟨a, rfl⟩
theorem len2 {α : Type} {l : List α} (h : l.length = 2) : ∃ a b, l = [a, b] := match l, h with | [a, b], _ => ⟨a, b, rfl⟩
theorem len4 {α : Type} {l : List α} (h : l.length = 4) : ∃ a b c d, l = [a, b, c, d] := match l, h with | [a, b, c, d], _ => ⟨a, b, c, d, rfl⟩
theorem len12 {α : Type} {l : List α} (h : l.length = 12) : ∃ a b c d e f g h i j k m, l = [a, b, c, d, e, f, g, h, i, j, k, m] :=
  match l, h with | [a, b, c, d, e, f, g, h, i, j, k, m], _ => ⟨a, b, c, d, e, f, g, h, i, j, k, m, rfl⟩

section
variable {H : Type} {enc : TypeId × Value → H} {w : World} {base : Nat} {spare : Nat → Bool} {held : Bool}

theorem int_of {fuel : Nat} {cs : List Value} {x : DataW H × List MemPlace} (h : DataW.trod enc Tryz.prog w base spare held fuel 3 cs = some x) :
    ∃ n : Int, cs = [.int .i64 n] ∧ I64 n := by
  obtain ⟨n, h1, _, h2⟩ := DataW.trod_int Tryz.underlying3 h
  exact ⟨n, h1, I64.of h2⟩
theorem bool_of {fuel : Nat} {cs : List Value} {x : DataW H × List MemPlace} (h : DataW.trod enc Tryz.prog w base spare held fuel 4 cs = some x) : ∃ b : Bool, cs = [.bool b] := by
  obtain ⟨b, h1, _⟩ := DataW.trod_bool Tryz.underlying4 h
  exact ⟨b, h1⟩

theorem get_some {α : Type} {xs : List α} {i n : Nat} (h : xs.length = n) (hi : i < n) : ∃ y, xs[i]? = some y := ⟨_, List.getElem?_eq_getElem (by omega)⟩

theorem pos_of {fuel : Nat} {cs : List Value} {x : DataW H × List MemPlace} (h : DataW.trod enc Tryz.prog w base spare held fuel 40 cs = some x) :
    ∃ r c : Int, cs = [.int .i64 r, .int .i64 c] ∧ I64 r ∧ I64 c := by
  obtain ⟨xs, n, _, _, hl, hxl, hf⟩ := DataW.trod_struct Tryz.underlying40 h
  rw [Tryz.cells40] at hl
  obtain ⟨a, b, rfl⟩ := len2 hl
  have f0 : DataW.trod enc Tryz.prog w base spare held n 3 (List.take (Tryz.prog.cellsOf 3) (List.drop 0 [a, b])) = xs[0]? := hf 0 _ rfl
  have f1 : DataW.trod enc Tryz.prog w base spare held n 3 (List.take (Tryz.prog.cellsOf 3) (List.drop 1 [a, b])) = xs[1]? := hf 1 _ rfl
  obtain ⟨y0, e0⟩ := get_some (i := 0) hxl (by simp)
  obtain ⟨y1, e1⟩ := get_some (i := 1) hxl (by simp)
  rw [e0, Tryz.cells3] at f0
  rw [e1, Tryz.cells3] at f1
  obtain ⟨r, hr, br⟩ := int_of f0
  obtain ⟨c, hc, bc⟩ := int_of f1
  simp at hr hc
  exact ⟨r, c, by rw [hr, hc], br, bc⟩

theorem size_of {fuel : Nat} {cs : List Value} {x : DataW H × List MemPlace} (h : DataW.trod enc Tryz.prog w base spare held fuel 23 cs = some x) :
    ∃ r c : Int, cs = [.int .i64 r, .int .i64 c] ∧ I64 r ∧ I64 c := by
  obtain ⟨xs, n, _, _, hl, hxl, hf⟩ := DataW.trod_struct Tryz.underlying23 h
  rw [Tryz.cells23] at hl
  obtain ⟨a, b, rfl⟩ := len2 hl
  have f0 : DataW.trod enc Tryz.prog w base spare held n 3 (List.take (Tryz.prog.cellsOf 3) (List.drop 0 [a, b])) = xs[0]? := hf 0 _ rfl
  have f1 : DataW.trod enc Tryz.prog w base spare held n 3 (List.take (Tryz.prog.cellsOf 3) (List.drop 1 [a, b])) = xs[1]? := hf 1 _ rfl
  obtain ⟨y0, e0⟩ := get_some (i := 0) hxl (by simp)
  obtain ⟨y1, e1⟩ := get_some (i := 1) hxl (by simp)
  rw [e0, Tryz.cells3] at f0
  rw [e1, Tryz.cells3] at f1
  obtain ⟨r, hr, br⟩ := int_of f0
  obtain ⟨c, hc, bc⟩ := int_of f1
  simp at hr hc
  exact ⟨r, c, by rw [hr, hc], br, bc⟩

theorem glyph_of {fuel : Nat} {cs : List Value} {x : DataW H × List MemPlace} (h : DataW.trod enc Tryz.prog w base spare held fuel 21 cs = some x) : ∃ n : Int, cs = [.int .i32 n] := by
  obtain ⟨n, h1, _, _⟩ := DataW.trod_int Tryz.underlying21 h
  exact ⟨n, h1⟩

theorem cel_of {fuel : Nat} {cs : List Value} {x : DataW H × List MemPlace} (h : DataW.trod enc Tryz.prog w base spare held fuel 36 cs = some x) :
    ∃ c : Cel, cs = [.int .i32 c.g, .int .i64 c.a, .bool c.b, .int .i64 c.m] := by
  obtain ⟨xs, n, _, _, hl, hxl, hf⟩ := DataW.trod_struct Tryz.underlying36 h
  rw [Tryz.cells36] at hl
  obtain ⟨a, b, c, d, rfl⟩ := len4 hl
  have f0 : DataW.trod enc Tryz.prog w base spare held n 21 (List.take (Tryz.prog.cellsOf 21) (List.drop 0 [a, b, c, d])) = xs[0]? := hf 0 _ rfl
  have f1 : DataW.trod enc Tryz.prog w base spare held n 3 (List.take (Tryz.prog.cellsOf 3) (List.drop 1 [a, b, c, d])) = xs[1]? := hf 1 _ rfl
  have f2 : DataW.trod enc Tryz.prog w base spare held n 4 (List.take (Tryz.prog.cellsOf 4) (List.drop 2 [a, b, c, d])) = xs[2]? := hf 2 _ rfl
  have f3 : DataW.trod enc Tryz.prog w base spare held n 3 (List.take (Tryz.prog.cellsOf 3) (List.drop 3 [a, b, c, d])) = xs[3]? := hf 3 _ rfl
  obtain ⟨y0, e0⟩ := get_some (i := 0) hxl (by simp)
  obtain ⟨y1, e1⟩ := get_some (i := 1) hxl (by simp)
  obtain ⟨y2, e2⟩ := get_some (i := 2) hxl (by simp)
  obtain ⟨y3, e3⟩ := get_some (i := 3) hxl (by simp)
  rw [e0, Tryz.cells21] at f0
  rw [e1, Tryz.cells3] at f1
  rw [e2, Tryz.cells4] at f2
  rw [e3, Tryz.cells3] at f3
  obtain ⟨g, hg⟩ := glyph_of f0
  obtain ⟨t, ht, _⟩ := int_of f1
  obtain ⟨v, hv⟩ := bool_of f2
  obtain ⟨m, hm, _⟩ := int_of f3
  simp at hg ht hv hm
  exact ⟨⟨g, t, v, m⟩, by rw [hg, ht, hv, hm]⟩

theorem op_of {fuel : Nat} {cs : List Value} {x : DataW H × List MemPlace} (h : DataW.trod enc Tryz.prog w base spare held fuel 42 cs = some x) :
    ∃ o : Op, cs = o.vals ∧ OpOk o := by
  obtain ⟨xs, n, _, _, hl, hxl, hf⟩ := DataW.trod_struct Tryz.underlying42 h
  rw [Tryz.cells42] at hl
  obtain ⟨v0, v1, v2, v3, v4, v5, v6, v7, v8, v9, v10, v11, rfl⟩ := len12 hl
  have f0 : DataW.trod enc Tryz.prog w base spare held n 3 (List.take (Tryz.prog.cellsOf 3) (List.drop 0 [v0, v1, v2, v3, v4, v5, v6, v7, v8, v9, v10, v11])) = xs[0]? := hf 0 _ rfl
  have f1 : DataW.trod enc Tryz.prog w base spare held n 40 (List.take (Tryz.prog.cellsOf 40) (List.drop 1 [v0, v1, v2, v3, v4, v5, v6, v7, v8, v9, v10, v11])) = xs[1]? := hf 1 _ rfl
  have f2 : DataW.trod enc Tryz.prog w base spare held n 40 (List.take (Tryz.prog.cellsOf 40) (List.drop 3 [v0, v1, v2, v3, v4, v5, v6, v7, v8, v9, v10, v11])) = xs[2]? := hf 2 _ rfl
  have f3 : DataW.trod enc Tryz.prog w base spare held n 3 (List.take (Tryz.prog.cellsOf 3) (List.drop 5 [v0, v1, v2, v3, v4, v5, v6, v7, v8, v9, v10, v11])) = xs[3]? := hf 3 _ rfl
  have f4 : DataW.trod enc Tryz.prog w base spare held n 36 (List.take (Tryz.prog.cellsOf 36) (List.drop 6 [v0, v1, v2, v3, v4, v5, v6, v7, v8, v9, v10, v11])) = xs[4]? := hf 4 _ rfl
  have f5 : DataW.trod enc Tryz.prog w base spare held n 3 (List.take (Tryz.prog.cellsOf 3) (List.drop 10 [v0, v1, v2, v3, v4, v5, v6, v7, v8, v9, v10, v11])) = xs[5]? := hf 5 _ rfl
  have f6 : DataW.trod enc Tryz.prog w base spare held n 4 (List.take (Tryz.prog.cellsOf 4) (List.drop 11 [v0, v1, v2, v3, v4, v5, v6, v7, v8, v9, v10, v11])) = xs[6]? := hf 6 _ rfl
  obtain ⟨y0, e0⟩ := get_some (i := 0) hxl (by simp)
  obtain ⟨y1, e1⟩ := get_some (i := 1) hxl (by simp)
  obtain ⟨y2, e2⟩ := get_some (i := 2) hxl (by simp)
  obtain ⟨y3, e3⟩ := get_some (i := 3) hxl (by simp)
  obtain ⟨y4, e4⟩ := get_some (i := 4) hxl (by simp)
  obtain ⟨y5, e5⟩ := get_some (i := 5) hxl (by simp)
  obtain ⟨y6, e6⟩ := get_some (i := 6) hxl (by simp)
  rw [e0, Tryz.cells3] at f0
  rw [e1, Tryz.cells40] at f1
  rw [e2, Tryz.cells40] at f2
  rw [e3, Tryz.cells3] at f3
  rw [e4, Tryz.cells36] at f4
  rw [e5, Tryz.cells3] at f5
  rw [e6, Tryz.cells4] at f6
  obtain ⟨a, ha, _⟩ := int_of f0
  obtain ⟨r, c, hrc, _, _⟩ := pos_of f1
  obtain ⟨r', c', hrc', _, _⟩ := pos_of f2
  obtain ⟨k, hk, bk⟩ := int_of f3
  obtain ⟨q, hq⟩ := cel_of f4
  obtain ⟨m, hm, _⟩ := int_of f5
  obtain ⟨b, hb⟩ := bool_of f6
  simp at ha hrc hrc' hk hq hm hb
  exact ⟨⟨a, r, c, r', c', k, q, m, b⟩, by simp [Op.vals, ha, hrc, hrc', hk, hq, hm, hb], bk⟩

theorem ops_of {fuel : Nat} {a : Option Addr} {len cap : Nat} {x : DataW H × List MemPlace} (h : DataW.trod enc Tryz.prog w base spare held fuel 24 [.slice a len cap] = some x) :
    ∃ l : List Op, l.length = len ∧ OpsIn w a l ∧ len ≤ 9223372036854775807 := by
  rcases open_slice Tryz.underlying24 h with ⟨hcs, _⟩ | ⟨ad, len', cap', m, n, D, Pl, hcs, hb, hl, hm, hmm, hx, hi⟩
  · simp at hcs
    obtain ⟨rfl, rfl, rfl⟩ := hcs
    exact ⟨[], rfl, fun i o ho => by simp at ho, by omega⟩
  · simp at hcs
    obtain ⟨rfl, rfl, rfl⟩ := hcs
    have hlm : len ≤ m := by rw [hmm]; split <;> omega
    have each : ∀ i, i < len → ∃ o : Op, OpOk o ∧ ∀ j, j < 12 → w.cell? (ad.add (i * 12 + j)) = o.vals[j]? := fun i hil => by
      obtain ⟨cs', hc, ht⟩ := hi i (by omega)
      obtain ⟨o, ho, hok⟩ := op_of ht
      rw [Tryz.cells42] at hc
      obtain ⟨_, _, hat⟩ := World.cells?_some hc
      refine ⟨o, hok, fun j hj => ?_⟩
      have := hat j hj
      rw [ho] at this
      rw [← this]
      congr 1
      exact (Go.Deep.add_add _ _ _).symm
    obtain ⟨F, hF⟩ : ∃ F : Nat → Op, ∀ i, i < len → OpOk (F i) ∧ ∀ j, j < 12 → w.cell? (ad.add (i * 12 + j)) = (F i).vals[j]? :=
      ⟨fun i => if hi : i < len then (each i hi).choose else ⟨0, 0, 0, 0, 0, 0, zc, 0, false⟩, fun i hi => by simp only [hi, dite_true]; exact (each i hi).choose_spec⟩
    have hget : ∀ i o, ((List.range len).map F)[i]? = some o → i < len ∧ o = F i := fun i o ho => by
      simp only [List.getElem?_map, Option.map_eq_some_iff] at ho
      obtain ⟨i', h1, h2⟩ := ho
      obtain ⟨hlt, rfl⟩ := List.getElem?_eq_some_iff.1 h1
      simp at hlt
      exact ⟨hlt, by simpa using h2.symm⟩
    refine ⟨(List.range len).map F, by simp, fun i o ho => ?_, by unfold maxLen at hm; omega⟩
    obtain ⟨hil, rfl⟩ := hget i o ho
    have hv := (hF i hil).2
    obtain ⟨b, off, spot⟩ := ad
    have h0 := (hF 0 (by omega)).2 0 (by omega)
    have hspot : spot = none := by
      have h9 : w.cell? ((⟨b, off, spot⟩ : Addr).add (0 * 12 + 0)) = some (.int .i64 (F 0).ask) := h0
      have := World.cell?_spot h9
      simpa [Addr.add] using this
    subst hspot
    refine ⟨(hF i hil).1, b, off, rfl, fun j v hj => ?_⟩
    have hj10 : j < 12 := by have := (List.getElem?_eq_some_iff.1 hj).1; simpa [Op.vals] using this
    have := hv j hj10
    rw [Go.Proofs.YtkpfhgfdfndliaaGreatDoor.addr_add, hj] at this
    rw [← this]
    congr 2
    omega
end

theorem gBlank : Tryz.prog.globalNamed "vizard/screen.Blank" = some 0 := by kernel_rfl
theorem tBlank : (Tryz.prog.globals[0]?).map (·.type) = some 36 := by kernel_rfl

theorem blank_of_laid {W : World} (h : laidMetH Tryz.prog [("vizard/screen.Blank", Rows.laid_vizard_screen_Blank)] W) : Blank W := by
  rw [MakeChecks.laidMetH_plain _ _ _ (by kernel_rfl)] at h
  obtain ⟨ps, ⟨g0, t0, cs0, f0, p0, q0, hg0, ht0, hv0, hd0, hq, hps⟩, _, hcl⟩ := h
  obtain rfl := Option.some.inj (gBlank.symm.trans hg0)
  obtain rfl := Option.some.inj (tBlank.symm.trans ht0)
  obtain ⟨xs, m, rfl, hx, hl, hn, hf⟩ := DataW.trod_struct Tryz.underlying36 hd0
  rw [Tryz.cells36] at hl
  have hcs : cs0 = #[.int .i32 32, .int .i64 0, .bool false, .int .i64 0] := by
    obtain ⟨l⟩ := cs0
    obtain ⟨a0, a1, a2, a3, rfl⟩ := len4 hl
    obtain ⟨x0, x1, x2, x3, rfl⟩ := len4 hn
    simp only [Rows.laid_vizard_screen_Blank, List.map_cons, List.map_nil, Prod.mk.injEq, DataW.agg.injEq, List.cons.injEq, and_true] at hx
    obtain ⟨⟨h0, h1, h2, h3⟩, _⟩ := hx
    have g0 : DataW.trod (fun _ => ()) Tryz.prog W 0 (fun _ => true) false m 21 (([a0, a1, a2, a3].drop 0).take (Tryz.prog.cellsOf 21)) = some x0 := hf 0 _ rfl
    have g1 : DataW.trod (fun _ => ()) Tryz.prog W 0 (fun _ => true) false m 3 (([a0, a1, a2, a3].drop 1).take (Tryz.prog.cellsOf 3)) = some x1 := hf 1 _ rfl
    have g2 : DataW.trod (fun _ => ()) Tryz.prog W 0 (fun _ => true) false m 4 (([a0, a1, a2, a3].drop 2).take (Tryz.prog.cellsOf 4)) = some x2 := hf 2 _ rfl
    have g3 : DataW.trod (fun _ => ()) Tryz.prog W 0 (fun _ => true) false m 3 (([a0, a1, a2, a3].drop 3).take (Tryz.prog.cellsOf 3)) = some x3 := hf 3 _ rfl
    rw [Tryz.cells21] at g0
    rw [Tryz.cells3] at g1 g3
    rw [Tryz.cells4] at g2
    simp only [List.drop_zero, List.drop_succ_cons, List.take_succ_cons, List.take_zero] at g0 g1 g2 g3
    obtain ⟨n0, e0, e1, _⟩ := DataW.trod_int Tryz.underlying21 g0
    obtain ⟨n1, e2, e3, _⟩ := DataW.trod_int Tryz.underlying3 g1
    obtain ⟨n2, e4, e5⟩ := DataW.trod_bool Tryz.underlying4 g2
    obtain ⟨n3, e6, e7, _⟩ := DataW.trod_int Tryz.underlying3 g3
    subst e1 e3 e5 e7
    simp only [List.cons.injEq, and_true] at e0 e2 e4 e6
    subst e0 e2 e4 e6
    simp only [DataW.lit.injEq, Lit.int.injEq, Lit.bool.injEq, true_and] at h0 h1 h2 h3
    subst h0 h1 h2 h3
    rfl
  subst hcs
  obtain ⟨⟨c, t, hc⟩, _⟩ := hcl 0 0 (by rw [hps]; simp [MemPlace.row])
  refine ⟨t, ?_⟩
  rw [hc]
  have : c = #[.int .i32 32, .int .i64 0, .bool false, .int .i64 0] := by
    simp [World.var?, hg0, hc] at hv0
    exact hv0
  rw [this]
end Go.Proofs.YtkpfhgfdfndliaaGreatDoor
