/-
  What the listed variables give the walks: the table of words lies in its block.
-/
import Derived.Test.YtacnoakgfkcfbaaDoorTab
import Derived.ProofKit
import Derived.LaidMore
import Derived.LaidSub
import Derived.OpenShut
import Derived.Stop.Joined
namespace Go.Proofs.YtacnoakgfkcfbaaDoor
open Go.ChangeShapes Go.WideShapes Go.ChangeAt Go.RowKit

theorem Tryd.own : ownKnob Tryd.prog.godebug = none := by kernel_rfl
theorem gWords : Tryd.prog.globalNamed "vizard/attr.words" = some 0 := by kernel_rfl
theorem tWords : (Tryd.prog.globals[0]?).map (·.type) = some 49 := by kernel_rfl

theorem word_of {W : World} {f : Nat} {cs : List Value} {nm : List UInt8} {b u : Int} {p : List MemPlace} (h : DataW.trod (fun _ => ()) Tryd.prog W 0 (fun _ => true) false f 48 cs = some (.agg [.lit (.string nm), .lit (.int .i64 b), .lit (.int .i64 u)], p)) :
    cs = [.string ⟨nm.toArray⟩, .int .i64 b, .int .i64 u] := by
  obtain ⟨xs, m, rfl, hx, hl, hn, hf⟩ := DataW.trod_struct Tryd.underlying48 h
  have c48 : Tryd.prog.cellsOf 48 = 3 := by kernel_rfl
  have c3 : Tryd.prog.cellsOf 3 = 1 := by kernel_rfl
  have c9 : Tryd.prog.cellsOf 9 = 1 := by kernel_rfl
  rw [c48] at hl
  match cs, hl with
  | [x, y, z], _ =>
    match xs, hn with
    | [x0, x1, x2], _ =>
      have f0 : DataW.trod (fun _ => ()) Tryd.prog W 0 (fun _ => true) false m 9 (([x, y, z].drop 0).take (Tryd.prog.cellsOf 9)) = some x0 := hf 0 _ rfl
      have f1 : DataW.trod (fun _ => ()) Tryd.prog W 0 (fun _ => true) false m 3 (([x, y, z].drop 1).take (Tryd.prog.cellsOf 3)) = some x1 := hf 1 _ rfl
      have f2 : DataW.trod (fun _ => ()) Tryd.prog W 0 (fun _ => true) false m 3 (([x, y, z].drop 2).take (Tryd.prog.cellsOf 3)) = some x2 := hf 2 _ rfl
      rw [c9] at f0
      rw [c3] at f1 f2
      simp only [List.drop_zero, List.drop_succ_cons, List.take_succ_cons, List.take_zero] at f0 f1 f2
      obtain ⟨s, e0, e1, _⟩ := DataW.trod_string Tryd.underlying9 f0
      obtain ⟨b', e2, e3, _⟩ := DataW.trod_int Tryd.underlying3 f1
      obtain ⟨u', e4, e5, _⟩ := DataW.trod_int Tryd.underlying3 f2
      subst e1 e3 e5
      simp only [List.cons.injEq, and_true] at e0 e2 e4
      subst e0 e2 e4
      simp only [List.map_cons, List.map_nil, Prod.mk.injEq, DataW.agg.injEq, List.cons.injEq, DataW.lit.injEq, Lit.string.injEq, Lit.int.injEq, true_and, and_true] at hx
      obtain ⟨⟨rfl, rfl, rfl⟩, _⟩ := hx
      rfl

theorem words_of_one {W : World} (h : laidMetH Tryd.prog [("vizard/attr.words", Rows.laid_vizard_attr_words)] W) : WordsAt W := by
  rw [MakeChecks.laidMetH_plain _ _ _ (by kernel_rfl)] at h
  obtain ⟨ps, ⟨g0, t0, cs0, f0, p0, q0, hg0, ht0, hv0, hd0, hq, hps⟩, _, hcl⟩ := h
  obtain rfl := Option.some.inj (gWords.symm.trans hg0)
  obtain rfl := Option.some.inj (tWords.symm.trans ht0)
  obtain ⟨xs, m, rfl, hx, hl, hn, hf⟩ := DataW.trod_array Tryd.underlying49 hd0
  have c48 : Tryd.prog.cellsOf 48 = 3 := by kernel_rfl
  have c49 : Tryd.prog.cellsOf 49 = 24 := by kernel_rfl
  rw [c49] at hl
  rw [c48] at hf
  have hcs : cs0 = wcells := by
    obtain ⟨l⟩ := cs0
    match l, hl with
    | [a0, a1, a2, a3, a4, a5, a6, a7, a8, a9, a10, a11, a12, a13, a14, a15, a16, a17, a18, a19, a20, a21, a22, a23], _ =>
      match xs, hn with
      | [x0, x1, x2, x3, x4, x5, x6, x7], _ =>
        simp only [Rows.laid_vizard_attr_words, List.map_cons, List.map_nil, Prod.mk.injEq, DataW.agg.injEq, List.cons.injEq, and_true] at hx
        obtain ⟨⟨h0, h1, h2, h3, h4, h5, h6, h7⟩, _⟩ := hx
        have g0 := hf 0 (by decide)
        have g1 := hf 1 (by decide)
        have g2 := hf 2 (by decide)
        have g3 := hf 3 (by decide)
        have g4 := hf 4 (by decide)
        have g5 := hf 5 (by decide)
        have g6 := hf 6 (by decide)
        have g7 := hf 7 (by decide)
        simp only [Nat.zero_mul, Nat.one_mul, Nat.reduceMul, List.drop_zero, List.drop_succ_cons, List.take_succ_cons, List.take_zero, List.getElem?_cons_zero, List.getElem?_cons_succ] at g0 g1 g2 g3 g4 g5 g6 g7
        obtain ⟨y0, z0⟩ := x0
        obtain ⟨y1, z1⟩ := x1
        obtain ⟨y2, z2⟩ := x2
        obtain ⟨y3, z3⟩ := x3
        obtain ⟨y4, z4⟩ := x4
        obtain ⟨y5, z5⟩ := x5
        obtain ⟨y6, z6⟩ := x6
        obtain ⟨y7, z7⟩ := x7
        simp only at h0 h1 h2 h3 h4 h5 h6 h7
        subst h0 h1 h2 h3 h4 h5 h6 h7
        replace g0 := word_of g0
        replace g1 := word_of g1
        replace g2 := word_of g2
        replace g3 := word_of g3
        replace g4 := word_of g4
        replace g5 := word_of g5
        replace g6 := word_of g6
        replace g7 := word_of g7
        simp only [List.cons.injEq, and_true] at g0 g1 g2 g3 g4 g5 g6 g7
        obtain ⟨rfl, rfl, rfl⟩ := g0
        obtain ⟨rfl, rfl, rfl⟩ := g1
        obtain ⟨rfl, rfl, rfl⟩ := g2
        obtain ⟨rfl, rfl, rfl⟩ := g3
        obtain ⟨rfl, rfl, rfl⟩ := g4
        obtain ⟨rfl, rfl, rfl⟩ := g5
        obtain ⟨rfl, rfl, rfl⟩ := g6
        obtain ⟨rfl, rfl, rfl⟩ := g7
        rfl
  subst hcs
  obtain ⟨⟨c, t, hc⟩, _⟩ := hcl 0 0 (by rw [hps]; simp [MemPlace.row, wcells])
  refine ⟨t, ?_⟩
  rw [hc]
  have : c = wcells := by
    simp [World.var?, hg0, hc] at hv0
    exact hv0
  rw [this]

theorem words_of_laid {W : World} {l : List (String × DataW Unit)} (h : laidMetH Tryd.prog l W) (hl : l.filter (fun x => x.1 == "vizard/attr.words") = [("vizard/attr.words", Rows.laid_vizard_attr_words)]) : WordsAt W := by
  have := h.filter (fun x => x.1 == "vizard/attr.words")
  rw [hl] at this
  exact words_of_one this
#print axioms words_of_laid
end Go.Proofs.YtacnoakgfkcfbaaDoor
