/-
  How the arguments, and the listed variable, are read: calls, lists of calls, places, sizes, cells; the blank cell.
-/
import Derived.Test.YtlhajbcabpfbkaaDoorRows
import Derived.Test.YtlhajbcabpfbkaaDoorVtN
import Derived.ProofKit
import Derived.OpenShut
import Derived.ShutString
import Derived.ChangeOld
import Derived.Deep.Slices
import Derived.SliceStrings
import Derived.LaidMore
import Derived.LaidSub
import Derived.Stop.Joined
namespace Go.Proofs.YtlhajbcabpfbkaaDoor
open Go.ChangeShapes Go.WideShapes Go.ChangeAt Go.RowKit Go.Deep

theorem Tryd.own : ownKnob Tryd.prog.godebug = none := by kernel_rfl
theorem Tryd.laidOut : laidOutB Tryd.prog = true := by kernel_rfl
theorem Tryd.cells41 : Tryd.prog.cellsOf 41 = 2 := by kernel_rfl
theorem Tryd.cells48 : Tryd.prog.cellsOf 48 = 4 := by kernel_rfl
theorem Tryd.cells21 : Tryd.prog.cellsOf 21 = 1 := by kernel_rfl
theorem Tryd.cells3 : Tryd.prog.cellsOf 3 = 1 := by kernel_rfl
theorem Tryd.cells4 : Tryd.prog.cellsOf 4 = 1 := by kernel_rfl

/-- A number of the kind int. -/
def I64 (n : Int) : Prop := -9223372036854775808 ≤ n ∧ n ≤ 9223372036854775807
theorem I64.of {n : Int} (h : (Lit.int .i64 n).wf = true) : I64 n := by
  simp only [Lit.wf, IntKind.min, IntKind.max, IntKind.signed, IntKind.bits, Bool.and_eq_true, decide_eq_true_eq, if_true] at h
  exact ⟨by omega, by omega⟩

theorem len2 {α : Type} {l : List α} (h : l.length = 2) : ∃ a b, l = [a, b] := match l, h with | [a, b], _ => ⟨a, b, rfl⟩
theorem len4 {α : Type} {l : List α} (h : l.length = 4) : ∃ a b c d, l = [a, b, c, d] := match l, h with | [a, b, c, d], _ => ⟨a, b, c, d, rfl⟩

section
variable {H : Type} {enc : TypeId × Value → H} {w : World} {base : Nat} {spare : Nat → Bool} {held : Bool}

theorem int_of {fuel : Nat} {cs : List Value} {x : DataW H × List MemPlace} (h : DataW.trod enc Tryd.prog w base spare held fuel 3 cs = some x) :
    ∃ n : Int, cs = [.int .i64 n] ∧ I64 n := by
  obtain ⟨n, h1, _, h2⟩ := DataW.trod_int Tryd.underlying3 h
  exact ⟨n, h1, I64.of h2⟩
theorem get_some {α : Type} {xs : List α} {i n : Nat} (h : xs.length = n) (hi : i < n) : ∃ y, xs[i]? = some y := ⟨_, List.getElem?_eq_getElem (by omega)⟩

theorem size_of {fuel : Nat} {cs : List Value} {x : DataW H × List MemPlace} (h : DataW.trod enc Tryd.prog w base spare held fuel 41 cs = some x) :
    ∃ r c : Int, cs = [.int .i64 r, .int .i64 c] ∧ I64 r ∧ I64 c := by
  obtain ⟨xs, n, _, _, hl, hxl, hf⟩ := DataW.trod_struct Tryd.underlying41 h
  rw [Tryd.cells41] at hl
  obtain ⟨a, b, rfl⟩ := len2 hl
  have f0 : DataW.trod enc Tryd.prog w base spare held n 3 (List.take (Tryd.prog.cellsOf 3) (List.drop 0 [a, b])) = xs[0]? := hf 0 _ rfl
  have f1 : DataW.trod enc Tryd.prog w base spare held n 3 (List.take (Tryd.prog.cellsOf 3) (List.drop 1 [a, b])) = xs[1]? := hf 1 _ rfl
  obtain ⟨y0, e0⟩ := get_some (i := 0) hxl (by simp)
  obtain ⟨y1, e1⟩ := get_some (i := 1) hxl (by simp)
  rw [e0, Tryd.cells3] at f0
  rw [e1, Tryd.cells3] at f1
  obtain ⟨r, hr, br⟩ := int_of f0
  obtain ⟨c, hc, bc⟩ := int_of f1
  simp at hr hc
  exact ⟨r, c, by rw [hr, hc], br, bc⟩
end

theorem gBlank : Tryd.prog.globalNamed "vizard/screen.Blank" = some 0 := by kernel_rfl
theorem tBlank : (Tryd.prog.globals[0]?).map (·.type) = some 48 := by kernel_rfl

theorem blank_of_laid {W : World} (h : laidMetH Tryd.prog [("vizard/screen.Blank", Rows.laid_vizard_screen_Blank)] W) : Blank W := by
  rw [MakeChecks.laidMetH_plain _ _ _ (by kernel_rfl)] at h
  obtain ⟨ps, ⟨g0, t0, cs0, f0, p0, q0, hg0, ht0, hv0, hd0, hq, hps⟩, _, hcl⟩ := h
  obtain rfl := Option.some.inj (gBlank.symm.trans hg0)
  obtain rfl := Option.some.inj (tBlank.symm.trans ht0)
  obtain ⟨xs, m, rfl, hx, hl, hn, hf⟩ := DataW.trod_struct Tryd.underlying48 hd0
  rw [Tryd.cells48] at hl
  have hcs : cs0 = #[.int .i32 32, .int .i64 0, .bool false, .int .i64 0] := by
    obtain ⟨l⟩ := cs0
    obtain ⟨a0, a1, a2, a3, rfl⟩ := len4 hl
    obtain ⟨x0, x1, x2, x3, rfl⟩ := len4 hn
    simp only [Rows.laid_vizard_screen_Blank, List.map_cons, List.map_nil, Prod.mk.injEq, DataW.agg.injEq, List.cons.injEq, and_true] at hx
    obtain ⟨⟨h0, h1, h2, h3⟩, _⟩ := hx
    have g0 : DataW.trod (fun _ => ()) Tryd.prog W 0 (fun _ => true) false m 21 (([a0, a1, a2, a3].drop 0).take (Tryd.prog.cellsOf 21)) = some x0 := hf 0 _ rfl
    have g1 : DataW.trod (fun _ => ()) Tryd.prog W 0 (fun _ => true) false m 3 (([a0, a1, a2, a3].drop 1).take (Tryd.prog.cellsOf 3)) = some x1 := hf 1 _ rfl
    have g2 : DataW.trod (fun _ => ()) Tryd.prog W 0 (fun _ => true) false m 4 (([a0, a1, a2, a3].drop 2).take (Tryd.prog.cellsOf 4)) = some x2 := hf 2 _ rfl
    have g3 : DataW.trod (fun _ => ()) Tryd.prog W 0 (fun _ => true) false m 3 (([a0, a1, a2, a3].drop 3).take (Tryd.prog.cellsOf 3)) = some x3 := hf 3 _ rfl
    rw [Tryd.cells21] at g0
    rw [Tryd.cells3] at g1 g3
    rw [Tryd.cells4] at g2
    simp only [List.drop_zero, List.drop_succ_cons, List.take_succ_cons, List.take_zero] at g0 g1 g2 g3
    obtain ⟨n0, e0, e1, _⟩ := DataW.trod_int Tryd.underlying21 g0
    obtain ⟨n1, e2, e3, _⟩ := DataW.trod_int Tryd.underlying3 g1
    obtain ⟨n2, e4, e5⟩ := DataW.trod_bool Tryd.underlying4 g2
    obtain ⟨n3, e6, e7, _⟩ := DataW.trod_int Tryd.underlying3 g3
    subst e1 e3 e5 e7
    simp only [List.cons.injEq, and_true] at e0 e2 e4 e6
    subst e0 e2 e4 e6
    simp only [DataW.lit.injEq, Lit.int.injEq, Lit.bool.injEq, true_and] at h0 h1 h2 h3
    subst h0 h1 h2 h3
    rfl
  subst hcs
  obtain ⟨⟨c, t, hc⟩, _⟩ := hcl 0 0 (by rw [hps]; simp [MemPlace.row])
  refine ⟨t, ?_⟩
  rw [hc]
  have : c = #[.int .i32 32, .int .i64 0, .bool false, .int .i64 0] := by
    simp [World.var?, hg0, hc] at hv0
    exact hv0
  rw [this]
end Go.Proofs.YtlhajbcabpfbkaaDoor
