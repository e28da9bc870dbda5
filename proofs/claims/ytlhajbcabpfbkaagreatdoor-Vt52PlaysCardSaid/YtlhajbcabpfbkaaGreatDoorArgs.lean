/-
  How the arguments, and the listed variable, are read: calls, lists of calls, places, sizes, cells; the blank cell.
-/
import Derived.Test.YtlhajbcabpfbkaaGreatDoorRows
import Derived.Test.YtlhajbcabpfbkaaGreatDoorVtN
import Derived.ProofKit
import Derived.OpenShut
import Derived.ShutString
import Derived.ChangeOld
import Derived.Deep.Slices
import Derived.SliceStrings
import Derived.LaidMore
import Derived.LaidSub
import Derived.Stop.Joined
namespace Go.Proofs.YtlhajbcabpfbkaaGreatDoor
open Go.ChangeShapes Go.WideShapes Go.ChangeAt Go.RowKit Go.Deep

theorem Tryz.own : ownKnob Tryz.prog.godebug = none := by kernel_rfl
theorem Tryz.laidOut : laidOutB Tryz.prog = true := by kernel_rfl
theorem Tryz.cells23 : Tryz.prog.cellsOf 23 = 2 := by kernel_rfl
theorem Tryz.cells52 : Tryz.prog.cellsOf 52 = 4 := by kernel_rfl
theorem Tryz.cells21 : Tryz.prog.cellsOf 21 = 1 := by kernel_rfl
theorem Tryz.cells3 : Tryz.prog.cellsOf 3 = 1 := by kernel_rfl
theorem Tryz.cells4 : Tryz.prog.cellsOf 4 = 1 := by kernel_rfl

/-- A number of the kind int. -/
def I64 (n : Int) : Prop := -9223372036854775808 ≤ n ∧ n ≤ 9223372036854775807
theorem I64.of {n : Int} (h : (Lit.int .i64 n).wf = true) : I64 n := by
  simp only [Lit.wf, IntKind.min, IntKind.max, IntKind.signed, IntKind.bits, Bool.and_eq_true, decide_eq_true_eq, if_true] at h
  exact ⟨by omega, by omega⟩

theorem len2 {α : Type} {l : List α} (h : l.length = 2) : ∃ a b, l = [a, b] := match l, h with | [a, b], _ => ⟨a, b, rfl⟩
theorem len4 {α : Type} {l : List α} (h : l.length = 4) : ∃ a b c d, l = [a, b, c, d] := match l, h with | [a, b, c, d], _ => ⟨a, b, c, d, rfl⟩

section
variable {H : Type} {enc : TypeId × Value → H} {w : World} {base : Nat} {spare : Nat → Bool} {held : Bool}

theorem int_of {fuel : Nat} {cs : List Value} {x : DataW H × List MemPlace} (h : DataW.trod enc Tryz.prog w base spare held fuel 3 cs = some x) :
    ∃ n : Int, cs = [.int .i64 n] ∧ I64 n := by
  obtain ⟨n, h1, _, h2⟩ := DataW.trod_int Tryz.underlying3 h
  exact ⟨n, h1, I64.of h2⟩
theorem get_some {α : Type} {xs : List α} {i n : Nat} (h : xs.length = n) (hi : i < n) : ∃ y, xs[i]? = some y := ⟨_, List.getElem?_eq_getElem (by omega)⟩

theorem size_of {fuel : Nat} {cs : List Value} {x : DataW H × List MemPlace} (h : DataW.trod enc Tryz.prog w base spare held fuel 23 cs = some x) :
    ∃ r c : Int, cs = [.int .i64 r, .int .i64 c] ∧ I64 r ∧ I64 c := by
  obtain ⟨xs, n, _, _, hl, hxl, hf⟩ := DataW.trod_struct Tryz.underlying23 h
  rw [Tryz.cells23] at hl
  obtain ⟨a, b, rfl⟩ := len2 hl
  have f0 : DataW.trod enc Tryz.prog w base spare held n 3 (List.take (Tryz.prog.cellsOf 3) (List.drop 0 [a, b])) = xs[0]? := hf 0 _ rfl
  have f1 : DataW.trod enc Tryz.prog w base spare held n 3 (List.take (Tryz.prog.cellsOf 3) (List.drop 1 [a, b])) = xs[1]? := hf 1 _ rfl
  obtain ⟨y0, e0⟩ := get_some (i := 0) hxl (by simp)
  obtain ⟨y1, e1⟩ := get_some (i := 1) hxl (by simp)
  rw [e0, Tryz.cells3] at f0
  rw [e1, Tryz.cells3] at f1
  obtain ⟨r, hr, br⟩ := int_of f0
  obtain ⟨c, hc, bc⟩ := int_of f1
  simp at hr hc
  exact ⟨r, c, by rw [hr, hc], br, bc⟩
end

theorem gBlank : Tryz.prog.globalNamed "vizard/screen.Blank" = some 0 := by kernel_rfl
theorem tBlank : (Tryz.prog.globals[0]?).map (·.type) = some 52 := by kernel_rfl

theorem blank_of_laid {W : World} (h : laidMetH Tryz.prog [("vizard/screen.Blank", Rows.laid_vizard_screen_Blank)] W) : Blank W := by
  rw [MakeChecks.laidMetH_plain _ _ _ (by kernel_rfl)] at h
  obtain ⟨ps, ⟨g0, t0, cs0, f0, p0, q0, hg0, ht0, hv0, hd0, hq, hps⟩, _, hcl⟩ := h
  obtain rfl := Option.some.inj (gBlank.symm.trans hg0)
  obtain rfl := Option.some.inj (tBlank.symm.trans ht0)
  obtain ⟨xs, m, rfl, hx, hl, hn, hf⟩ := DataW.trod_struct Tryz.underlying52 hd0
  rw [Tryz.cells52] at hl
  have hcs : cs0 = #[.int .i32 32, .int .i64 0, .bool false, .int .i64 0] := by
    obtain ⟨l⟩ := cs0
    obtain ⟨a0, a1, a2, a3, rfl⟩ := len4 hl
    obtain ⟨x0, x1, x2, x3, rfl⟩ := len4 hn
    simp only [Rows.laid_vizard_screen_Blank, List.map_cons, List.map_nil, Prod.mk.injEq, DataW.agg.injEq, List.cons.injEq, and_true] at hx
    obtain ⟨⟨h0, h1, h2, h3⟩, _⟩ := hx
    have g0 : DataW.trod (fun _ => ()) Tryz.prog W 0 (fun _ => true) false m 21 (([a0, a1, a2, a3].drop 0).take (Tryz.prog.cellsOf 21)) = some x0 := hf 0 _ rfl
    have g1 : DataW.trod (fun _ => ()) Tryz.prog W 0 (fun _ => true) false m 3 (([a0, a1, a2, a3].drop 1).take (Tryz.prog.cellsOf 3)) = some x1 := hf 1 _ rfl
    have g2 : DataW.trod (fun _ => ()) Tryz.prog W 0 (fun _ => true) false m 4 (([a0, a1, a2, a3].drop 2).take (Tryz.prog.cellsOf 4)) = some x2 := hf 2 _ rfl
    have g3 : DataW.trod (fun _ => ()) Tryz.prog W 0 (fun _ => true) false m 3 (([a0, a1, a2, a3].drop 3).take (Tryz.prog.cellsOf 3)) = some x3 := hf 3 _ rfl
    rw [Tryz.cells21] at g0
    rw [Tryz.cells3] at g1 g3
    rw [Tryz.cells4] at g2
    simp only [List.drop_zero, List.drop_succ_cons, List.take_succ_cons, List.take_zero] at g0 g1 g2 g3
    obtain ⟨n0, e0, e1, _⟩ := DataW.trod_int Tryz.underlying21 g0
    obtain ⟨n1, e2, e3, _⟩ := DataW.trod_int Tryz.underlying3 g1
    obtain ⟨n2, e4, e5⟩ := DataW.trod_bool Tryz.underlying4 g2
    obtain ⟨n3, e6, e7, _⟩ := DataW.trod_int Tryz.underlying3 g3
    subst e1 e3 e5 e7
    simp only [List.cons.injEq, and_true] at e0 e2 e4 e6
    subst e0 e2 e4 e6
    simp only [DataW.lit.injEq, Lit.int.injEq, Lit.bool.injEq, true_and] at h0 h1 h2 h3
    subst h0 h1 h2 h3
    rfl
  subst hcs
  obtain ⟨⟨c, t, hc⟩, _⟩ := hcl 0 0 (by rw [hps]; simp [MemPlace.row])
  refine ⟨t, ?_⟩
  rw [hc]
  have : c = #[.int .i32 32, .int .i64 0, .bool false, .int .i64 0] := by
    simp [World.var?, hg0, hc] at hv0
    exact hv0
  rw [this]
end Go.Proofs.YtlhajbcabpfbkaaGreatDoor
