/-
  The law WipeApart.
-/
import Derived.Test.YtedgnjideemfbaaApartF
import Derived.Test.YtedgnjideemfbaaOpIn
import Derived.Test.YtedgnjideemfbaaAwake
namespace Go.Proofs.Ytedgnjideemfbaa
open Go.RowKit

attribute [local go_sem] Oper.semAt_some

/-- Two grids with the cells fg and fh, a copy with the cells F; two calls, the first grid's address, the answer; all that was there is kept. -/
structure Pa (w : World) (g t cg h u ch p q cp ob oc e v R C : Nat) (o1 o2 : OpR) (fg fh F : Nat → Cel) (w' : World) : Prop where
  grid : GridAt w' g t cg R C fg
  two : GridAt w' h u ch R C fh
  copy : GridAt w' p q cp R C F
  kept : Kept0 w w'
  op1 : OpIn w' ob o1
  op2 : OpIn w' oc o2
  e0 : w'.cell? ⟨e, 0, none⟩ = some (.pointer (some ⟨g, 0, none⟩))
  v0 : BoolAt w' v false

namespace Pa
variable {w : World} {g t cg h u ch p q cp ob oc e v R C : Nat} {o1 o2 : OpR} {fg fh F : Nat → Cel} {w1 : World}
theorem keep (H : Pa w g t cg h u ch p q cp ob oc e v R C o1 o2 fg fh F w1) {w2 : World} (k : Kept0 w1 w2) : Pa w g t cg h u ch p q cp ob oc e v R C o1 o2 fg fh F w2 :=
  ⟨H.grid.kept k (fun e => e) (fun e => e), H.two.kept k (fun e => e) (fun e => e), H.copy.kept k (fun e => e) (fun e => e), H.kept.trans k, H.op1.kept k (fun e => e), H.op2.kept k (fun e => e), kcell k H.e0, H.v0.kept k (fun e => e)⟩
theorem on (H : Pa w g t cg h u ch p q cp ob oc e v R C o1 o2 fg fh F w1) {w2 : World} {fg' : Nat → Cel} (hg : GridAt w2 g t cg R C fg') (k : Kept (· = t) w1 w2) (n : w.heap.size ≤ t ∧ h ≠ t ∧ u ≠ t ∧ p ≠ t ∧ q ≠ t ∧ ob ≠ t ∧ oc ≠ t ∧ e ≠ t ∧ v ≠ t) : Pa w g t cg h u ch p q cp ob oc e v R C o1 o2 fg' fh F w2 := by
  obtain ⟨n1, n2, n3, n4, n5, n6, n7, n8, n9⟩ := n
  exact ⟨hg, H.two.kept k n2 n3, H.copy.kept k n4 n5, H.kept.later k (fun i hi e => by omega), H.op1.kept k n6, H.op2.kept k n7, kcellS k H.e0 n8, H.v0.kept k n9⟩
theorem on2 (H : Pa w g t cg h u ch p q cp ob oc e v R C o1 o2 fg fh F w1) {w2 : World} {fh' : Nat → Cel} (hg : GridAt w2 h u ch R C fh') (k : Kept (· = u) w1 w2) (n : w.heap.size ≤ u ∧ g ≠ u ∧ t ≠ u ∧ p ≠ u ∧ q ≠ u ∧ ob ≠ u ∧ oc ≠ u ∧ e ≠ u ∧ v ≠ u) : Pa w g t cg h u ch p q cp ob oc e v R C o1 o2 fg fh' F w2 := by
  obtain ⟨n1, n2, n3, n4, n5, n6, n7, n8, n9⟩ := n
  exact ⟨H.grid.kept k n2 n3, hg, H.copy.kept k n4 n5, H.kept.later k (fun i hi e => by omega), H.op1.kept k n6, H.op2.kept k n7, kcellS k H.e0 n8, H.v0.kept k n9⟩
end Pa

theorem heap_new4 (w : World) (o o' o'' o3 : Obj) : ((((w.alloc o).alloc o').alloc o'').alloc o3).heap[w.heap.size + 1 + 1 + 1]? = some o3 := by
  have := heap_new (((w.alloc o).alloc o').alloc o'') o3
  rwa [World.size_alloc, World.size_alloc, World.size_alloc] at this

set_option maxHeartbeats 8000000 in
set_option maxRecDepth 100000 in
theorem apart_calls (a : Option Addr) (cap : Nat) (C : Int) (l : List ByteArray) (ask r c r' c' : Int) (x : Cel) (b : Bool) (ask2 s d s' d' : Int) (y : Cel) (b2 : Bool) (w : World) (hl : StrsIn w a l) (hL : l.length ≤ 9223372036854775807) :
    Calls Try.prog 8 #[.agg #[.slice a l.length cap, .int .i64 C], opV ask r c r' c' x b, opV ask2 s d s' d' y b2] w fun e w' => e = .returned (.bool true) ∧ Below w.heap.size w w' := by
  obtain ⟨ov, hov⟩ : ∃ ov : Array Value, ov = #[.int .i64 ask, .int .i64 r, .int .i64 c, .int .i64 r', .int .i64 c', .int .i32 x.g, .int .i64 x.a, .bool x.b, .int .i64 x.m, .bool b] := ⟨_, rfl⟩
  obtain ⟨ow, how⟩ : ∃ ow : Array Value, ow = #[.int .i64 ask2, .int .i64 s, .int .i64 d, .int .i64 s', .int .i64 d', .int .i32 y.g, .int .i64 y.a, .bool y.b, .int .i64 y.m, .bool b2] := ⟨_, rfl⟩
  have kA : Kept0 w ((((w.alloc (.cells #[.slice a l.length cap, .int .i64 C] 24)).alloc (.cells ov 40)).alloc (.cells ow 40)).alloc (.cells #[.bool false] 4)) := ((((Kept.refl _ w).alloc _).alloc _).alloc _).alloc _
  have hB0 : BoolAt ((((w.alloc (.cells #[.slice a l.length cap, .int .i64 C] 24)).alloc (.cells ov 40)).alloc (.cells ow 40)).alloc (.cells #[.bool false] 4)) (w.heap.size + 1 + 1 + 1) false := BoolAt.of (heap_new4 w _ _ _ _)
  have ka : Kept0 (w.alloc (.cells #[.slice a l.length cap, .int .i64 C] 24)) ((((w.alloc (.cells #[.slice a l.length cap, .int .i64 C] 24)).alloc (.cells ov 40)).alloc (.cells ow 40)).alloc (.cells #[.bool false] 4)) := (((Kept.refl _ _).alloc _).alloc _).alloc _
  have kb : Kept0 ((w.alloc (.cells #[.slice a l.length cap, .int .i64 C] 24)).alloc (.cells ov 40)) ((((w.alloc (.cells #[.slice a l.length cap, .int .i64 C] 24)).alloc (.cells ov 40)).alloc (.cells ow 40)).alloc (.cells #[.bool false] 4)) := ((Kept.refl _ _).alloc _).alloc _
  have kc : Kept0 (((w.alloc (.cells #[.slice a l.length cap, .int .i64 C] 24)).alloc (.cells ov 40)).alloc (.cells ow 40)) ((((w.alloc (.cells #[.slice a l.length cap, .int .i64 C] 24)).alloc (.cells ov 40)).alloc (.cells ow 40)).alloc (.cells #[.bool false] 4)) := (Kept.refl _ _).alloc _
  have hop1 : OpIn ((w.alloc (.cells #[.slice a l.length cap, .int .i64 C] 24)).alloc (.cells ov 40)) (w.heap.size + 1) ⟨ask, r, c, r', c', x, b⟩ := by
    have := opIn_new (w.alloc (.cells #[.slice a l.length cap, .int .i64 C] 24)) ⟨ask, r, c, r', c', x, b⟩
    rw [World.size_alloc] at this
    rw [hov]
    exact this
  have hop2 : OpIn (((w.alloc (.cells #[.slice a l.length cap, .int .i64 C] 24)).alloc (.cells ov 40)).alloc (.cells ow 40)) (w.heap.size + 1 + 1) ⟨ask2, s, d, s', d', y, b2⟩ := by
    have := opIn_new ((w.alloc (.cells #[.slice a l.length cap, .int .i64 C] 24)).alloc (.cells ov 40)) ⟨ask2, s, d, s', d', y, b2⟩
    rw [World.size_alloc, World.size_alloc] at this
    rw [how]
    exact this
  obtain ⟨V, hV⟩ : ∃ V, V = (((w.alloc (.cells #[.slice a l.length cap, .int .i64 C] 24)).alloc (.cells ov 40)).alloc (.cells ow 40)).alloc (.cells #[.bool false] 4) := ⟨_, rfl⟩
  rw [← hV] at kA ka kb kc hB0
  have HOP1 := Lib.hid (hop1.kept kb (fun e => e))
  have HOP2 := Lib.hid (hop2.kept kc (fun e => e))
  have s0 : V.cell? ⟨w.heap.size, 0, none⟩ = some (.slice a l.length cap) := kcell ka (by simp [go_sem])
  have s1 : V.cell? ⟨w.heap.size, 1, none⟩ = some (.int .i64 C) := kcell ka (by simp [go_sem])
  rw [hov, how] at hV
  clear hov how hop1 hop2 ka kb kc
  clear ov ow
  have HL := Lib.hid hL
  have o1 := HOP1.out 3 _ rfl
  have o2 := HOP1.out 4 _ rfl
  have o3 := HOP2.out 1 _ rfl
  have o4 := HOP2.out 2 _ rfl
  simp only at o1 o2 o3 o4
  by_cases hf : (1 ≤ l.length ∧ l.length ≤ 8 ∧ 1 ≤ C ∧ C ≤ 12) ∧ (r' < s ∨ r' = s ∧ c' < d)
  rotate_left
  · have hB1 := hB0
    by_cases hf1 : 1 ≤ l.length ∧ l.length ≤ 8 ∧ 1 ≤ C ∧ C ≤ 12
    · have HB : Hid (fewB l.length C = true) := decide_eq_true hf1
      have hor : (¬ r' < s ∧ ¬ r' = s) ∨ (¬ r' < s ∧ r' = s ∧ ¬ c' < d) := by omega
      clear hf hf1 hL hl
      refine calls_marks Try.func8 rfl ?_
      simp only [Try.ntmps8, List.size_toArray, List.length_cons, List.length_nil, Nat.reduceAdd, Nat.reduceSub, Array.replicate_succ, Array.replicate_zero, List.push_toArray, List.append_toArray, List.nil_append, List.cons_append]
      go_wp2_with fail
      rw [← hV]
      clear hV
      refine (few_any a l.length cap C V HL.out).mono ?_
      rw [HB.out]
      rintro e w1 ⟨rfl, k1⟩
      replace o1 := kcell k1 o1
      replace o2 := kcell k1 o2
      replace o3 := kcell k1 o3
      replace o4 := kcell k1 o4
      rcases hor with ⟨h1, h2⟩ | ⟨h1, h2, h3⟩
      · have d1 : decide (r' < s) = false := decide_eq_false (by omega)
        go_wp2_with fail
        refine (awake_any _).mono ?_
        rintro e w2 ⟨rfl, k2⟩
        have hB2 := (hB0.kept k1 (fun e => e)).kept k2 (fun e => e)
        have b1 := hB2.c
        have b2 := hB2.f
        have hB4 := (hB2.set true).c
        go_wp2_with fail
        refine ⟨.bool true, by simp [results, Try.results8, go_sem, hB4], rfl, ?_⟩
        exact Kept0.below (((kA.trans k1).trans k2).setCell _ (Or.inl (by simp; omega)) _)
      · have d1 : decide (r' < s) = false := decide_eq_false (by omega)
        have d3 : decide (c' < d) = false := decide_eq_false (by omega)
        go_wp2_with fail
        refine (awake_any _).mono ?_
        rintro e w2 ⟨rfl, k2⟩
        have hB2 := (hB0.kept k1 (fun e => e)).kept k2 (fun e => e)
        have b1 := hB2.c
        have b2 := hB2.f
        have hB4 := (hB2.set true).c
        go_wp2_with fail
        refine ⟨.bool true, by simp [results, Try.results8, go_sem, hB4], rfl, ?_⟩
        exact Kept0.below (((kA.trans k1).trans k2).setCell _ (Or.inl (by simp; omega)) _)
    · have HB : Hid (fewB l.length C = false) := decide_eq_false hf1
      clear hf hf1 hL hl
      refine calls_marks Try.func8 rfl ?_
      simp only [Try.ntmps8, List.size_toArray, List.length_cons, List.length_nil, Nat.reduceAdd, Nat.reduceSub, Array.replicate_succ, Array.replicate_zero, List.push_toArray, List.append_toArray, List.nil_append, List.cons_append]
      go_wp2_with fail
      rw [← hV]
      clear hV
      refine (few_any a l.length cap C V HL.out).mono ?_
      rw [HB.out]
      rintro e w1 ⟨rfl, k1⟩
      go_wp2_with fail
      refine (awake_any _).mono ?_
      rintro e w2 ⟨rfl, k2⟩
      have hB2 := (hB0.kept k1 (fun e => e)).kept k2 (fun e => e)
      have b1 := hB2.c
      have b2 := hB2.f
      have hB4 := (hB2.set true).c
      go_wp2_with fail
      refine ⟨.bool true, by simp [results, Try.results8, go_sem, hB4], rfl, ?_⟩
      exact Kept0.below (((kA.trans k1).trans k2).setCell _ (Or.inl (by simp; omega)) _)
  obtain ⟨hf, hlt⟩ := hf
  have HB : Hid (fewB l.length C = true) := decide_eq_true hf
  obtain ⟨f1, f2, f3, f4⟩ := hf
  obtain ⟨C, rfl⟩ := Int.eq_ofNat_of_zero_le (show 0 ≤ C by omega)
  have HM : Hid (∀ w', Kept0 w w' → _) := fun w' k => made_any a cap C l w' (hl.kept0 k) f1 f2 (by omega) (by omega)
  obtain ⟨F, hF⟩ : ∃ F, F = boardF C l := ⟨_, rfl⟩
  rw [← hF] at HM
  obtain ⟨R, hR⟩ : ∃ R, R = l.length := ⟨_, rfl⟩
  rw [← hR] at f1 f2 HM HL HB s0 hV ⊢
  clear hF hl hL hR
  have HD1 : Hid (∀ (g t cg : Nat) (w' : World), GridAt w' g t cg R C F → _) := fun g t cg w' hg => does_any g t cg R C F ask r c r' c' x b w' hg
  have HD2 : Hid (∀ (g t cg : Nat) (w' : World), GridAt w' g t cg R C (wipeF R C F (oOf ask x b) r c r' c') → Calls Try.prog 12 #[.pointer (some ⟨g, 0, none⟩), opV ask2 s d s' d' y b2] w' fun e w'' => e = .returned (.tuple #[.int .i64 (wipeN R C F (oOf ask2 y b2) s d s' d' : Int), .int .i64 (wipeE R C s d s' d')]) ∧ GridAt w'' g t cg R C (wipeF R C (wipeF R C F (oOf ask x b) r c r' c') (oOf ask2 y b2) s d s' d') ∧ Kept (· = t) w' w'') := fun g t cg w' hg => by
    have := does_any g t cg R C _ ask2 s d s' d' y b2 w' hg
    rw [← apart_second R C F (oOf ask x b) (oOf ask2 y b2) r c r' c' s d s' d' hlt]
    exact this
  have HD3 : Hid (∀ (g t cg : Nat) (w' : World), GridAt w' g t cg R C F → _) := fun g t cg w' hg => does_any g t cg R C F ask2 s d s' d' y b2 w' hg
  have HD4 : Hid (∀ (g t cg : Nat) (w' : World), GridAt w' g t cg R C (wipeF R C F (oOf ask2 y b2) s d s' d') → Calls Try.prog 12 #[.pointer (some ⟨g, 0, none⟩), opV ask r c r' c' x b] w' fun e w'' => e = .returned (.tuple #[.int .i64 (wipeN R C F (oOf ask x b) r c r' c' : Int), .int .i64 (wipeE R C r c r' c')]) ∧ GridAt w'' g t cg R C (wipeF R C (wipeF R C F (oOf ask x b) r c r' c') (oOf ask2 y b2) s d s' d') ∧ Kept (· = t) w' w'') := fun g t cg w' hg => by
    refine (does_any g t cg R C _ ask r c r' c' x b w' hg).mono ?_
    unfold Turns
    rw [apart_first R C F (oOf ask x b) (oOf ask2 y b2) r c r' c' s d s' d' hlt]
    rintro e w'' ⟨rfl, h1, h2⟩
    exact ⟨rfl, h1.congr (fun k _ => apart_cells R C F (oOf ask x b) (oOf ask2 y b2) r c r' c' s d s' d' hlt k), h2⟩
  have HK : Hid (∀ k, (¬ ask = 0 → ¬ ask2 = 0 → (wipeF R C (wipeF R C F (oOf ask x b) r c r' c') (oOf ask2 y b2) s d s' d' k).g = (F k).g ∧ (wipeF R C (wipeF R C F (oOf ask x b) r c r' c') (oOf ask2 y b2) s d s' d' k).m = (F k).m) ∧ (¬ ask = 0 → ¬ ask = 1 → ¬ ask2 = 0 → ¬ ask2 = 1 → (wipeF R C (wipeF R C F (oOf ask x b) r c r' c') (oOf ask2 y b2) s d s' d' k).a = (F k).a)) := fun k => by
    have k1 := wipeF_keeps R C F ask x b r c r' c' k
    have k2 := wipeF_keeps R C (wipeF R C F (oOf ask x b) r c r' c') ask2 y b2 s d s' d' k
    exact ⟨fun h1 h2 => ⟨(k2.1 h2).1.trans (k1.1 h1).1, (k2.1 h2).2.trans (k1.1 h1).2⟩, fun h1 h2 h3 h4 => (k2.2 h3 h4).trans (k1.2 h1 h2)⟩
  unfold Turns at HD1 HD3
  generalize wipeF R C (wipeF R C F (oOf ask x b) r c r' c') (oOf ask2 y b2) s d s' d' = F2 at *
  generalize wipeF R C F (oOf ask x b) r c r' c' = F1 at *
  generalize wipeF R C F (oOf ask2 y b2) s d s' d' = G1 at *
  generalize (wipeN R C F (oOf ask x b) r c r' c' : Int) = nx at *
  generalize (wipeN R C F (oOf ask2 y b2) s d s' d' : Int) = ny at *
  generalize wipeE R C r c r' c' = Ex at *
  generalize wipeE R C s d s' d' = Ey at *
  have hor : r' < s ∨ (¬ r' < s ∧ r' = s ∧ c' < d) := by omega
  have HLT := Lib.hid hor
  clear hlt hor
  refine calls_marks Try.func8 rfl ?_
  simp only [Try.ntmps8, List.size_toArray, List.length_cons, List.length_nil, Nat.reduceAdd, Nat.reduceSub, Array.replicate_succ, Array.replicate_zero, List.push_toArray, List.append_toArray, List.nil_append, List.cons_append]
  go_wp2_with fail
  rw [← hV]
  clear hV
  refine (few_any a R cap (C : Int) V HL.out).mono ?_
  rw [HB.out]
  rintro e w1 ⟨rfl, k1⟩
  replace o1 := kcell k1 o1
  replace o2 := kcell k1 o2
  replace o3 := kcell k1 o3
  replace o4 := kcell k1 o4
  replace s0 := kcell k1 s0
  replace s1 := kcell k1 s1
  replace hB0 := hB0.kept k1 (fun e => e)
  replace HOP1 := Lib.hid (HOP1.out.kept k1 (fun e => e))
  replace HOP2 := Lib.hid (HOP2.out.kept k1 (fun e => e))
  replace kA := kA.trans k1
  clear k1
  have hs0 : w.heap.size < w1.heap.size := World.block_lt_of_cell? w1 _ s0
  have hs2 : w.heap.size + 1 + 1 + 1 < w1.heap.size := hB0.lt
  rcases HLT.out with h1 | ⟨h1, h2, h3⟩
  case' inl =>
    have d1 : decide (r' < s) = true := decide_eq_true (by omega)
    go_wp2_with fail
    clear d1 h1
  case' inr =>
    have d1 : decide (r' < s) = false := decide_eq_false (by omega)
    have d3 : decide (c' < d) = true := decide_eq_true (by omega)
    go_wp2_with fail
    clear d1 d3 h1 h2 h3
  all_goals
    clear o1 o2 o3 o4
    refine (HM.out w1 kA).mono ?_
    rintro e w2 ⟨g, t, cg, g9, t9, c9, rfl, n1, n2, _, _, _, _, _, _, hg, _, k2⟩
    replace hB0 := hB0.kept k2 (fun e => e)
    replace HOP1 := Lib.hid (HOP1.out.kept k2 (fun e => e))
    replace HOP2 := Lib.hid (HOP2.out.kept k2 (fun e => e))
    replace s0 := kcell k2 s0
    replace s1 := kcell k2 s1
    replace kA := kA.trans k2
    have hs3 := k2.size
    clear k2
    have htl := hg.row.lt
    have hgl := hg.lt
    have hs4 : w.heap.size < w2.heap.size := World.block_lt_of_cell? w2 _ s0
    obtain ⟨W2, hW2⟩ : ∃ W2, W2 = w2.alloc (.cells #[.pointer (some ⟨g, 0, none⟩)] 28) := ⟨_, rfl⟩
    have kW2 : Kept0 w2 W2 := by rw [hW2]; exact (Kept.refl _ w2).alloc _
    have x3 : W2.cell? ⟨w2.heap.size, 0, none⟩ = some (.pointer (some ⟨g, 0, none⟩)) := by rw [hW2]; simp [go_sem]
    go_wp2_with fail
    rw [← hW2]
    clear hW2 s0 s1
    refine (HM.out W2 (kA.trans kW2)).mono ?_
    rintro e w3 ⟨h, u, ch, h9, u9, ch9, rfl, m1, m2, _, _, _, _, _, _, hh, _, k3⟩
    have hsz2 : w2.heap.size < W2.heap.size := World.block_lt_of_cell? W2 _ x3
    have hsz3 := k3.size
    have hhl := hh.lt
    have hul := hh.row.lt
    replace hg := (hg.kept kW2 (fun e => e) (fun e => e)).kept k3 (fun e => e) (fun e => e)
    replace hB0 := (hB0.kept kW2 (fun e => e)).kept k3 (fun e => e)
    replace HOP1 := Lib.hid ((HOP1.out.kept kW2 (fun e => e)).kept k3 (fun e => e))
    replace HOP2 := Lib.hid ((HOP2.out.kept kW2 (fun e => e)).kept k3 (fun e => e))
    replace x3 := kcell k3 x3
    replace kA := (kA.trans kW2).trans k3
    clear kW2 k3
    go_wp2_with fail
    refine (copy_any g t cg R C F w3 hg).mono ?_
    rintro e w4 ⟨p, q, cp, rfl, p1, p2, hp, k4⟩
    have hsz4 := k4.size
    have hpl := hp.lt
    have hql := hp.row.lt
    have HP : Hid (Pa w g t cg h u ch p q cp (w.heap.size + 1) (w.heap.size + 1 + 1) w2.heap.size (w.heap.size + 1 + 1 + 1) R C ⟨ask, r, c, r', c', x, b⟩ ⟨ask2, s, d, s', d', y, b2⟩ F F F w4) :=
      ⟨hg.kept k4 (fun e => e) (fun e => e), hh.kept k4 (fun e => e) (fun e => e), hp, kA.trans k4, HOP1.out.kept k4 (fun e => e), HOP2.out.kept k4 (fun e => e), kcell k4 x3, hB0.kept k4 (fun e => e)⟩
    clear hg hh hp kA x3 hB0 k4 HOP1 HOP2 HM
    have z3 := HP.out.e0
    have o0 := HP.out.op1 0 _ rfl
    have o1 := HP.out.op1 1 _ rfl
    have o2 := HP.out.op1 2 _ rfl
    have o3 := HP.out.op1 3 _ rfl
    have o4 := HP.out.op1 4 _ rfl
    have o5 := HP.out.op1 5 _ rfl
    have o6 := HP.out.op1 6 _ rfl
    have o7 := HP.out.op1 7 _ rfl
    have o8 := HP.out.op1 8 _ rfl
    have o9 := HP.out.op1 9 _ rfl
    simp only at o0 o1 o2 o3 o4 o5 o6 o7 o8 o9
    go_wp2_with fail
    refine (HD1.out g t cg w4 HP.out.grid).mono ?_
    rintro e w5 ⟨rfl, hg5, k5⟩
    have hsz5 := k5.size
    have HP5 := Lib.hid (HP.out.on hg5 k5 ⟨by omega, by omega, by omega, by omega, by omega, by omega, by omega, by omega, by omega⟩)
    clear HP hg5 k5 z3 o0 o1 o2 o3 o4 o5 o6 o7 o8 o9
    have z3 := HP5.out.e0
    have o0 := HP5.out.op2 0 _ rfl
    have o1 := HP5.out.op2 1 _ rfl
    have o2 := HP5.out.op2 2 _ rfl
    have o3 := HP5.out.op2 3 _ rfl
    have o4 := HP5.out.op2 4 _ rfl
    have o5 := HP5.out.op2 5 _ rfl
    have o6 := HP5.out.op2 6 _ rfl
    have o7 := HP5.out.op2 7 _ rfl
    have o8 := HP5.out.op2 8 _ rfl
    have o9 := HP5.out.op2 9 _ rfl
    simp only at o0 o1 o2 o3 o4 o5 o6 o7 o8 o9
    go_wp2_with fail
    refine (HD2.out g t cg w5 HP5.out.grid).mono ?_
    rintro e w6 ⟨rfl, hg6, k6⟩
    have hsz6 := k6.size
    have HP6 := Lib.hid (HP5.out.on hg6 k6 ⟨by omega, by omega, by omega, by omega, by omega, by omega, by omega, by omega, by omega⟩)
    clear HP5 hg6 k6 z3 o0 o1 o2 o3 o4 o5 o6 o7 o8 o9
    have z3 := HP6.out.e0
    have o0 := HP6.out.op2 0 _ rfl
    have o1 := HP6.out.op2 1 _ rfl
    have o2 := HP6.out.op2 2 _ rfl
    have o3 := HP6.out.op2 3 _ rfl
    have o4 := HP6.out.op2 4 _ rfl
    have o5 := HP6.out.op2 5 _ rfl
    have o6 := HP6.out.op2 6 _ rfl
    have o7 := HP6.out.op2 7 _ rfl
    have o8 := HP6.out.op2 8 _ rfl
    have o9 := HP6.out.op2 9 _ rfl
    simp only at o0 o1 o2 o3 o4 o5 o6 o7 o8 o9
    go_wp2_with fail
    refine (HD3.out h u ch w6 HP6.out.two).mono ?_
    rintro e w7 ⟨rfl, hg7, k7⟩
    have hsz7 := k7.size
    have HP7 := Lib.hid (HP6.out.on2 hg7 k7 ⟨by omega, by omega, by omega, by omega, by omega, by omega, by omega, by omega, by omega⟩)
    clear HP6 hg7 k7 z3 o0 o1 o2 o3 o4 o5 o6 o7 o8 o9
    have z3 := HP7.out.e0
    have o0 := HP7.out.op1 0 _ rfl
    have o1 := HP7.out.op1 1 _ rfl
    have o2 := HP7.out.op1 2 _ rfl
    have o3 := HP7.out.op1 3 _ rfl
    have o4 := HP7.out.op1 4 _ rfl
    have o5 := HP7.out.op1 5 _ rfl
    have o6 := HP7.out.op1 6 _ rfl
    have o7 := HP7.out.op1 7 _ rfl
    have o8 := HP7.out.op1 8 _ rfl
    have o9 := HP7.out.op1 9 _ rfl
    simp only at o0 o1 o2 o3 o4 o5 o6 o7 o8 o9
    go_wp2_with fail
    refine (HD4.out h u ch w7 HP7.out.two).mono ?_
    rintro e w8 ⟨rfl, hg8, k8⟩
    have hsz8 := k8.size
    have HP8 := Lib.hid (HP7.out.on2 hg8 k8 ⟨by omega, by omega, by omega, by omega, by omega, by omega, by omega, by omega, by omega⟩)
    clear HP7 hg8 k8 z3 o0 o1 o2 o3 o4 o5 o6 o7 o8 o9
    have z3 := HP8.out.e0
    go_wp2_with fail
    refine (sameG_any w8 g t cg h u ch R C F2 HP8.out.grid HP8.out.two).mono ?_
    rintro e w9 ⟨rfl, k9⟩
    have hsz9 := k9.size
    have HP9 := Lib.hid (HP8.out.keep k9)
    clear HP8 k9 z3
    go_wp2_with fail
    refine (all_any _ _).mono ?_
    rintro e wx ⟨rfl, rfl⟩
    obtain ⟨wA, hwA⟩ : ∃ wA, wA = w9.alloc (.cells #[.pointer (some ⟨p, 0, none⟩)] 28) := ⟨_, rfl⟩
    have kAA : Kept0 w9 wA := by rw [hwA]; exact (Kept.refl _ w9).alloc _
    have hbx : wA.cell? ⟨w9.heap.size, 0, none⟩ = some (.pointer (some ⟨p, 0, none⟩)) := by rw [hwA]; simp [go_sem]
    have hsA : w9.heap.size + 1 = wA.heap.size := by rw [hwA]; simp
    have HPA := Lib.hid (HP9.out.keep kAA)
    clear HP9
    rw [← hwA]
    clear hwA kAA
    go_wp2_with fail
    have hC1 := HPA.out.grid.C1
    refine wpIn_wide.1 (wp_range (n := 0) (gf := 32) (lb := #[.pointer (some ⟨w9.heap.size, 0, none⟩)]) rfl (enters_of Try.func32 (by kernel_rfl) rfl) (all1_grid w9.heap.size p q cp R C F) (fun _ => rfl)
      (fun _ W => Below wA.heap.size wA W) (fun _ _ _ => False) (fun _ _ _ h k => h.trans k) (fun _ _ _ _ h _ => h)
      (fun _ W h => ⟨kcell (Kept0.ofBelow h) hbx, HPA.out.copy.kept (Kept0.ofBelow h) (fun e => e) (fun e => e)⟩) (Below.refl _ _) ?_ ?_ ?_)
    · rintro l9 k W hl1 hl2 hk hW
      have hkW : Kept0 wA W := Kept0.ofBelow hW
      have hsW9 := hkW.size
      unfold allArgs
      gi_wp2_with fail
      refine ⟨((Kept.refl _ W).alloc _).alloc _, fun W4 hk2 hb2 => ?_⟩
      have hlW : ¬ W.heap.size = l9 := by omega
      have hlW1 : ¬ W.heap.size + 1 = l9 := by omega
      have b0 : W4.cell? ⟨W.heap.size, 0, none⟩ = some (.int .i64 (rowOf C k : Int)) := (hk2.cell (by simp; omega) hlW).trans (by simp [go_sem])
      have b1 : W4.cell? ⟨W.heap.size, 1, none⟩ = some (.int .i64 (colOf C k : Int)) := (hk2.cell (by simp; omega) hlW).trans (by simp [go_sem])
      have xx : CelAt W4 (W.heap.size + 1) (F k) := by
        have := CelAt.new (W.alloc (.cells #[.int .i64 (rowOf C k : Int), .int .i64 (colOf C k : Int)] 36)) (F k) 38
        rw [World.size_alloc] at this
        exact this.kept hk2 hlW1
      have hbW : Below wA.heap.size wA W4 := hW.trans ((((Below.refl _ W).alloc (by omega) _).alloc (by simp; omega) _).trans hb2)
      have hkW2 : Kept0 wA W4 := Kept0.ofBelow hbW
      have P9 := HPA.out.keep hkW2
      have z3 := P9.e0
      have hth := there_row_col hk hC1
      have hix : Hid (idx C (rowOf C k : Int) (colOf C k : Int) = k) := idx_row_col C k
      clear hk2 hb2 hkW hW
      gi_wp2_with fail
      refine round_call0 ((at_in g t cg R C F2 _ _ _ P9.grid hth).mono ?_)
      rw [hix.out]
      rintro e W3 ⟨rfl, hk3⟩
      replace b0 := kcell hk3 b0
      replace xx := xx.kept hk3 (fun e => e)
      have P10 := P9.keep hk3
      have o0 := P10.op1 0 _ rfl
      have v0 := P10.op2 0 _ rfl
      simp only at o0 v0
      have hgood : Hid (∀ o, Kept (· < wA.heap.size) W4 (W3.alloc o) ∧ Below wA.heap.size wA (W3.alloc o)) := fun o => ⟨Kept0.to (hk3.alloc o), Kept0.below ((hkW2.trans hk3).alloc o)⟩
      obtain ⟨hg1, hg2⟩ := HK.out k
      obtain ⟨x0, x1, x2, x3⟩ := xx
      have l1 : W.heap.size + 1 < W3.heap.size := World.block_lt_of_cell? W3 _ x0
      have l2 : w.heap.size + 1 < W3.heap.size := World.block_lt_of_cell? W3 _ o0
      have l3 : w.heap.size + 1 + 1 < W3.heap.size := World.block_lt_of_cell? W3 _ v0
      clear P9 P10 hk3 hkW2 z3 hth b0 b1
      clear HK HD1 HD2 HD3 HD4
      generalize F k = ya at *
      generalize F2 k = za at *
      obtain ⟨yg, yt, yb, ym⟩ := ya
      obtain ⟨zg, zt, zb, zm⟩ := za
      simp only at x0 x1 x2 x3 hg1 hg2
      have ha1 : ask = 0 ∨ ask = 1 ∨ (¬ ask = 0 ∧ ¬ ask = 1) := by omega
      have ha2 : ask2 = 0 ∨ ask2 = 1 ∨ (¬ ask2 = 0 ∧ ¬ ask2 = 1) := by omega
      by_cases q1 : ask = 0
      · clear hg1 hg2 ha1 ha2
        gi_wp2_with fail
        all_goals exact hgood.out _
      · by_cases q2 : ask2 = 0
        · clear hg1 hg2 ha1 ha2
          gi_wp2_with fail
          all_goals exact hgood.out _
        · obtain ⟨rfl, rfl⟩ := hg1 q1 q2
          by_cases q3 : ask = 1
          · clear hg1 hg2 ha1 ha2
            gi_wp2_with fail
            all_goals exact hgood.out _
          · by_cases q4 : ask2 = 1
            · clear hg1 hg2 ha1 ha2
              gi_wp2_with fail
              all_goals exact hgood.out _
            · obtain rfl := hg2 q1 q3 q2 q4
              clear hg1 hg2 ha1 ha2
              gi_wp2_with fail
              all_goals exact hgood.out _
    · intro D W hD hW hDc
      have hkW : Kept0 wA W := Kept0.ofBelow hW
      have P9 := HPA.out.keep hkW
      have HD := Lib.hid hDc
      clear hDc hW
      go_wp2_with fail
      refine (awake_any _).mono ?_
      rintro e W3 ⟨rfl, hk3⟩
      have P10 := P9.keep hk3
      have b1 := P10.v0.c
      have b2 := P10.v0.f
      have hB4 := (P10.v0.set true).c
      have hv8 : w.heap.size + 1 + 1 + 1 < wA.heap.size := HPA.out.v0.lt
      go_wp2_with fail
      have hk4 : Kept0 w (W3.setCell ⟨w.heap.size + 1 + 1 + 1, 0, none⟩ (.bool true)) := P10.kept.setCell _ (Or.inl (by simp; omega)) _
      have hDl : D < W.heap.size := (Array.getElem?_eq_some_iff.1 HD.out).1
      have hD4 : (W3.setCell ⟨w.heap.size + 1 + 1 + 1, 0, none⟩ (.bool true)).heap[D]? = some (.deferred (some [])) :=
        (Below.heap_setCell _ _ _ _ (by simp; omega)).trans ((hk3.block D hDl (fun e => e)).trans HD.out)
      refine ⟨by simp, .inl ⟨_, _, rfl, run_takeDeferred hD4, ?_⟩⟩
      have hB5 : ((W3.setCell ⟨w.heap.size + 1 + 1 + 1, 0, none⟩ (.bool true)).putObj D (.deferred none)).cell? ⟨w.heap.size + 1 + 1 + 1, 0, none⟩ = some (.bool true) :=
        (World.cell?_of_block (World.putObj_heap_other (by simp; omega))).trans hB4
      refine ⟨.bool true, by simp [results, Try.results8, go_sem, hB5], rfl, ?_⟩
      exact (Kept0.below hk4).trans (below_putObj _ (by omega))
    · intro D c k W _ _ h
      exact h.elim
end Go.Proofs.Ytedgnjideemfbaa
