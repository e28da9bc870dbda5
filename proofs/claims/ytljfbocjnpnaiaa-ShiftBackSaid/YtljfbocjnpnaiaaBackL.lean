/-
  The law ShiftBack.
-/
import Derived.Test.YtljfbocjnpnaiaaGuardsL
import Derived.Test.YtljfbocjnpnaiaaBackF
namespace Go.Proofs.Ytljfbocjnpnaiaa
open Go.RowKit

attribute [local go_sem] Oper.semAt_some

/-- A grid with the cells fg, a copy with the cells F; what is asked lies in blocks of its own; all that was there is kept. -/
structure Pb (w : World) (g t cg h u ch e R C cap : Nat) (a : Option Addr) (r c n : Int) (b : Bool) (fg F : Nat → Cel) (w' : World) : Prop where
  grid : GridAt w' g t cg R C fg
  copy : GridAt w' h u ch R C F
  kept : Kept0 w w'
  s0 : w'.cell? ⟨w.heap.size, 0, none⟩ = some (.slice a R cap)
  s1 : w'.cell? ⟨w.heap.size, 1, none⟩ = some (.int .i64 C)
  p0 : w'.cell? ⟨w.heap.size + 1 + 1 + 1, 0, none⟩ = some (.int .i64 r)
  p1 : w'.cell? ⟨w.heap.size + 1 + 1 + 1, 1, none⟩ = some (.int .i64 c)
  m0 : w'.cell? ⟨w.heap.size + 1 + 1 + 1 + 1, 0, none⟩ = some (.int .i64 n)
  q0 : w'.cell? ⟨w.heap.size + 1 + 1 + 1 + 1 + 1, 0, none⟩ = some (.bool b)
  e0 : w'.cell? ⟨e, 0, none⟩ = some (.pointer (some ⟨g, 0, none⟩))
  v0 : BoolAt w' (w.heap.size + 1 + 1) false
  n1 : w.heap.size + 1 + 1 + 1 + 1 + 1 < t
  n2 : ¬ h = t
  n3 : ¬ u = t
  n6 : ¬ e = t

namespace Pb
variable {w : World} {g t cg h u ch e R C cap : Nat} {a : Option Addr} {r c n : Int} {b : Bool} {fg F : Nat → Cel} {w1 : World}
theorem keep (H : Pb w g t cg h u ch e R C cap a r c n b fg F w1) {w2 : World} (k : Kept0 w1 w2) : Pb w g t cg h u ch e R C cap a r c n b fg F w2 :=
  ⟨H.grid.kept k (fun e => e) (fun e => e), H.copy.kept k (fun e => e) (fun e => e), H.kept.trans k, kcell k H.s0, kcell k H.s1, kcell k H.p0, kcell k H.p1, kcell k H.m0, kcell k H.q0, kcell k H.e0, H.v0.kept k (fun e => e), H.n1, H.n2, H.n3, H.n6⟩
theorem drew (H : Pb w g t cg h u ch e R C cap a r c n b fg F w1) : Pb w g t cg h u ch e R C cap a r c n b fg F w1.drew := H.keep (Kept.refl _ w1).drew
theorem on (H : Pb w g t cg h u ch e R C cap a r c n b fg F w1) {w2 : World} {fg' : Nat → Cel} (hg : GridAt w2 g t cg R C fg') (k : Kept (· = t) w1 w2) : Pb w g t cg h u ch e R C cap a r c n b fg' F w2 := by
  have := H.n1
  exact ⟨hg, H.copy.kept k H.n2 H.n3, H.kept.later k (fun i hi e => by omega), kcellS k H.s0 (by omega), kcellS k H.s1 (by omega), kcellS k H.p0 (by omega), kcellS k H.p1 (by omega), kcellS k H.m0 (by omega), kcellS k H.q0 (by omega), kcellS k H.e0 H.n6, H.v0.kept k (by omega), H.n1, H.n2, H.n3, H.n6⟩
theorem asF (H : Pb w g t cg h u ch e R C cap a r c n b fg F w1) {f' : Nat → Cel} (hE : ∀ k, k < R * C → fg k = f' k) : Pb w g t cg h u ch e R C cap a r c n b f' F w1 :=
  ⟨H.grid.congr hE, H.copy, H.kept, H.s0, H.s1, H.p0, H.p1, H.m0, H.q0, H.e0, H.v0, H.n1, H.n2, H.n3, H.n6⟩
end Pb

theorem calm_skip {P : Program} {ops : Array Oper} {C : World → Prop} {Q : Act → Prop} {a : Act} {o : Oper} {rest : List Oper} (hw : Region.wanted o (yielded ops a.tmps) = false)
    (hk : wpQuiet P ops C Q rest (a.put o.dst undef)) : wpQuiet P ops C Q (o :: rest) a :=
  wpQuiet_step fun K hK => by rw [if_neg (by rw [hw]; decide)]; exact hK _ hk
structure Box (p : Prop) : Prop where
  out : p
theorem boxed_op {P : Program} {ops : Array Oper} {C : World → Prop} {Q : Act → Prop} {a : Act} {o : Oper} {rest : List Oper} (v : Value) (hw : Region.wanted o (yielded ops a.tmps) = true)
    (h : ∀ w, C w → o.quietAt P a C w v) (hk : Box (wpQuiet P ops C Q rest (a.put o.dst v))) : Box (wpQuiet P ops C Q (o :: rest) a) := ⟨calm_op v hw h hk.out⟩
theorem boxed_skip {P : Program} {ops : Array Oper} {C : World → Prop} {Q : Act → Prop} {a : Act} {o : Oper} {rest : List Oper} (hw : Region.wanted o (yielded ops a.tmps) = false)
    (hk : Box (wpQuiet P ops C Q rest (a.put o.dst undef))) : Box (wpQuiet P ops C Q (o :: rest) a) := ⟨calm_skip hw hk.out⟩
theorem boxed_end {P : Program} {ops : Array Oper} {C : World → Prop} {Q : Act → Prop} {a : Act} (h : Q a) : Box (wpQuiet P ops C Q [] a) := ⟨wpQuiet_nil h⟩
theorem wpIn_boxed {P : Program} {n l id : Nat} {Q : Exit → Act → World → Prop} {a : Act} {w : World} {ops : List Oper} (C : World → Prop) (hC : C w.drew) (hd : noDefer ops = true) (hm : P.follows .mixedOrders = true) (hB : Region.lexB .any ops.toArray = true) (hQ : ¬ LetsOut Q)
    (h : Box (wpQuiet P ops.toArray C (fun a' => ∀ w', C w' → Q .normal a' w') ops a)) : (Code.region id ops.toArray true).wpIn (Fence.wide.inRound l) n P Q a w := wpIn_round_calm C hC hd hm hB hQ h.out

/-- One turn: lines, or cells, at the place. -/
def stepF (R C : Nat) (r c : Int) (x : Cel) (b : Bool) (f : Nat → Cel) (n : Int) : Nat → Cel := if b = true then linesF R C f r n x false else charsF R C f r c n x false
/-- How far it has come. -/
def halfF (R C : Nat) (r c n : Int) (x : Cel) (b : Bool) (F : Nat → Cel) : Nat → Nat → Cel
  | 0 => F
  | 1 => stepF R C r c x b F n
  | _ => stepF R C r c x b (stepF R C r c x b F n) (-n)

set_option maxHeartbeats 4000000 in
set_option maxRecDepth 100000 in
theorem back_calls (a : Option Addr) (cap : Nat) (C : Int) (l : List ByteArray) (r c n : Int) (b : Bool) (w : World) (hl : StrsIn w a l) (hL : l.length ≤ 9223372036854775807) :
    Calls Try.prog 6 #[.agg #[.slice a l.length cap, .int .i64 C], .agg #[.int .i64 r, .int .i64 c, .int .i64 n, .bool b]] w fun e w' => e = .returned (.bool true) ∧ Below w.heap.size w w' := by
  obtain ⟨V, hV⟩ : ∃ V, V = ((((((w.alloc (.cells #[.slice a l.length cap, .int .i64 C] 24)).alloc (.cells #[.int .i64 r, .int .i64 c, .int .i64 n, .bool b] 28)).alloc (.cells #[.bool false] 4)).alloc (.cells #[.int .i64 r, .int .i64 c] 26)).alloc (.cells #[.int .i64 n] 3)).alloc (.cells #[.bool b] 4)) := ⟨_, rfl⟩
  have kA : Kept0 w V := by rw [hV]; exact ((((((Kept.refl _ w).alloc _).alloc _).alloc _).alloc _).alloc _).alloc _
  have y0 : Kept0 (w.alloc (.cells #[.slice a l.length cap, .int .i64 C] 24)) V := by rw [hV]; exact (((((Kept.refl _ _).alloc _).alloc _).alloc _).alloc _).alloc _
  have y2 : Kept0 (((w.alloc (.cells #[.slice a l.length cap, .int .i64 C] 24)).alloc (.cells #[.int .i64 r, .int .i64 c, .int .i64 n, .bool b] 28)).alloc (.cells #[.bool false] 4)) V := by rw [hV]; exact (((Kept.refl _ _).alloc _).alloc _).alloc _
  have y3 : Kept0 ((((w.alloc (.cells #[.slice a l.length cap, .int .i64 C] 24)).alloc (.cells #[.int .i64 r, .int .i64 c, .int .i64 n, .bool b] 28)).alloc (.cells #[.bool false] 4)).alloc (.cells #[.int .i64 r, .int .i64 c] 26)) V := by rw [hV]; exact ((Kept.refl _ _).alloc _).alloc _
  have y4 : Kept0 (((((w.alloc (.cells #[.slice a l.length cap, .int .i64 C] 24)).alloc (.cells #[.int .i64 r, .int .i64 c, .int .i64 n, .bool b] 28)).alloc (.cells #[.bool false] 4)).alloc (.cells #[.int .i64 r, .int .i64 c] 26)).alloc (.cells #[.int .i64 n] 3)) V := by rw [hV]; exact (Kept.refl _ _).alloc _
  have s0 : V.cell? ⟨w.heap.size, 0, none⟩ = some (.slice a l.length cap) := kcell y0 (by simp [go_sem])
  have s1 : V.cell? ⟨w.heap.size, 1, none⟩ = some (.int .i64 C) := kcell y0 (by simp [go_sem])
  have hB0 : BoolAt V (w.heap.size + 1 + 1) false := BoolAt.kept (BoolAt.of (heap_new3 w _ _ _)) y2 (fun e => e)
  have p0 : V.cell? ⟨w.heap.size + 1 + 1 + 1, 0, none⟩ = some (.int .i64 r) := kcell y3 (by simp [go_sem])
  have p1 : V.cell? ⟨w.heap.size + 1 + 1 + 1, 1, none⟩ = some (.int .i64 c) := kcell y3 (by simp [go_sem])
  have m0 : V.cell? ⟨w.heap.size + 1 + 1 + 1 + 1, 0, none⟩ = some (.int .i64 n) := kcell y4 (by simp [go_sem])
  have q0 : V.cell? ⟨w.heap.size + 1 + 1 + 1 + 1 + 1, 0, none⟩ = some (.bool b) := by rw [hV]; simp [go_sem]
  clear y0 y2 y3 y4
  have HL := Lib.hid hL
  clear hL
  by_cases hf : 1 ≤ l.length ∧ l.length ≤ 8 ∧ 1 ≤ C ∧ C ≤ 12
  rotate_left
  · have HB : Hid (fewB l.length C = false) := decide_eq_false hf
    clear hf
    clear hl
    refine calls_marks Try.func6 rfl ?_
    simp only [Try.ntmps6, List.size_toArray, List.length_cons, List.length_nil, Nat.reduceAdd, Nat.reduceSub, Array.replicate_succ, Array.replicate_zero, List.push_toArray, List.append_toArray, List.nil_append, List.cons_append]
    go_wp2_with fail
    rw [← hV]
    clear hV
    refine (few_any a l.length cap C _ HL.out).mono ?_
    rw [HB.out]
    rintro e w1 ⟨rfl, k1⟩
    replace s0 := kcell k1 s0
    replace s1 := kcell k1 s1
    replace p0 := kcell k1 p0
    replace p1 := kcell k1 p1
    replace m0 := kcell k1 m0
    go_wp2_with fail
    refine (awake_any _).mono ?_
    rintro e w2 ⟨rfl, k2⟩
    have hB2 := (hB0.kept k1 (fun e => e)).kept k2 (fun e => e)
    have b1 := hB2.c
    have b2 := hB2.f
    have hB4 := (hB2.set true).c
    go_wp2_with fail
    refine ⟨.bool true, by simp [results, Try.results6, go_sem, hB4], rfl, ?_⟩
    exact Kept0.below (((kA.trans k1).trans k2).setCell _ (Or.inl (by simp; omega)) _)
  have HB : Hid (fewB l.length C = true) := decide_eq_true hf
  by_cases c1 : n < 0
  · clear hf
    clear hl
    refine calls_marks Try.func6 rfl ?_
    simp only [Try.ntmps6, List.size_toArray, List.length_cons, List.length_nil, Nat.reduceAdd, Nat.reduceSub, Array.replicate_succ, Array.replicate_zero, List.push_toArray, List.append_toArray, List.nil_append, List.cons_append]
    go_wp2_with fail
    rw [← hV]
    clear hV
    refine (few_any a l.length cap C _ HL.out).mono ?_
    rw [HB.out]
    rintro e w1 ⟨rfl, k1⟩
    replace s0 := kcell k1 s0
    replace s1 := kcell k1 s1
    replace p0 := kcell k1 p0
    replace p1 := kcell k1 p1
    replace m0 := kcell k1 m0
    go_wp2_with fail
    refine (awake_any _).mono ?_
    rintro e w2 ⟨rfl, k2⟩
    have hB2 := (hB0.kept k1 (fun e => e)).kept k2 (fun e => e)
    have b1 := hB2.c
    have b2 := hB2.f
    have hB4 := (hB2.set true).c
    go_wp2_with fail
    refine ⟨.bool true, by simp [results, Try.results6, go_sem, hB4], rfl, ?_⟩
    exact Kept0.below (((kA.trans k1).trans k2).setCell _ (Or.inl (by simp; omega)) _)
  by_cases c2 : 20 < n
  · have d1 : decide (n < 0) = false := decide_eq_false c1
    clear hf
    clear hl
    refine calls_marks Try.func6 rfl ?_
    simp only [Try.ntmps6, List.size_toArray, List.length_cons, List.length_nil, Nat.reduceAdd, Nat.reduceSub, Array.replicate_succ, Array.replicate_zero, List.push_toArray, List.append_toArray, List.nil_append, List.cons_append]
    go_wp2_with fail
    rw [← hV]
    clear hV
    refine (few_any a l.length cap C _ HL.out).mono ?_
    rw [HB.out]
    rintro e w1 ⟨rfl, k1⟩
    replace s0 := kcell k1 s0
    replace s1 := kcell k1 s1
    replace p0 := kcell k1 p0
    replace p1 := kcell k1 p1
    replace m0 := kcell k1 m0
    go_wp2_with fail
    refine (awake_any _).mono ?_
    rintro e w2 ⟨rfl, k2⟩
    have hB2 := (hB0.kept k1 (fun e => e)).kept k2 (fun e => e)
    have b1 := hB2.c
    have b2 := hB2.f
    have hB4 := (hB2.set true).c
    go_wp2_with fail
    refine ⟨.bool true, by simp [results, Try.results6, go_sem, hB4], rfl, ?_⟩
    exact Kept0.below (((kA.trans k1).trans k2).setCell _ (Or.inl (by simp; omega)) _)
  by_cases c3 : r < 0
  · have d1 : decide (n < 0) = false := decide_eq_false c1
    have d2 : decide (20 < n) = false := decide_eq_false c2
    clear hf
    clear hl
    refine calls_marks Try.func6 rfl ?_
    simp only [Try.ntmps6, List.size_toArray, List.length_cons, List.length_nil, Nat.reduceAdd, Nat.reduceSub, Array.replicate_succ, Array.replicate_zero, List.push_toArray, List.append_toArray, List.nil_append, List.cons_append]
    go_wp2_with fail
    rw [← hV]
    clear hV
    refine (few_any a l.length cap C _ HL.out).mono ?_
    rw [HB.out]
    rintro e w1 ⟨rfl, k1⟩
    replace s0 := kcell k1 s0
    replace s1 := kcell k1 s1
    replace p0 := kcell k1 p0
    replace p1 := kcell k1 p1
    replace m0 := kcell k1 m0
    go_wp2_with fail
    refine (awake_any _).mono ?_
    rintro e w2 ⟨rfl, k2⟩
    have hB2 := (hB0.kept k1 (fun e => e)).kept k2 (fun e => e)
    have b1 := hB2.c
    have b2 := hB2.f
    have hB4 := (hB2.set true).c
    go_wp2_with fail
    refine ⟨.bool true, by simp [results, Try.results6, go_sem, hB4], rfl, ?_⟩
    exact Kept0.below (((kA.trans k1).trans k2).setCell _ (Or.inl (by simp; omega)) _)
  by_cases c4 : (l.length : Int) ≤ r
  · have d1 : decide (n < 0) = false := decide_eq_false c1
    have d2 : decide (20 < n) = false := decide_eq_false c2
    have d3 : decide (r < 0) = false := decide_eq_false c3
    clear hf
    clear hl
    refine calls_marks Try.func6 rfl ?_
    simp only [Try.ntmps6, List.size_toArray, List.length_cons, List.length_nil, Nat.reduceAdd, Nat.reduceSub, Array.replicate_succ, Array.replicate_zero, List.push_toArray, List.append_toArray, List.nil_append, List.cons_append]
    go_wp2_with fail
    rw [← hV]
    clear hV
    refine (few_any a l.length cap C _ HL.out).mono ?_
    rw [HB.out]
    rintro e w1 ⟨rfl, k1⟩
    replace s0 := kcell k1 s0
    replace s1 := kcell k1 s1
    replace p0 := kcell k1 p0
    replace p1 := kcell k1 p1
    replace m0 := kcell k1 m0
    go_wp2_with fail
    refine (awake_any _).mono ?_
    rintro e w2 ⟨rfl, k2⟩
    have hB2 := (hB0.kept k1 (fun e => e)).kept k2 (fun e => e)
    have b1 := hB2.c
    have b2 := hB2.f
    have hB4 := (hB2.set true).c
    go_wp2_with fail
    refine ⟨.bool true, by simp [results, Try.results6, go_sem, hB4], rfl, ?_⟩
    exact Kept0.below (((kA.trans k1).trans k2).setCell _ (Or.inl (by simp; omega)) _)
  by_cases c5 : c < 0
  · have d1 : decide (n < 0) = false := decide_eq_false c1
    have d2 : decide (20 < n) = false := decide_eq_false c2
    have d3 : decide (r < 0) = false := decide_eq_false c3
    have d4 : decide ((l.length : Int) ≤ r) = false := decide_eq_false c4
    clear hf
    clear hl
    refine calls_marks Try.func6 rfl ?_
    simp only [Try.ntmps6, List.size_toArray, List.length_cons, List.length_nil, Nat.reduceAdd, Nat.reduceSub, Array.replicate_succ, Array.replicate_zero, List.push_toArray, List.append_toArray, List.nil_append, List.cons_append]
    go_wp2_with fail
    rw [← hV]
    clear hV
    refine (few_any a l.length cap C _ HL.out).mono ?_
    rw [HB.out]
    rintro e w1 ⟨rfl, k1⟩
    replace s0 := kcell k1 s0
    replace s1 := kcell k1 s1
    replace p0 := kcell k1 p0
    replace p1 := kcell k1 p1
    replace m0 := kcell k1 m0
    go_wp2_with fail
    refine (awake_any _).mono ?_
    rintro e w2 ⟨rfl, k2⟩
    have hB2 := (hB0.kept k1 (fun e => e)).kept k2 (fun e => e)
    have b1 := hB2.c
    have b2 := hB2.f
    have hB4 := (hB2.set true).c
    go_wp2_with fail
    refine ⟨.bool true, by simp [results, Try.results6, go_sem, hB4], rfl, ?_⟩
    exact Kept0.below (((kA.trans k1).trans k2).setCell _ (Or.inl (by simp; omega)) _)
  by_cases c6 : C ≤ c
  · have d1 : decide (n < 0) = false := decide_eq_false c1
    have d2 : decide (20 < n) = false := decide_eq_false c2
    have d3 : decide (r < 0) = false := decide_eq_false c3
    have d4 : decide ((l.length : Int) ≤ r) = false := decide_eq_false c4
    have d5 : decide (c < 0) = false := decide_eq_false c5
    clear hf
    clear hl
    refine calls_marks Try.func6 rfl ?_
    simp only [Try.ntmps6, List.size_toArray, List.length_cons, List.length_nil, Nat.reduceAdd, Nat.reduceSub, Array.replicate_succ, Array.replicate_zero, List.push_toArray, List.append_toArray, List.nil_append, List.cons_append]
    go_wp2_with fail
    rw [← hV]
    clear hV
    refine (few_any a l.length cap C _ HL.out).mono ?_
    rw [HB.out]
    rintro e w1 ⟨rfl, k1⟩
    replace s0 := kcell k1 s0
    replace s1 := kcell k1 s1
    replace p0 := kcell k1 p0
    replace p1 := kcell k1 p1
    replace m0 := kcell k1 m0
    go_wp2_with fail
    refine (awake_any _).mono ?_
    rintro e w2 ⟨rfl, k2⟩
    have hB2 := (hB0.kept k1 (fun e => e)).kept k2 (fun e => e)
    have b1 := hB2.c
    have b2 := hB2.f
    have hB4 := (hB2.set true).c
    go_wp2_with fail
    refine ⟨.bool true, by simp [results, Try.results6, go_sem, hB4], rfl, ?_⟩
    exact Kept0.below (((kA.trans k1).trans k2).setCell _ (Or.inl (by simp; omega)) _)
  have d1 : decide (n < 0) = false := decide_eq_false c1
  have d2 : decide (20 < n) = false := decide_eq_false c2
  have d3 : decide (r < 0) = false := decide_eq_false c3
  have d4 : decide ((l.length : Int) ≤ r) = false := decide_eq_false c4
  have d5 : decide (c < 0) = false := decide_eq_false c5
  have d6 : decide (C ≤ c) = false := decide_eq_false c6
  obtain ⟨f1, f2, f3, f4⟩ := hf
  obtain ⟨C, rfl⟩ := Int.eq_ofNat_of_zero_le (show 0 ≤ C by omega)
  obtain ⟨dot, hdot⟩ : ∃ dot, dot = celB 46 := ⟨_, rfl⟩
  have HC : Hid (∀ w : World, Calls Try.prog 15 #[.int .u8 46] w fun e w' => e = .returned dot.v ∧ Kept0 w w') := fun w => by rw [hdot]; exact cellL 46 w (by omega) (by omega)
  have HM : Hid (∀ w', Kept0 w w' → _) := fun w' k => made_any a cap C l w' (hl.kept0 k) f1 f2 (by omega) (by omega)
  obtain ⟨F, hF⟩ : ∃ F, F = boardF C l := ⟨_, rfl⟩
  rw [← hF] at HM
  obtain ⟨R, hR⟩ : ∃ R, R = l.length := ⟨_, rfl⟩
  rw [← hR] at f1 f2 HM HL HB hV s0 c4 d4 ⊢
  clear hF hl hR hdot
  refine calls_marks Try.func6 rfl ?_
  simp only [Try.ntmps6, List.size_toArray, List.length_cons, List.length_nil, Nat.reduceAdd, Nat.reduceSub, Array.replicate_succ, Array.replicate_zero, List.push_toArray, List.append_toArray, List.nil_append, List.cons_append]
  go_wp2_with fail
  rw [← hV]
  clear hV
  refine (few_any a R cap (C : Int) V HL.out).mono ?_
  rw [HB.out]
  rintro e w1 ⟨rfl, k1⟩
  replace s0 := kcell k1 s0
  replace s1 := kcell k1 s1
  replace p0 := kcell k1 p0
  replace p1 := kcell k1 p1
  replace m0 := kcell k1 m0
  replace q0 := kcell k1 q0
  replace hB0 := hB0.kept k1 (fun e => e)
  replace kA := kA.trans k1
  clear k1
  have hq5 : w.heap.size + 1 + 1 + 1 + 1 + 1 < w1.heap.size := World.block_lt_of_cell? w1 _ q0
  go_wp2_with fail
  refine (HM.out w1 kA).mono ?_
  rintro e w2 ⟨g, t, cg, g9, t9, c9, rfl, n1, n2, _, _, _, _, _, _, hg, _, k2⟩
  obtain ⟨W2, hW2⟩ : ∃ W2, W2 = w2.alloc (.cells #[.pointer (some ⟨g, 0, none⟩)] 31) := ⟨_, rfl⟩
  have kW2 : Kept0 w2 W2 := by rw [hW2]; exact (Kept.refl _ w2).alloc _
  have x3 : W2.cell? ⟨w2.heap.size, 0, none⟩ = some (.pointer (some ⟨g, 0, none⟩)) := by rw [hW2]; simp [go_sem]
  have htl := hg.row.lt
  go_wp2_with fail
  rw [← hW2]
  clear hW2
  refine (copy_any g t cg R C F W2 (hg.kept kW2 (fun e => e) (fun e => e))).mono ?_
  rintro e w3 ⟨h, u, ch, rfl, m1, m2, hh, k3⟩
  have hsz2 := kW2.size
  have kk := (k2.trans kW2).trans k3
  have hP : Pb w g t cg h u ch w2.heap.size R C cap a r c n b F F w3 :=
    ⟨(hg.kept kW2 (fun e => e) (fun e => e)).kept k3 (fun e => e) (fun e => e), hh, kA.trans kk, kcell kk s0, kcell kk s1, kcell kk p0, kcell kk p1, kcell kk m0, kcell kk q0, kcell k3 x3, hB0.kept kk (fun e => e), by omega, by omega, by omega, by omega⟩
  have HP := Lib.hid hP
  have hc1 : 0 ≤ n := by omega
  have hc2 : n ≤ 20 := by omega
  clear hP hg hh kA s0 s1 p0 p1 m0 q0 hB0 kk k2 kW2 k3 x3 d1 d2 d3 d4 d5 d6
  go_wp2_with fail
  go_loopw [11, 12, 13] (fun s11 s12 s13 wr => ∃ i : Nat, i ≤ 2 ∧ s11 = .int .i64 (i : Int) ∧ Pb w g t cg h u ch w2.heap.size R C cap a r c n b (halfF R C r c n dot b F i) F wr) (fun s11 _ _ _ => 2 - (intOf s11).toNat)
  case atStart => exact ⟨0, by omega, rfl, HP.out⟩
  case round =>
    obtain ⟨i, hi, rfl, hPi⟩ := hrel
    have HPi := Lib.hid hPi
    have z0 := hPi.p0
    have z1 := hPi.p1
    have z2 := hPi.q0
    have z3 := hPi.e0
    have z4 := hPi.m0
    clear hPi
    rcases (show i = 0 ∨ i = 1 ∨ i = 2 by omega) with rfl | rfl | rfl
    · cases b
      · have HPj : Hid (Pb w g t cg h u ch w2.heap.size R C cap a r c n false F F wr) := HPi.out
        clear HPi
        go_wp2_with fail
        go_region_held3 (fun w' => w'.cell? ⟨w.heap.size + 1 + 1 + 1, 0, none⟩ = some (.int .i64 r) ∧ w'.cell? ⟨w2.heap.size, 0, none⟩ = some (.pointer (some ⟨g, 0, none⟩)) ∧ w'.cell? ⟨w.heap.size + 1 + 1 + 1, 1, none⟩ = some (.int .i64 c)) (go_keep)
          (first
            | (go_at_call 15; refine (HC.out _).mono ?_; rintro e9 w6 ⟨rfl, k6⟩; have P1 := Lib.hid (HPj.out.drew.keep k6); have v0 := P1.out.p0; have v1 := P1.out.e0; have v2 := P1.out.p1)
            | (go_at_call 24; refine (chars_any g t cg R C F r c n dot false _ P1.out.grid (by omega)).mono ?_; rw [show charsE R C r c = 0 from if_pos ⟨by omega, by omega, by omega, by omega⟩]; rintro e9 w7 ⟨rfl, hg7, k7⟩; have P2 := Lib.hid (P1.out.on hg7 k7); have v0 := P2.out.p0; have v1 := P2.out.e0; have v2 := P2.out.p1))
        all_goals
          clear P1 HPj z0 z1 z2 z3 z4
          go_wp2_with fail
          go_roundw
          case rel => exact ⟨1, by omega, by first | rfl | go_num, P2.out⟩
          case measure => simp [intOf]
      · have HPj : Hid (Pb w g t cg h u ch w2.heap.size R C cap a r c n true F F wr) := HPi.out
        clear HPi
        go_wp2_with fail
        go_region_held3 (fun w' => w'.cell? ⟨w.heap.size + 1 + 1 + 1, 0, none⟩ = some (.int .i64 r) ∧ w'.cell? ⟨w2.heap.size, 0, none⟩ = some (.pointer (some ⟨g, 0, none⟩))) (go_keep)
          (first
            | (go_at_call 15; refine (HC.out _).mono ?_; rintro e9 w6 ⟨rfl, k6⟩; have P1 := Lib.hid (HPj.out.drew.keep k6); have v0 := P1.out.p0; have v1 := P1.out.e0; have v2 := P1.out.p1)
            | (go_at_call 14; refine (lines_any g t cg R C F r n dot false _ P1.out.grid (by omega)).mono ?_; rw [show linesE R r = 0 from if_pos ⟨by omega, by omega⟩]; rintro e9 w7 ⟨rfl, hg7, k7⟩; have P2 := Lib.hid (P1.out.on hg7 k7); have v0 := P2.out.p0; have v1 := P2.out.e0; have v2 := P2.out.p1))
        all_goals
          clear P1 HPj z0 z1 z2 z3 z4
          go_wp2_with fail
          go_roundw
          case rel => exact ⟨1, by omega, by first | rfl | go_num, P2.out⟩
          case measure => simp [intOf]
    · cases b
      · have HPj : Hid (Pb w g t cg h u ch w2.heap.size R C cap a r c n false (charsF R C F r c n dot false) F wr) := HPi.out
        clear HPi
        go_wp2_with fail
        go_region_held3 (fun w' => w'.cell? ⟨w.heap.size + 1 + 1 + 1, 0, none⟩ = some (.int .i64 r) ∧ w'.cell? ⟨w2.heap.size, 0, none⟩ = some (.pointer (some ⟨g, 0, none⟩)) ∧ w'.cell? ⟨w.heap.size + 1 + 1 + 1, 1, none⟩ = some (.int .i64 c)) (go_keep)
          (first
            | (go_at_call 15; refine (HC.out _).mono ?_; rintro e9 w6 ⟨rfl, k6⟩; have P1 := Lib.hid (HPj.out.drew.keep k6); have v0 := P1.out.p0; have v1 := P1.out.e0; have v2 := P1.out.p1)
            | (go_at_call 24; refine (chars_any g t cg R C (charsF R C F r c n dot false) r c (-n) dot false _ P1.out.grid (by omega)).mono ?_; rw [show charsE R C r c = 0 from if_pos ⟨by omega, by omega, by omega, by omega⟩]; rintro e9 w7 ⟨rfl, hg7, k7⟩; have P2 := Lib.hid (P1.out.on hg7 k7); have v0 := P2.out.p0; have v1 := P2.out.e0; have v2 := P2.out.p1))
        all_goals
          clear P1 HPj z0 z1 z2 z3 z4
          go_wp2_with fail
          go_roundw
          case rel => exact ⟨2, by omega, by first | rfl | go_num, P2.out⟩
          case measure => simp [intOf]
      · have HPj : Hid (Pb w g t cg h u ch w2.heap.size R C cap a r c n true (linesF R C F r n dot false) F wr) := HPi.out
        clear HPi
        go_wp2_with fail
        go_region_held3 (fun w' => w'.cell? ⟨w.heap.size + 1 + 1 + 1, 0, none⟩ = some (.int .i64 r) ∧ w'.cell? ⟨w2.heap.size, 0, none⟩ = some (.pointer (some ⟨g, 0, none⟩))) (go_keep)
          (first
            | (go_at_call 15; refine (HC.out _).mono ?_; rintro e9 w6 ⟨rfl, k6⟩; have P1 := Lib.hid (HPj.out.drew.keep k6); have v0 := P1.out.p0; have v1 := P1.out.e0; have v2 := P1.out.p1)
            | (go_at_call 14; refine (lines_any g t cg R C (linesF R C F r n dot false) r (-n) dot false _ P1.out.grid (by omega)).mono ?_; rw [show linesE R r = 0 from if_pos ⟨by omega, by omega⟩]; rintro e9 w7 ⟨rfl, hg7, k7⟩; have P2 := Lib.hid (P1.out.on hg7 k7); have v0 := P2.out.p0; have v1 := P2.out.e0; have v2 := P2.out.p1))
        all_goals
          clear P1 HPj z0 z1 z2 z3 z4
          go_wp2_with fail
          go_roundw
          case rel => exact ⟨2, by omega, by first | rfl | go_num, P2.out⟩
          case measure => simp [intOf]
    · cases b
      · have HPj : Hid (Pb w g t cg h u ch w2.heap.size R C cap a r c n false (charsF R C (charsF R C F r c n dot false) r c (-n) dot false) F wr) := HPi.out
        clear HPi HP z0 z1 z2 z3 z4
        have HG : Hid (∀ k, k < R * C → charsF R C (charsF R C F r c n dot false) r c (-n) dot false k = if (rowOf C k : Int) = r ∧ c ≤ (colOf C k : Int) ∧ (C : Int) ≤ (colOf C k : Int) + n then dot else F k) := fun k hk => chars_back R C F r c n dot ⟨by omega, by omega, by omega, by omega⟩ ⟨by omega, by omega⟩ k
        generalize (charsF R C (charsF R C F r c n dot false) r c (-n) dot false) = FG at HG HPj
        go_wp2_with fail
        refine (all_any _ _).mono ?_
        rintro e w9 ⟨rfl, rfl⟩
        obtain ⟨w8, hw8⟩ : ∃ w8, w8 = wr.alloc (.cells #[.pointer (some ⟨h, 0, none⟩)] 31) := ⟨_, rfl⟩
        have k8 : Kept0 wr w8 := by rw [hw8]; exact (Kept.refl _ wr).alloc _
        have hbx : w8.cell? ⟨wr.heap.size, 0, none⟩ = some (.pointer (some ⟨h, 0, none⟩)) := by rw [hw8]; simp [go_sem]
        have hs8 : wr.heap.size + 1 = w8.heap.size := by rw [hw8]; simp
        have P8 := Lib.hid (HPj.out.keep k8)
        clear HPj
        rw [← hw8]
        clear hw8 k8
        go_wp2_with fail
        have hC1 := P8.out.grid.C1
        refine wpIn_wide.1 (wp_range (n := 0) (gf := 42) (lb := #[.pointer (some ⟨wr.heap.size, 0, none⟩)]) rfl (enters_of Try.func42 (by kernel_rfl) rfl) (all1_grid wr.heap.size h u ch R C F) (fun _ => rfl)
          (fun _ W => Below w8.heap.size w8 W) (fun _ _ _ => False) (fun _ _ _ h k => h.trans k) (fun _ _ _ _ h _ => h)
          (fun _ W h => ⟨kcell (Kept0.ofBelow h) hbx, P8.out.copy.kept (Kept0.ofBelow h) (fun e => e) (fun e => e)⟩) (Below.refl _ _) ?_ ?_ ?_)
        · rintro l9 k W hl1 hl2 hk hW
          have hkW : Kept0 w8 W := Kept0.ofBelow hW
          have hsW9 := hkW.size
          unfold allArgs
          gi_wp2_with fail
          refine ⟨((Kept.refl _ W).alloc _).alloc _, fun W4 hk2 hb2 => ?_⟩
          have hlW : ¬ W.heap.size = l9 := by omega
          have hlW1 : ¬ W.heap.size + 1 = l9 := by omega
          have b0 : W4.cell? ⟨W.heap.size, 0, none⟩ = some (.int .i64 (rowOf C k : Int)) := (hk2.cell (by simp; omega) hlW).trans (by simp [go_sem])
          have b1 : W4.cell? ⟨W.heap.size, 1, none⟩ = some (.int .i64 (colOf C k : Int)) := (hk2.cell (by simp; omega) hlW).trans (by simp [go_sem])
          have xx : CelAt W4 (W.heap.size + 1) (F k) := by
            have := CelAt.new (W.alloc (.cells #[.int .i64 (rowOf C k : Int), .int .i64 (colOf C k : Int)] 26)) (F k) 44
            rw [World.size_alloc] at this
            exact this.kept hk2 hlW1
          have hbW : Below w8.heap.size w8 W4 := hW.trans ((((Below.refl _ W).alloc (by omega) _).alloc (by simp; omega) _).trans hb2)
          have hkW2 : Kept0 w8 W4 := Kept0.ofBelow hbW
          have P9 := P8.out.keep hkW2
          have z3 := P9.e0
          have hth := there_row_col hk hC1
          have hix : Hid (idx C (rowOf C k : Int) (colOf C k : Int) = k) := idx_row_col C k
          clear hk2 hb2 hkW hW
          gi_wp2_with fail
          refine round_call0 ((at_in g t cg R C FG _ _ _ P9.grid hth).mono ?_)
          rw [hix.out]
          rintro e W3 ⟨rfl, hk3⟩
          replace b0 := kcell hk3 b0
          replace b1 := kcell hk3 b1
          replace xx := xx.kept hk3 (fun e => e)
          have P10 := P9.keep hk3
          have z0 := P10.p0
          have z1 := P10.p1
          have z2 := P10.q0
          have z4 := P10.m0
          have z5 := P10.s0
          have z6 := P10.s1
          have hgood : Hid (∀ o, Kept (· < w8.heap.size) W4 (W3.alloc o) ∧ Below w8.heap.size w8 (W3.alloc o)) := fun o => ⟨Kept0.to (hk3.alloc o), Kept0.below ((hkW2.trans hk3).alloc o)⟩
          have hy9 := HG.out k hk
          obtain ⟨x0, x1, x2, x3⟩ := xx
          have l0 : W.heap.size < W3.heap.size := World.block_lt_of_cell? W3 _ b0
          have l1 : W.heap.size + 1 < W3.heap.size := World.block_lt_of_cell? W3 _ x0
          have l2 : w.heap.size + 1 + 1 + 1 < W3.heap.size := World.block_lt_of_cell? W3 _ z0
          have l3 : w.heap.size + 1 + 1 + 1 + 1 + 1 < W3.heap.size := World.block_lt_of_cell? W3 _ z2
          have l4 : w.heap.size + 1 + 1 + 1 + 1 < W3.heap.size := World.block_lt_of_cell? W3 _ z4
          have l5 : w.heap.size < W3.heap.size := World.block_lt_of_cell? W3 _ z5
          have hrb : rowOf C k < R := rowOf_lt hk
          have hcb : colOf C k < C := colOf_lt hC1
          clear P9 P10 hk3 hkW2 z3 hth HG HM
          generalize hxF : F k = x at *
          generalize hyF : FG k = y at *
          generalize hrw : (rowOf C k : Int) = rw0 at *
          generalize hcl : (colOf C k : Int) = cl0 at *
          have hrw1 : 0 ≤ rw0 ∧ rw0 < R := by omega
          have hcl1 : 0 ≤ cl0 ∧ cl0 < C := by omega
          obtain ⟨hrw1, hrw2⟩ := hrw1
          obtain ⟨hcl1, hcl2⟩ := hcl1
          clear hrb hcb hxF hyF hrw hcl
          by_cases g1 : rw0 = r
          · by_cases g2 : c ≤ cl0
            · have e2 : decide (c ≤ cl0) = true := decide_eq_true g2
              by_cases g3 : (C : Int) ≤ cl0 + n
              · have e3 : decide ((C : Int) ≤ cl0 + n) = true := decide_eq_true g3
                rw [if_pos (by omega)] at hy9
                rw [hy9]
                clear hy9
                gi_wp2_with fail
                obtain ⟨W5, hW5⟩ : ∃ W5, W5 = W3.alloc (.cells #[.int .i32 dot.g, .int .i64 dot.a, .bool dot.b, .int .i64 dot.m] 44) := ⟨_, rfl⟩
                have k5 : Kept0 W3 W5 := by rw [hW5]; exact (Kept.refl _ W3).alloc _
                obtain ⟨y0, y1, y2, y3⟩ : CelAt W5 W3.heap.size dot := by rw [hW5]; exact CelAt.new W3 dot 44
                have hgd := Lib.hid (hgood.out (.cells #[.int .i32 dot.g, .int .i64 dot.a, .bool dot.b, .int .i64 dot.m] 44))
                rw [← hW5] at hgd ⊢
                replace x0 := kcell k5 x0
                replace x1 := kcell k5 x1
                replace x2 := kcell k5 x2
                replace x3 := kcell k5 x3
                clear hW5
                refine wpIn_boxed (fun w' => Kept0 W5 w') ((Kept.refl _ W5).drewN 1) (by kernel_rfl) (by kernel_rfl) (by kernel_rfl) (fun ⟨_, _, h⟩ => h) ?_
                refine boxed_op (.int .i64 0) (by kernel_rfl) (fun w' hw' => by go_simp) ?_
                simp only [Act.put, List.setIfInBounds_toArray, List.set_cons_zero, List.set_cons_succ]
                refine boxed_op (.bool false) (by kernel_rfl) (fun w' hw' => by go_simp) ?_
                simp only [Act.put, List.setIfInBounds_toArray, List.set_cons_zero, List.set_cons_succ]
                refine boxed_op (.bool false) (by kernel_rfl) (fun w' hw' => by go_simp) ?_
                simp only [Act.put, List.setIfInBounds_toArray, List.set_cons_zero, List.set_cons_succ]
                refine boxed_op (.bool true) (by kernel_rfl) (fun w' hw' => by go_simp) ?_
                simp only [Act.put, List.setIfInBounds_toArray, List.set_cons_zero, List.set_cons_succ]
                refine boxed_op (.bool false) (by kernel_rfl) (fun w' hw' => by go_simp) ?_
                simp only [Act.put, List.setIfInBounds_toArray, List.set_cons_zero, List.set_cons_succ]
                refine boxed_op (.bool false) (by kernel_rfl) (fun w' hw' => by go_simp) ?_
                simp only [Act.put, List.setIfInBounds_toArray, List.set_cons_zero, List.set_cons_succ]
                refine boxed_skip (by kernel_rfl) ?_
                simp only [Act.put, List.setIfInBounds_toArray, List.set_cons_zero, List.set_cons_succ]
                refine boxed_skip (by kernel_rfl) ?_
                simp only [Act.put, List.setIfInBounds_toArray, List.set_cons_zero, List.set_cons_succ]
                refine boxed_skip (by kernel_rfl) ?_
                simp only [Act.put, List.setIfInBounds_toArray, List.set_cons_zero, List.set_cons_succ]
                refine boxed_op (.bool false) (by kernel_rfl) (fun w' hw' => by go_simp) ?_
                simp only [Act.put, List.setIfInBounds_toArray, List.set_cons_zero, List.set_cons_succ]
                refine boxed_op (.bool false) (by kernel_rfl) (fun w' hw' => by go_simp) ?_
                simp only [Act.put, List.setIfInBounds_toArray, List.set_cons_zero, List.set_cons_succ]
                refine boxed_op (.bool false) (by kernel_rfl) (fun w' hw' => by go_simp) ?_
                simp only [Act.put, List.setIfInBounds_toArray, List.set_cons_zero, List.set_cons_succ]
                refine boxed_op (.bool true) (by kernel_rfl) (fun w' hw' => by go_simp) ?_
                simp only [Act.put, List.setIfInBounds_toArray, List.set_cons_zero, List.set_cons_succ]
                refine boxed_op (.bool true) (by kernel_rfl) (fun w' hw' => by go_simp) ?_
                simp only [Act.put, List.setIfInBounds_toArray, List.set_cons_zero, List.set_cons_succ]
                refine boxed_op (dot.v) (by kernel_rfl) (fun w' hw' => by have y := kcell hw' y0; have z := kcell hw' y1; have u := kcell hw' y2; have v := kcell hw' y3; go_simp) ?_
                simp only [Act.put, List.setIfInBounds_toArray, List.set_cons_zero, List.set_cons_succ]
                refine boxed_op (dot.v) (by kernel_rfl) (fun w' hw' => ?_) ?_
                · go_simp
                  exact (HC.out w').mono fun e w5 ⟨h1, h2⟩ => ⟨h1, hw'.trans h2⟩
                simp only [Act.put, List.setIfInBounds_toArray, List.set_cons_zero, List.set_cons_succ]
                refine boxed_op (.bool false) (by kernel_rfl) (fun w' hw' => by have y := same_cel dot w'; go_simp) ?_
                simp only [Act.put, List.setIfInBounds_toArray, List.set_cons_zero, List.set_cons_succ]
                refine boxed_op (.bool false) (by kernel_rfl) (fun w' hw' => by go_simp) ?_
                simp only [Act.put, List.setIfInBounds_toArray, List.set_cons_zero, List.set_cons_succ]
                refine boxed_op (.bool false) (by kernel_rfl) (fun w' hw' => by go_simp) ?_
                simp only [Act.put, List.setIfInBounds_toArray, List.set_cons_zero, List.set_cons_succ]
                refine boxed_skip (by kernel_rfl) ?_
                simp only [Act.put, List.setIfInBounds_toArray, List.set_cons_zero, List.set_cons_succ]
                refine boxed_skip (by kernel_rfl) ?_
                simp only [Act.put, List.setIfInBounds_toArray, List.set_cons_zero, List.set_cons_succ]
                refine boxed_op (.bool false) (by kernel_rfl) (fun w' hw' => by go_simp) ?_
                simp only [Act.put, List.setIfInBounds_toArray, List.set_cons_zero, List.set_cons_succ]
                refine boxed_op (.bool false) (by kernel_rfl) (fun w' hw' => by go_simp) ?_
                simp only [Act.put, List.setIfInBounds_toArray, List.set_cons_zero, List.set_cons_succ]
                refine boxed_end ?_
                rintro W6 hk6
                gi_wp2_with fail
                exact ⟨hgd.out.1.trans (Kept0.to hk6), hgd.out.2.trans ((Kept0.below hk6).mono (by have := hgd.out.2.size; omega))⟩
              · have e3 : decide ((C : Int) ≤ cl0 + n) = false := decide_eq_false g3
                rw [if_neg (by omega)] at hy9
                rw [hy9]
                clear hy9
                gi_wp2_with fail
                obtain ⟨W5, hW5⟩ : ∃ W5, W5 = W3.alloc (.cells #[.int .i32 x.g, .int .i64 x.a, .bool x.b, .int .i64 x.m] 44) := ⟨_, rfl⟩
                have k5 : Kept0 W3 W5 := by rw [hW5]; exact (Kept.refl _ W3).alloc _
                obtain ⟨y0, y1, y2, y3⟩ : CelAt W5 W3.heap.size x := by rw [hW5]; exact CelAt.new W3 x 44
                have hgd := Lib.hid (hgood.out (.cells #[.int .i32 x.g, .int .i64 x.a, .bool x.b, .int .i64 x.m] 44))
                rw [← hW5] at hgd ⊢
                replace x0 := kcell k5 x0
                replace x1 := kcell k5 x1
                replace x2 := kcell k5 x2
                replace x3 := kcell k5 x3
                clear hW5
                refine wpIn_boxed (fun w' => Kept0 W5 w') ((Kept.refl _ W5).drewN 1) (by kernel_rfl) (by kernel_rfl) (by kernel_rfl) (fun ⟨_, _, h⟩ => h) ?_
                refine boxed_op (.int .i64 0) (by kernel_rfl) (fun w' hw' => by go_simp) ?_
                simp only [Act.put, List.setIfInBounds_toArray, List.set_cons_zero, List.set_cons_succ]
                refine boxed_op (.bool false) (by kernel_rfl) (fun w' hw' => by go_simp) ?_
                simp only [Act.put, List.setIfInBounds_toArray, List.set_cons_zero, List.set_cons_succ]
                refine boxed_op (.bool false) (by kernel_rfl) (fun w' hw' => by go_simp) ?_
                simp only [Act.put, List.setIfInBounds_toArray, List.set_cons_zero, List.set_cons_succ]
                refine boxed_op (.bool false) (by kernel_rfl) (fun w' hw' => by go_simp) ?_
                simp only [Act.put, List.setIfInBounds_toArray, List.set_cons_zero, List.set_cons_succ]
                refine boxed_op (.bool true) (by kernel_rfl) (fun w' hw' => by go_simp) ?_
                simp only [Act.put, List.setIfInBounds_toArray, List.set_cons_zero, List.set_cons_succ]
                refine boxed_op (.bool true) (by kernel_rfl) (fun w' hw' => by go_simp) ?_
                simp only [Act.put, List.setIfInBounds_toArray, List.set_cons_zero, List.set_cons_succ]
                refine boxed_op (x.v) (by kernel_rfl) (fun w' hw' => by have y := kcell hw' x0; have z := kcell hw' x1; have u := kcell hw' x2; have v := kcell hw' x3; go_simp) ?_
                simp only [Act.put, List.setIfInBounds_toArray, List.set_cons_zero, List.set_cons_succ]
                refine boxed_op (x.v) (by kernel_rfl) (fun w' hw' => by have y := kcell hw' y0; have z := kcell hw' y1; have u := kcell hw' y2; have v := kcell hw' y3; go_simp) ?_
                simp only [Act.put, List.setIfInBounds_toArray, List.set_cons_zero, List.set_cons_succ]
                refine boxed_op (.bool false) (by kernel_rfl) (fun w' hw' => by have y := same_cel x w'; go_simp) ?_
                simp only [Act.put, List.setIfInBounds_toArray, List.set_cons_zero, List.set_cons_succ]
                refine boxed_op (.bool false) (by kernel_rfl) (fun w' hw' => by go_simp) ?_
                simp only [Act.put, List.setIfInBounds_toArray, List.set_cons_zero, List.set_cons_succ]
                refine boxed_op (.bool false) (by kernel_rfl) (fun w' hw' => by go_simp) ?_
                simp only [Act.put, List.setIfInBounds_toArray, List.set_cons_zero, List.set_cons_succ]
                refine boxed_op (.bool false) (by kernel_rfl) (fun w' hw' => by go_simp) ?_
                simp only [Act.put, List.setIfInBounds_toArray, List.set_cons_zero, List.set_cons_succ]
                refine boxed_op (.bool false) (by kernel_rfl) (fun w' hw' => by go_simp) ?_
                simp only [Act.put, List.setIfInBounds_toArray, List.set_cons_zero, List.set_cons_succ]
                refine boxed_op (.bool false) (by kernel_rfl) (fun w' hw' => by go_simp) ?_
                simp only [Act.put, List.setIfInBounds_toArray, List.set_cons_zero, List.set_cons_succ]
                refine boxed_skip (by kernel_rfl) ?_
                simp only [Act.put, List.setIfInBounds_toArray, List.set_cons_zero, List.set_cons_succ]
                refine boxed_skip (by kernel_rfl) ?_
                simp only [Act.put, List.setIfInBounds_toArray, List.set_cons_zero, List.set_cons_succ]
                refine boxed_skip (by kernel_rfl) ?_
                simp only [Act.put, List.setIfInBounds_toArray, List.set_cons_zero, List.set_cons_succ]
                refine boxed_op (.bool false) (by kernel_rfl) (fun w' hw' => by go_simp) ?_
                simp only [Act.put, List.setIfInBounds_toArray, List.set_cons_zero, List.set_cons_succ]
                refine boxed_op (.bool false) (by kernel_rfl) (fun w' hw' => by go_simp) ?_
                simp only [Act.put, List.setIfInBounds_toArray, List.set_cons_zero, List.set_cons_succ]
                refine boxed_skip (by kernel_rfl) ?_
                simp only [Act.put, List.setIfInBounds_toArray, List.set_cons_zero, List.set_cons_succ]
                refine boxed_skip (by kernel_rfl) ?_
                simp only [Act.put, List.setIfInBounds_toArray, List.set_cons_zero, List.set_cons_succ]
                refine boxed_op (.bool false) (by kernel_rfl) (fun w' hw' => by go_simp) ?_
                simp only [Act.put, List.setIfInBounds_toArray, List.set_cons_zero, List.set_cons_succ]
                refine boxed_op (.bool false) (by kernel_rfl) (fun w' hw' => by go_simp) ?_
                simp only [Act.put, List.setIfInBounds_toArray, List.set_cons_zero, List.set_cons_succ]
                refine boxed_end ?_
                rintro W6 hk6
                gi_wp2_with fail
                exact ⟨hgd.out.1.trans (Kept0.to hk6), hgd.out.2.trans ((Kept0.below hk6).mono (by have := hgd.out.2.size; omega))⟩
            · have e2 : decide (c ≤ cl0) = false := decide_eq_false g2
              rw [if_neg (by omega)] at hy9
              rw [hy9]
              clear hy9
              gi_wp2_with fail
              obtain ⟨W5, hW5⟩ : ∃ W5, W5 = W3.alloc (.cells #[.int .i32 x.g, .int .i64 x.a, .bool x.b, .int .i64 x.m] 44) := ⟨_, rfl⟩
              have k5 : Kept0 W3 W5 := by rw [hW5]; exact (Kept.refl _ W3).alloc _
              obtain ⟨y0, y1, y2, y3⟩ : CelAt W5 W3.heap.size x := by rw [hW5]; exact CelAt.new W3 x 44
              have hgd := Lib.hid (hgood.out (.cells #[.int .i32 x.g, .int .i64 x.a, .bool x.b, .int .i64 x.m] 44))
              rw [← hW5] at hgd ⊢
              replace x0 := kcell k5 x0
              replace x1 := kcell k5 x1
              replace x2 := kcell k5 x2
              replace x3 := kcell k5 x3
              clear hW5
              refine wpIn_boxed (fun w' => Kept0 W5 w') ((Kept.refl _ W5).drewN 1) (by kernel_rfl) (by kernel_rfl) (by kernel_rfl) (fun ⟨_, _, h⟩ => h) ?_
              refine boxed_op (.int .i64 0) (by kernel_rfl) (fun w' hw' => by go_simp) ?_
              simp only [Act.put, List.setIfInBounds_toArray, List.set_cons_zero, List.set_cons_succ]
              refine boxed_op (.bool false) (by kernel_rfl) (fun w' hw' => by go_simp) ?_
              simp only [Act.put, List.setIfInBounds_toArray, List.set_cons_zero, List.set_cons_succ]
              refine boxed_op (.bool false) (by kernel_rfl) (fun w' hw' => by go_simp) ?_
              simp only [Act.put, List.setIfInBounds_toArray, List.set_cons_zero, List.set_cons_succ]
              refine boxed_op (.bool false) (by kernel_rfl) (fun w' hw' => by go_simp) ?_
              simp only [Act.put, List.setIfInBounds_toArray, List.set_cons_zero, List.set_cons_succ]
              refine boxed_op (.bool true) (by kernel_rfl) (fun w' hw' => by go_simp) ?_
              simp only [Act.put, List.setIfInBounds_toArray, List.set_cons_zero, List.set_cons_succ]
              refine boxed_op (.bool true) (by kernel_rfl) (fun w' hw' => by go_simp) ?_
              simp only [Act.put, List.setIfInBounds_toArray, List.set_cons_zero, List.set_cons_succ]
              refine boxed_op (x.v) (by kernel_rfl) (fun w' hw' => by have y := kcell hw' x0; have z := kcell hw' x1; have u := kcell hw' x2; have v := kcell hw' x3; go_simp) ?_
              simp only [Act.put, List.setIfInBounds_toArray, List.set_cons_zero, List.set_cons_succ]
              refine boxed_op (x.v) (by kernel_rfl) (fun w' hw' => by have y := kcell hw' y0; have z := kcell hw' y1; have u := kcell hw' y2; have v := kcell hw' y3; go_simp) ?_
              simp only [Act.put, List.setIfInBounds_toArray, List.set_cons_zero, List.set_cons_succ]
              refine boxed_op (.bool false) (by kernel_rfl) (fun w' hw' => by have y := same_cel x w'; go_simp) ?_
              simp only [Act.put, List.setIfInBounds_toArray, List.set_cons_zero, List.set_cons_succ]
              refine boxed_op (.bool false) (by kernel_rfl) (fun w' hw' => by go_simp) ?_
              simp only [Act.put, List.setIfInBounds_toArray, List.set_cons_zero, List.set_cons_succ]
              refine boxed_op (.bool false) (by kernel_rfl) (fun w' hw' => by go_simp) ?_
              simp only [Act.put, List.setIfInBounds_toArray, List.set_cons_zero, List.set_cons_succ]
              refine boxed_op (.bool false) (by kernel_rfl) (fun w' hw' => by go_simp) ?_
              simp only [Act.put, List.setIfInBounds_toArray, List.set_cons_zero, List.set_cons_succ]
              refine boxed_op (.bool false) (by kernel_rfl) (fun w' hw' => by go_simp) ?_
              simp only [Act.put, List.setIfInBounds_toArray, List.set_cons_zero, List.set_cons_succ]
              refine boxed_op (.bool false) (by kernel_rfl) (fun w' hw' => by go_simp) ?_
              simp only [Act.put, List.setIfInBounds_toArray, List.set_cons_zero, List.set_cons_succ]
              refine boxed_skip (by kernel_rfl) ?_
              simp only [Act.put, List.setIfInBounds_toArray, List.set_cons_zero, List.set_cons_succ]
              refine boxed_skip (by kernel_rfl) ?_
              simp only [Act.put, List.setIfInBounds_toArray, List.set_cons_zero, List.set_cons_succ]
              refine boxed_skip (by kernel_rfl) ?_
              simp only [Act.put, List.setIfInBounds_toArray, List.set_cons_zero, List.set_cons_succ]
              refine boxed_op (.bool false) (by kernel_rfl) (fun w' hw' => by go_simp) ?_
              simp only [Act.put, List.setIfInBounds_toArray, List.set_cons_zero, List.set_cons_succ]
              refine boxed_op (.bool false) (by kernel_rfl) (fun w' hw' => by go_simp) ?_
              simp only [Act.put, List.setIfInBounds_toArray, List.set_cons_zero, List.set_cons_succ]
              refine boxed_skip (by kernel_rfl) ?_
              simp only [Act.put, List.setIfInBounds_toArray, List.set_cons_zero, List.set_cons_succ]
              refine boxed_skip (by kernel_rfl) ?_
              simp only [Act.put, List.setIfInBounds_toArray, List.set_cons_zero, List.set_cons_succ]
              refine boxed_op (.bool false) (by kernel_rfl) (fun w' hw' => by go_simp) ?_
              simp only [Act.put, List.setIfInBounds_toArray, List.set_cons_zero, List.set_cons_succ]
              refine boxed_op (.bool false) (by kernel_rfl) (fun w' hw' => by go_simp) ?_
              simp only [Act.put, List.setIfInBounds_toArray, List.set_cons_zero, List.set_cons_succ]
              refine boxed_end ?_
              rintro W6 hk6
              gi_wp2_with fail
              exact ⟨hgd.out.1.trans (Kept0.to hk6), hgd.out.2.trans ((Kept0.below hk6).mono (by have := hgd.out.2.size; omega))⟩
          · rw [if_neg (by omega)] at hy9
            rw [hy9]
            clear hy9
            gi_wp2_with fail
            obtain ⟨W5, hW5⟩ : ∃ W5, W5 = W3.alloc (.cells #[.int .i32 x.g, .int .i64 x.a, .bool x.b, .int .i64 x.m] 44) := ⟨_, rfl⟩
            have k5 : Kept0 W3 W5 := by rw [hW5]; exact (Kept.refl _ W3).alloc _
            obtain ⟨y0, y1, y2, y3⟩ : CelAt W5 W3.heap.size x := by rw [hW5]; exact CelAt.new W3 x 44
            have hgd := Lib.hid (hgood.out (.cells #[.int .i32 x.g, .int .i64 x.a, .bool x.b, .int .i64 x.m] 44))
            rw [← hW5] at hgd ⊢
            replace x0 := kcell k5 x0
            replace x1 := kcell k5 x1
            replace x2 := kcell k5 x2
            replace x3 := kcell k5 x3
            clear hW5
            refine wpIn_boxed (fun w' => Kept0 W5 w') ((Kept.refl _ W5).drewN 1) (by kernel_rfl) (by kernel_rfl) (by kernel_rfl) (fun ⟨_, _, h⟩ => h) ?_
            refine boxed_op (.int .i64 0) (by kernel_rfl) (fun w' hw' => by go_simp) ?_
            simp only [Act.put, List.setIfInBounds_toArray, List.set_cons_zero, List.set_cons_succ]
            refine boxed_op (.bool false) (by kernel_rfl) (fun w' hw' => by go_simp) ?_
            simp only [Act.put, List.setIfInBounds_toArray, List.set_cons_zero, List.set_cons_succ]
            refine boxed_op (.bool false) (by kernel_rfl) (fun w' hw' => by go_simp) ?_
            simp only [Act.put, List.setIfInBounds_toArray, List.set_cons_zero, List.set_cons_succ]
            refine boxed_op (.bool false) (by kernel_rfl) (fun w' hw' => by go_simp) ?_
            simp only [Act.put, List.setIfInBounds_toArray, List.set_cons_zero, List.set_cons_succ]
            refine boxed_op (.bool true) (by kernel_rfl) (fun w' hw' => by go_simp) ?_
            simp only [Act.put, List.setIfInBounds_toArray, List.set_cons_zero, List.set_cons_succ]
            refine boxed_op (.bool true) (by kernel_rfl) (fun w' hw' => by go_simp) ?_
            simp only [Act.put, List.setIfInBounds_toArray, List.set_cons_zero, List.set_cons_succ]
            refine boxed_op (x.v) (by kernel_rfl) (fun w' hw' => by have y := kcell hw' x0; have z := kcell hw' x1; have u := kcell hw' x2; have v := kcell hw' x3; go_simp) ?_
            simp only [Act.put, List.setIfInBounds_toArray, List.set_cons_zero, List.set_cons_succ]
            refine boxed_op (x.v) (by kernel_rfl) (fun w' hw' => by have y := kcell hw' y0; have z := kcell hw' y1; have u := kcell hw' y2; have v := kcell hw' y3; go_simp) ?_
            simp only [Act.put, List.setIfInBounds_toArray, List.set_cons_zero, List.set_cons_succ]
            refine boxed_op (.bool false) (by kernel_rfl) (fun w' hw' => by have y := same_cel x w'; go_simp) ?_
            simp only [Act.put, List.setIfInBounds_toArray, List.set_cons_zero, List.set_cons_succ]
            refine boxed_op (.bool false) (by kernel_rfl) (fun w' hw' => by go_simp) ?_
            simp only [Act.put, List.setIfInBounds_toArray, List.set_cons_zero, List.set_cons_succ]
            refine boxed_op (.bool false) (by kernel_rfl) (fun w' hw' => by go_simp) ?_
            simp only [Act.put, List.setIfInBounds_toArray, List.set_cons_zero, List.set_cons_succ]
            refine boxed_op (.bool false) (by kernel_rfl) (fun w' hw' => by go_simp) ?_
            simp only [Act.put, List.setIfInBounds_toArray, List.set_cons_zero, List.set_cons_succ]
            refine boxed_op (.bool false) (by kernel_rfl) (fun w' hw' => by go_simp) ?_
            simp only [Act.put, List.setIfInBounds_toArray, List.set_cons_zero, List.set_cons_succ]
            refine boxed_op (.bool false) (by kernel_rfl) (fun w' hw' => by go_simp) ?_
            simp only [Act.put, List.setIfInBounds_toArray, List.set_cons_zero, List.set_cons_succ]
            refine boxed_skip (by kernel_rfl) ?_
            simp only [Act.put, List.setIfInBounds_toArray, List.set_cons_zero, List.set_cons_succ]
            refine boxed_skip (by kernel_rfl) ?_
            simp only [Act.put, List.setIfInBounds_toArray, List.set_cons_zero, List.set_cons_succ]
            refine boxed_skip (by kernel_rfl) ?_
            simp only [Act.put, List.setIfInBounds_toArray, List.set_cons_zero, List.set_cons_succ]
            refine boxed_op (.bool false) (by kernel_rfl) (fun w' hw' => by go_simp) ?_
            simp only [Act.put, List.setIfInBounds_toArray, List.set_cons_zero, List.set_cons_succ]
            refine boxed_op (.bool false) (by kernel_rfl) (fun w' hw' => by go_simp) ?_
            simp only [Act.put, List.setIfInBounds_toArray, List.set_cons_zero, List.set_cons_succ]
            refine boxed_skip (by kernel_rfl) ?_
            simp only [Act.put, List.setIfInBounds_toArray, List.set_cons_zero, List.set_cons_succ]
            refine boxed_skip (by kernel_rfl) ?_
            simp only [Act.put, List.setIfInBounds_toArray, List.set_cons_zero, List.set_cons_succ]
            refine boxed_op (.bool false) (by kernel_rfl) (fun w' hw' => by go_simp) ?_
            simp only [Act.put, List.setIfInBounds_toArray, List.set_cons_zero, List.set_cons_succ]
            refine boxed_op (.bool false) (by kernel_rfl) (fun w' hw' => by go_simp) ?_
            simp only [Act.put, List.setIfInBounds_toArray, List.set_cons_zero, List.set_cons_succ]
            refine boxed_end ?_
            rintro W6 hk6
            gi_wp2_with fail
            exact ⟨hgd.out.1.trans (Kept0.to hk6), hgd.out.2.trans ((Kept0.below hk6).mono (by have := hgd.out.2.size; omega))⟩
        · intro D W hD hW hDc
          have hkW : Kept0 w8 W := Kept0.ofBelow hW
          have P9 := P8.out.keep hkW
          have HD := Lib.hid hDc
          clear hDc hW
          go_wp2_with fail
          refine (awake_any _).mono ?_
          rintro e W3 ⟨rfl, hk3⟩
          have P10 := P9.keep hk3
          have b1 := P10.v0.c
          have b2 := P10.v0.f
          have hB4 := (P10.v0.set true).c
          have hv8 : w.heap.size + 1 + 1 < w8.heap.size := P8.out.v0.lt
          go_wp2_with fail
          have hk4 : Kept0 w (W3.setCell ⟨w.heap.size + 1 + 1, 0, none⟩ (.bool true)) := P10.kept.setCell _ (Or.inl (by simp; omega)) _
          have hDl : D < W.heap.size := (Array.getElem?_eq_some_iff.1 HD.out).1
          have hD4 : (W3.setCell ⟨w.heap.size + 1 + 1, 0, none⟩ (.bool true)).heap[D]? = some (.deferred (some [])) :=
            (Below.heap_setCell _ _ _ _ (by simp; omega)).trans ((hk3.block D hDl (fun e => e)).trans HD.out)
          refine ⟨by simp, .inl ⟨_, _, rfl, run_takeDeferred hD4, ?_⟩⟩
          have hB5 : ((W3.setCell ⟨w.heap.size + 1 + 1, 0, none⟩ (.bool true)).putObj D (.deferred none)).cell? ⟨w.heap.size + 1 + 1, 0, none⟩ = some (.bool true) :=
            (World.cell?_of_block (World.putObj_heap_other (by simp; omega))).trans hB4
          refine ⟨.bool true, by simp [results, Try.results6, go_sem, hB5], rfl, ?_⟩
          exact (Kept0.below hk4).trans (below_putObj _ (by omega))
        · intro D c k W _ _ h
          exact h.elim
      · have HPj : Hid (Pb w g t cg h u ch w2.heap.size R C cap a r c n true (linesF R C (linesF R C F r n dot false) r (-n) dot false) F wr) := HPi.out
        clear HPi HP z0 z1 z2 z3 z4
        have HG : Hid (∀ k, k < R * C → linesF R C (linesF R C F r n dot false) r (-n) dot false k = if r ≤ (rowOf C k : Int) ∧ (R : Int) ≤ (rowOf C k : Int) + n then dot else F k) := fun k hk => lines_back R C F r n dot ⟨by omega, by omega⟩ ⟨by omega, by omega⟩ k hk
        generalize (linesF R C (linesF R C F r n dot false) r (-n) dot false) = FG at HG HPj
        go_wp2_with fail
        refine (all_any _ _).mono ?_
        rintro e w9 ⟨rfl, rfl⟩
        obtain ⟨w8, hw8⟩ : ∃ w8, w8 = wr.alloc (.cells #[.pointer (some ⟨h, 0, none⟩)] 31) := ⟨_, rfl⟩
        have k8 : Kept0 wr w8 := by rw [hw8]; exact (Kept.refl _ wr).alloc _
        have hbx : w8.cell? ⟨wr.heap.size, 0, none⟩ = some (.pointer (some ⟨h, 0, none⟩)) := by rw [hw8]; simp [go_sem]
        have hs8 : wr.heap.size + 1 = w8.heap.size := by rw [hw8]; simp
        have P8 := Lib.hid (HPj.out.keep k8)
        clear HPj
        rw [← hw8]
        clear hw8 k8
        go_wp2_with fail
        have hC1 := P8.out.grid.C1
        refine wpIn_wide.1 (wp_range (n := 0) (gf := 42) (lb := #[.pointer (some ⟨wr.heap.size, 0, none⟩)]) rfl (enters_of Try.func42 (by kernel_rfl) rfl) (all1_grid wr.heap.size h u ch R C F) (fun _ => rfl)
          (fun _ W => Below w8.heap.size w8 W) (fun _ _ _ => False) (fun _ _ _ h k => h.trans k) (fun _ _ _ _ h _ => h)
          (fun _ W h => ⟨kcell (Kept0.ofBelow h) hbx, P8.out.copy.kept (Kept0.ofBelow h) (fun e => e) (fun e => e)⟩) (Below.refl _ _) ?_ ?_ ?_)
        · rintro l9 k W hl1 hl2 hk hW
          have hkW : Kept0 w8 W := Kept0.ofBelow hW
          have hsW9 := hkW.size
          unfold allArgs
          gi_wp2_with fail
          refine ⟨((Kept.refl _ W).alloc _).alloc _, fun W4 hk2 hb2 => ?_⟩
          have hlW : ¬ W.heap.size = l9 := by omega
          have hlW1 : ¬ W.heap.size + 1 = l9 := by omega
          have b0 : W4.cell? ⟨W.heap.size, 0, none⟩ = some (.int .i64 (rowOf C k : Int)) := (hk2.cell (by simp; omega) hlW).trans (by simp [go_sem])
          have b1 : W4.cell? ⟨W.heap.size, 1, none⟩ = some (.int .i64 (colOf C k : Int)) := (hk2.cell (by simp; omega) hlW).trans (by simp [go_sem])
          have xx : CelAt W4 (W.heap.size + 1) (F k) := by
            have := CelAt.new (W.alloc (.cells #[.int .i64 (rowOf C k : Int), .int .i64 (colOf C k : Int)] 26)) (F k) 44
            rw [World.size_alloc] at this
            exact this.kept hk2 hlW1
          have hbW : Below w8.heap.size w8 W4 := hW.trans ((((Below.refl _ W).alloc (by omega) _).alloc (by simp; omega) _).trans hb2)
          have hkW2 : Kept0 w8 W4 := Kept0.ofBelow hbW
          have P9 := P8.out.keep hkW2
          have z3 := P9.e0
          have hth := there_row_col hk hC1
          have hix : Hid (idx C (rowOf C k : Int) (colOf C k : Int) = k) := idx_row_col C k
          clear hk2 hb2 hkW hW
          gi_wp2_with fail
          refine round_call0 ((at_in g t cg R C FG _ _ _ P9.grid hth).mono ?_)
          rw [hix.out]
          rintro e W3 ⟨rfl, hk3⟩
          replace b0 := kcell hk3 b0
          replace b1 := kcell hk3 b1
          replace xx := xx.kept hk3 (fun e => e)
          have P10 := P9.keep hk3
          have z0 := P10.p0
          have z1 := P10.p1
          have z2 := P10.q0
          have z4 := P10.m0
          have z5 := P10.s0
          have z6 := P10.s1
          have hgood : Hid (∀ o, Kept (· < w8.heap.size) W4 (W3.alloc o) ∧ Below w8.heap.size w8 (W3.alloc o)) := fun o => ⟨Kept0.to (hk3.alloc o), Kept0.below ((hkW2.trans hk3).alloc o)⟩
          have hy9 := HG.out k hk
          obtain ⟨x0, x1, x2, x3⟩ := xx
          have l0 : W.heap.size < W3.heap.size := World.block_lt_of_cell? W3 _ b0
          have l1 : W.heap.size + 1 < W3.heap.size := World.block_lt_of_cell? W3 _ x0
          have l2 : w.heap.size + 1 + 1 + 1 < W3.heap.size := World.block_lt_of_cell? W3 _ z0
          have l3 : w.heap.size + 1 + 1 + 1 + 1 + 1 < W3.heap.size := World.block_lt_of_cell? W3 _ z2
          have l4 : w.heap.size + 1 + 1 + 1 + 1 < W3.heap.size := World.block_lt_of_cell? W3 _ z4
          have l5 : w.heap.size < W3.heap.size := World.block_lt_of_cell? W3 _ z5
          have hrb : rowOf C k < R := rowOf_lt hk
          have hcb : colOf C k < C := colOf_lt hC1
          clear P9 P10 hk3 hkW2 z3 hth HG HM
          generalize hxF : F k = x at *
          generalize hyF : FG k = y at *
          generalize hrw : (rowOf C k : Int) = rw0 at *
          generalize hcl : (colOf C k : Int) = cl0 at *
          have hrw1 : 0 ≤ rw0 ∧ rw0 < R := by omega
          have hcl1 : 0 ≤ cl0 ∧ cl0 < C := by omega
          obtain ⟨hrw1, hrw2⟩ := hrw1
          obtain ⟨hcl1, hcl2⟩ := hcl1
          clear hrb hcb hxF hyF hrw hcl
          by_cases g1 : r ≤ rw0
          · have e1 : decide (r ≤ rw0) = true := decide_eq_true g1
            by_cases g2 : (R : Int) ≤ rw0 + n
            · have e2 : decide ((R : Int) ≤ rw0 + n) = true := decide_eq_true g2
              rw [if_pos (by omega)] at hy9
              rw [hy9]
              clear hy9
              gi_wp2_with fail
              obtain ⟨W5, hW5⟩ : ∃ W5, W5 = W3.alloc (.cells #[.int .i32 dot.g, .int .i64 dot.a, .bool dot.b, .int .i64 dot.m] 44) := ⟨_, rfl⟩
              have k5 : Kept0 W3 W5 := by rw [hW5]; exact (Kept.refl _ W3).alloc _
              obtain ⟨y0, y1, y2, y3⟩ : CelAt W5 W3.heap.size dot := by rw [hW5]; exact CelAt.new W3 dot 44
              have hgd := Lib.hid (hgood.out (.cells #[.int .i32 dot.g, .int .i64 dot.a, .bool dot.b, .int .i64 dot.m] 44))
              rw [← hW5] at hgd ⊢
              replace x0 := kcell k5 x0
              replace x1 := kcell k5 x1
              replace x2 := kcell k5 x2
              replace x3 := kcell k5 x3
              clear hW5
              refine wpIn_boxed (fun w' => Kept0 W5 w') ((Kept.refl _ W5).drewN 1) (by kernel_rfl) (by kernel_rfl) (by kernel_rfl) (fun ⟨_, _, h⟩ => h) ?_
              refine boxed_op (.int .i64 0) (by kernel_rfl) (fun w' hw' => by go_simp) ?_
              simp only [Act.put, List.setIfInBounds_toArray, List.set_cons_zero, List.set_cons_succ]
              refine boxed_op (.bool false) (by kernel_rfl) (fun w' hw' => by go_simp) ?_
              simp only [Act.put, List.setIfInBounds_toArray, List.set_cons_zero, List.set_cons_succ]
              refine boxed_op (.bool false) (by kernel_rfl) (fun w' hw' => by go_simp) ?_
              simp only [Act.put, List.setIfInBounds_toArray, List.set_cons_zero, List.set_cons_succ]
              refine boxed_op (.bool true) (by kernel_rfl) (fun w' hw' => by go_simp) ?_
              simp only [Act.put, List.setIfInBounds_toArray, List.set_cons_zero, List.set_cons_succ]
              refine boxed_op (.bool false) (by kernel_rfl) (fun w' hw' => by go_simp) ?_
              simp only [Act.put, List.setIfInBounds_toArray, List.set_cons_zero, List.set_cons_succ]
              refine boxed_op (.bool false) (by kernel_rfl) (fun w' hw' => by go_simp) ?_
              simp only [Act.put, List.setIfInBounds_toArray, List.set_cons_zero, List.set_cons_succ]
              refine boxed_skip (by kernel_rfl) ?_
              simp only [Act.put, List.setIfInBounds_toArray, List.set_cons_zero, List.set_cons_succ]
              refine boxed_skip (by kernel_rfl) ?_
              simp only [Act.put, List.setIfInBounds_toArray, List.set_cons_zero, List.set_cons_succ]
              refine boxed_skip (by kernel_rfl) ?_
              simp only [Act.put, List.setIfInBounds_toArray, List.set_cons_zero, List.set_cons_succ]
              refine boxed_op (.bool false) (by kernel_rfl) (fun w' hw' => by go_simp) ?_
              simp only [Act.put, List.setIfInBounds_toArray, List.set_cons_zero, List.set_cons_succ]
              refine boxed_op (.bool false) (by kernel_rfl) (fun w' hw' => by go_simp) ?_
              simp only [Act.put, List.setIfInBounds_toArray, List.set_cons_zero, List.set_cons_succ]
              refine boxed_op (.bool false) (by kernel_rfl) (fun w' hw' => by go_simp) ?_
              simp only [Act.put, List.setIfInBounds_toArray, List.set_cons_zero, List.set_cons_succ]
              refine boxed_op (.bool true) (by kernel_rfl) (fun w' hw' => by go_simp) ?_
              simp only [Act.put, List.setIfInBounds_toArray, List.set_cons_zero, List.set_cons_succ]
              refine boxed_op (.bool true) (by kernel_rfl) (fun w' hw' => by go_simp) ?_
              simp only [Act.put, List.setIfInBounds_toArray, List.set_cons_zero, List.set_cons_succ]
              refine boxed_op (dot.v) (by kernel_rfl) (fun w' hw' => by have y := kcell hw' y0; have z := kcell hw' y1; have u := kcell hw' y2; have v := kcell hw' y3; go_simp) ?_
              simp only [Act.put, List.setIfInBounds_toArray, List.set_cons_zero, List.set_cons_succ]
              refine boxed_op (dot.v) (by kernel_rfl) (fun w' hw' => ?_) ?_
              · go_simp
                exact (HC.out w').mono fun e w5 ⟨h1, h2⟩ => ⟨h1, hw'.trans h2⟩
              simp only [Act.put, List.setIfInBounds_toArray, List.set_cons_zero, List.set_cons_succ]
              refine boxed_op (.bool false) (by kernel_rfl) (fun w' hw' => by have y := same_cel dot w'; go_simp) ?_
              simp only [Act.put, List.setIfInBounds_toArray, List.set_cons_zero, List.set_cons_succ]
              refine boxed_op (.bool false) (by kernel_rfl) (fun w' hw' => by go_simp) ?_
              simp only [Act.put, List.setIfInBounds_toArray, List.set_cons_zero, List.set_cons_succ]
              refine boxed_op (.bool false) (by kernel_rfl) (fun w' hw' => by go_simp) ?_
              simp only [Act.put, List.setIfInBounds_toArray, List.set_cons_zero, List.set_cons_succ]
              refine boxed_skip (by kernel_rfl) ?_
              simp only [Act.put, List.setIfInBounds_toArray, List.set_cons_zero, List.set_cons_succ]
              refine boxed_skip (by kernel_rfl) ?_
              simp only [Act.put, List.setIfInBounds_toArray, List.set_cons_zero, List.set_cons_succ]
              refine boxed_op (.bool false) (by kernel_rfl) (fun w' hw' => by go_simp) ?_
              simp only [Act.put, List.setIfInBounds_toArray, List.set_cons_zero, List.set_cons_succ]
              refine boxed_op (.bool false) (by kernel_rfl) (fun w' hw' => by go_simp) ?_
              simp only [Act.put, List.setIfInBounds_toArray, List.set_cons_zero, List.set_cons_succ]
              refine boxed_end ?_
              rintro W6 hk6
              gi_wp2_with fail
              exact ⟨hgd.out.1.trans (Kept0.to hk6), hgd.out.2.trans ((Kept0.below hk6).mono (by have := hgd.out.2.size; omega))⟩
            · have e2 : decide ((R : Int) ≤ rw0 + n) = false := decide_eq_false g2
              rw [if_neg (by omega)] at hy9
              rw [hy9]
              clear hy9
              gi_wp2_with fail
              obtain ⟨W5, hW5⟩ : ∃ W5, W5 = W3.alloc (.cells #[.int .i32 x.g, .int .i64 x.a, .bool x.b, .int .i64 x.m] 44) := ⟨_, rfl⟩
              have k5 : Kept0 W3 W5 := by rw [hW5]; exact (Kept.refl _ W3).alloc _
              obtain ⟨y0, y1, y2, y3⟩ : CelAt W5 W3.heap.size x := by rw [hW5]; exact CelAt.new W3 x 44
              have hgd := Lib.hid (hgood.out (.cells #[.int .i32 x.g, .int .i64 x.a, .bool x.b, .int .i64 x.m] 44))
              rw [← hW5] at hgd ⊢
              replace x0 := kcell k5 x0
              replace x1 := kcell k5 x1
              replace x2 := kcell k5 x2
              replace x3 := kcell k5 x3
              clear hW5
              refine wpIn_boxed (fun w' => Kept0 W5 w') ((Kept.refl _ W5).drewN 1) (by kernel_rfl) (by kernel_rfl) (by kernel_rfl) (fun ⟨_, _, h⟩ => h) ?_
              refine boxed_op (.int .i64 0) (by kernel_rfl) (fun w' hw' => by go_simp) ?_
              simp only [Act.put, List.setIfInBounds_toArray, List.set_cons_zero, List.set_cons_succ]
              refine boxed_op (.bool false) (by kernel_rfl) (fun w' hw' => by go_simp) ?_
              simp only [Act.put, List.setIfInBounds_toArray, List.set_cons_zero, List.set_cons_succ]
              refine boxed_op (.bool false) (by kernel_rfl) (fun w' hw' => by go_simp) ?_
              simp only [Act.put, List.setIfInBounds_toArray, List.set_cons_zero, List.set_cons_succ]
              refine boxed_op (.bool false) (by kernel_rfl) (fun w' hw' => by go_simp) ?_
              simp only [Act.put, List.setIfInBounds_toArray, List.set_cons_zero, List.set_cons_succ]
              refine boxed_op (.bool true) (by kernel_rfl) (fun w' hw' => by go_simp) ?_
              simp only [Act.put, List.setIfInBounds_toArray, List.set_cons_zero, List.set_cons_succ]
              refine boxed_op (.bool true) (by kernel_rfl) (fun w' hw' => by go_simp) ?_
              simp only [Act.put, List.setIfInBounds_toArray, List.set_cons_zero, List.set_cons_succ]
              refine boxed_op (x.v) (by kernel_rfl) (fun w' hw' => by have y := kcell hw' x0; have z := kcell hw' x1; have u := kcell hw' x2; have v := kcell hw' x3; go_simp) ?_
              simp only [Act.put, List.setIfInBounds_toArray, List.set_cons_zero, List.set_cons_succ]
              refine boxed_op (x.v) (by kernel_rfl) (fun w' hw' => by have y := kcell hw' y0; have z := kcell hw' y1; have u := kcell hw' y2; have v := kcell hw' y3; go_simp) ?_
              simp only [Act.put, List.setIfInBounds_toArray, List.set_cons_zero, List.set_cons_succ]
              refine boxed_op (.bool false) (by kernel_rfl) (fun w' hw' => by have y := same_cel x w'; go_simp) ?_
              simp only [Act.put, List.setIfInBounds_toArray, List.set_cons_zero, List.set_cons_succ]
              refine boxed_op (.bool false) (by kernel_rfl) (fun w' hw' => by go_simp) ?_
              simp only [Act.put, List.setIfInBounds_toArray, List.set_cons_zero, List.set_cons_succ]
              refine boxed_op (.bool false) (by kernel_rfl) (fun w' hw' => by go_simp) ?_
              simp only [Act.put, List.setIfInBounds_toArray, List.set_cons_zero, List.set_cons_succ]
              refine boxed_op (.bool false) (by kernel_rfl) (fun w' hw' => by go_simp) ?_
              simp only [Act.put, List.setIfInBounds_toArray, List.set_cons_zero, List.set_cons_succ]
              refine boxed_op (.bool false) (by kernel_rfl) (fun w' hw' => by go_simp) ?_
              simp only [Act.put, List.setIfInBounds_toArray, List.set_cons_zero, List.set_cons_succ]
              refine boxed_op (.bool false) (by kernel_rfl) (fun w' hw' => by go_simp) ?_
              simp only [Act.put, List.setIfInBounds_toArray, List.set_cons_zero, List.set_cons_succ]
              refine boxed_skip (by kernel_rfl) ?_
              simp only [Act.put, List.setIfInBounds_toArray, List.set_cons_zero, List.set_cons_succ]
              refine boxed_skip (by kernel_rfl) ?_
              simp only [Act.put, List.setIfInBounds_toArray, List.set_cons_zero, List.set_cons_succ]
              refine boxed_skip (by kernel_rfl) ?_
              simp only [Act.put, List.setIfInBounds_toArray, List.set_cons_zero, List.set_cons_succ]
              refine boxed_op (.bool false) (by kernel_rfl) (fun w' hw' => by go_simp) ?_
              simp only [Act.put, List.setIfInBounds_toArray, List.set_cons_zero, List.set_cons_succ]
              refine boxed_op (.bool false) (by kernel_rfl) (fun w' hw' => by go_simp) ?_
              simp only [Act.put, List.setIfInBounds_toArray, List.set_cons_zero, List.set_cons_succ]
              refine boxed_skip (by kernel_rfl) ?_
              simp only [Act.put, List.setIfInBounds_toArray, List.set_cons_zero, List.set_cons_succ]
              refine boxed_skip (by kernel_rfl) ?_
              simp only [Act.put, List.setIfInBounds_toArray, List.set_cons_zero, List.set_cons_succ]
              refine boxed_op (.bool false) (by kernel_rfl) (fun w' hw' => by go_simp) ?_
              simp only [Act.put, List.setIfInBounds_toArray, List.set_cons_zero, List.set_cons_succ]
              refine boxed_op (.bool false) (by kernel_rfl) (fun w' hw' => by go_simp) ?_
              simp only [Act.put, List.setIfInBounds_toArray, List.set_cons_zero, List.set_cons_succ]
              refine boxed_end ?_
              rintro W6 hk6
              gi_wp2_with fail
              exact ⟨hgd.out.1.trans (Kept0.to hk6), hgd.out.2.trans ((Kept0.below hk6).mono (by have := hgd.out.2.size; omega))⟩
          · have e1 : decide (r ≤ rw0) = false := decide_eq_false g1
            rw [if_neg (by omega)] at hy9
            rw [hy9]
            clear hy9
            gi_wp2_with fail
            obtain ⟨W5, hW5⟩ : ∃ W5, W5 = W3.alloc (.cells #[.int .i32 x.g, .int .i64 x.a, .bool x.b, .int .i64 x.m] 44) := ⟨_, rfl⟩
            have k5 : Kept0 W3 W5 := by rw [hW5]; exact (Kept.refl _ W3).alloc _
            obtain ⟨y0, y1, y2, y3⟩ : CelAt W5 W3.heap.size x := by rw [hW5]; exact CelAt.new W3 x 44
            have hgd := Lib.hid (hgood.out (.cells #[.int .i32 x.g, .int .i64 x.a, .bool x.b, .int .i64 x.m] 44))
            rw [← hW5] at hgd ⊢
            replace x0 := kcell k5 x0
            replace x1 := kcell k5 x1
            replace x2 := kcell k5 x2
            replace x3 := kcell k5 x3
            clear hW5
            refine wpIn_boxed (fun w' => Kept0 W5 w') ((Kept.refl _ W5).drewN 1) (by kernel_rfl) (by kernel_rfl) (by kernel_rfl) (fun ⟨_, _, h⟩ => h) ?_
            refine boxed_op (.int .i64 0) (by kernel_rfl) (fun w' hw' => by go_simp) ?_
            simp only [Act.put, List.setIfInBounds_toArray, List.set_cons_zero, List.set_cons_succ]
            refine boxed_op (.bool false) (by kernel_rfl) (fun w' hw' => by go_simp) ?_
            simp only [Act.put, List.setIfInBounds_toArray, List.set_cons_zero, List.set_cons_succ]
            refine boxed_op (.bool false) (by kernel_rfl) (fun w' hw' => by go_simp) ?_
            simp only [Act.put, List.setIfInBounds_toArray, List.set_cons_zero, List.set_cons_succ]
            refine boxed_op (.bool false) (by kernel_rfl) (fun w' hw' => by go_simp) ?_
            simp only [Act.put, List.setIfInBounds_toArray, List.set_cons_zero, List.set_cons_succ]
            refine boxed_op (.bool true) (by kernel_rfl) (fun w' hw' => by go_simp) ?_
            simp only [Act.put, List.setIfInBounds_toArray, List.set_cons_zero, List.set_cons_succ]
            refine boxed_op (.bool true) (by kernel_rfl) (fun w' hw' => by go_simp) ?_
            simp only [Act.put, List.setIfInBounds_toArray, List.set_cons_zero, List.set_cons_succ]
            refine boxed_op (x.v) (by kernel_rfl) (fun w' hw' => by have y := kcell hw' x0; have z := kcell hw' x1; have u := kcell hw' x2; have v := kcell hw' x3; go_simp) ?_
            simp only [Act.put, List.setIfInBounds_toArray, List.set_cons_zero, List.set_cons_succ]
            refine boxed_op (x.v) (by kernel_rfl) (fun w' hw' => by have y := kcell hw' y0; have z := kcell hw' y1; have u := kcell hw' y2; have v := kcell hw' y3; go_simp) ?_
            simp only [Act.put, List.setIfInBounds_toArray, List.set_cons_zero, List.set_cons_succ]
            refine boxed_op (.bool false) (by kernel_rfl) (fun w' hw' => by have y := same_cel x w'; go_simp) ?_
            simp only [Act.put, List.setIfInBounds_toArray, List.set_cons_zero, List.set_cons_succ]
            refine boxed_op (.bool false) (by kernel_rfl) (fun w' hw' => by go_simp) ?_
            simp only [Act.put, List.setIfInBounds_toArray, List.set_cons_zero, List.set_cons_succ]
            refine boxed_op (.bool false) (by kernel_rfl) (fun w' hw' => by go_simp) ?_
            simp only [Act.put, List.setIfInBounds_toArray, List.set_cons_zero, List.set_cons_succ]
            refine boxed_op (.bool false) (by kernel_rfl) (fun w' hw' => by go_simp) ?_
            simp only [Act.put, List.setIfInBounds_toArray, List.set_cons_zero, List.set_cons_succ]
            refine boxed_op (.bool false) (by kernel_rfl) (fun w' hw' => by go_simp) ?_
            simp only [Act.put, List.setIfInBounds_toArray, List.set_cons_zero, List.set_cons_succ]
            refine boxed_op (.bool false) (by kernel_rfl) (fun w' hw' => by go_simp) ?_
            simp only [Act.put, List.setIfInBounds_toArray, List.set_cons_zero, List.set_cons_succ]
            refine boxed_skip (by kernel_rfl) ?_
            simp only [Act.put, List.setIfInBounds_toArray, List.set_cons_zero, List.set_cons_succ]
            refine boxed_skip (by kernel_rfl) ?_
            simp only [Act.put, List.setIfInBounds_toArray, List.set_cons_zero, List.set_cons_succ]
            refine boxed_skip (by kernel_rfl) ?_
            simp only [Act.put, List.setIfInBounds_toArray, List.set_cons_zero, List.set_cons_succ]
            refine boxed_op (.bool false) (by kernel_rfl) (fun w' hw' => by go_simp) ?_
            simp only [Act.put, List.setIfInBounds_toArray, List.set_cons_zero, List.set_cons_succ]
            refine boxed_op (.bool false) (by kernel_rfl) (fun w' hw' => by go_simp) ?_
            simp only [Act.put, List.setIfInBounds_toArray, List.set_cons_zero, List.set_cons_succ]
            refine boxed_skip (by kernel_rfl) ?_
            simp only [Act.put, List.setIfInBounds_toArray, List.set_cons_zero, List.set_cons_succ]
            refine boxed_skip (by kernel_rfl) ?_
            simp only [Act.put, List.setIfInBounds_toArray, List.set_cons_zero, List.set_cons_succ]
            refine boxed_op (.bool false) (by kernel_rfl) (fun w' hw' => by go_simp) ?_
            simp only [Act.put, List.setIfInBounds_toArray, List.set_cons_zero, List.set_cons_succ]
            refine boxed_op (.bool false) (by kernel_rfl) (fun w' hw' => by go_simp) ?_
            simp only [Act.put, List.setIfInBounds_toArray, List.set_cons_zero, List.set_cons_succ]
            refine boxed_end ?_
            rintro W6 hk6
            gi_wp2_with fail
            exact ⟨hgd.out.1.trans (Kept0.to hk6), hgd.out.2.trans ((Kept0.below hk6).mono (by have := hgd.out.2.size; omega))⟩
        · intro D W hD hW hDc
          have hkW : Kept0 w8 W := Kept0.ofBelow hW
          have P9 := P8.out.keep hkW
          have HD := Lib.hid hDc
          clear hDc hW
          go_wp2_with fail
          refine (awake_any _).mono ?_
          rintro e W3 ⟨rfl, hk3⟩
          have P10 := P9.keep hk3
          have b1 := P10.v0.c
          have b2 := P10.v0.f
          have hB4 := (P10.v0.set true).c
          have hv8 : w.heap.size + 1 + 1 < w8.heap.size := P8.out.v0.lt
          go_wp2_with fail
          have hk4 : Kept0 w (W3.setCell ⟨w.heap.size + 1 + 1, 0, none⟩ (.bool true)) := P10.kept.setCell _ (Or.inl (by simp; omega)) _
          have hDl : D < W.heap.size := (Array.getElem?_eq_some_iff.1 HD.out).1
          have hD4 : (W3.setCell ⟨w.heap.size + 1 + 1, 0, none⟩ (.bool true)).heap[D]? = some (.deferred (some [])) :=
            (Below.heap_setCell _ _ _ _ (by simp; omega)).trans ((hk3.block D hDl (fun e => e)).trans HD.out)
          refine ⟨by simp, .inl ⟨_, _, rfl, run_takeDeferred hD4, ?_⟩⟩
          have hB5 : ((W3.setCell ⟨w.heap.size + 1 + 1, 0, none⟩ (.bool true)).putObj D (.deferred none)).cell? ⟨w.heap.size + 1 + 1, 0, none⟩ = some (.bool true) :=
            (World.cell?_of_block (World.putObj_heap_other (by simp; omega))).trans hB4
          refine ⟨.bool true, by simp [results, Try.results6, go_sem, hB5], rfl, ?_⟩
          exact (Kept0.below hk4).trans (below_putObj _ (by omega))
        · intro D c k W _ _ h
          exact h.elim
end Go.Proofs.Ytljfbocjnpnaiaa
