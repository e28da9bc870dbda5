/-
  What Same of two grids of cells does, where they have the same cells: alike, which defers a recover and ranges over All.
-/
import Derived.Test.YtkdnjkcebfckiaaAllC
import Derived.Test.YtkdnjkcebfckiaaSame
import Derived.Test.YtkdnjkcebfckiaaQuietR
import Derived.Defers
import Derived.Recover
import Derived.RecoverIn
import Derived.Stop.RegionWithIn
namespace Go.Proofs.Ytkdnjkcebfckiaa
open Go.RowKit

attribute [local go_sem] Oper.semAt_some

theorem BoolAt.below {w w' : World} {b B : Nat} {v : Bool} (h : BoolAt w b v) (k : Below B w w') (hs : b < B) : BoolAt w' b v :=
  ⟨(k.cell (p := ⟨b, 0, none⟩) hs).trans h.c, (k.frozen (p := ⟨b, 0, none⟩) hs).trans h.f⟩

/-- The deferred closure, where the frame returns: nothing is recovered. -/
theorem caught_idle (n : Nat) (p : Addr) (w : World) :
    CallsDIn Fence.wide n Try.prog 62 #[.pointer (some p)] .returning w fun e u' w' => e = .returned (.tuple #[]) ∧ u' = .returning ∧ w' = w := by
  refine callsDIn_of_wpSIn Try.func62 rfl trivial fun c₀ cs hu => ?_
  apply wpSIn_seq
  apply wpSIn_region
  simp [wpOpsSIn, go_sem, recoverD, hu, Try.ntmps62, Exit.thenS]
  refine wpSIn_cond (t := false) (by simp [Act.eval, Array.replicate]) ?_
  simp only [Bool.false_eq_true, if_false]
  refine wpSIn_of_wpIn rfl (wpIn_skip ?_)
  cases c₀
  simp_all [bodyPostS, results, Try.results62]

/-- ONE WALK IN THE ORDER OF THE TEXT, IN A ROUND, WHERE A CALLEE MAY MAKE MEMORY. -/
theorem wpIn_round_calm {P : Program} {n l id : Nat} {Q : Exit → Act → World → Prop} {a : Act} {w : World} {ops : List Oper} (C : World → Prop) (hC : C w.drew) (hd : noDefer ops = true) (hm : P.follows .mixedOrders = true) (hB : Region.lexB .any ops.toArray = true) (hQ : ¬ LetsOut Q)
    (h : wpQuiet P ops.toArray C (fun a' => ∀ w', C w' → Q .normal a' w') ops a) : (Code.region id ops.toArray true).wpIn (Fence.wide.inRound l) n P Q a w := by
  simp only [Region.lexB, Bool.and_eq_true] at hB
  refine wpIn_region_any hm (wpAnyIn_round hd hQ _ _ _ _ (wpAny_of_quiet (C := C) (Q := fun a' => ∀ w', C w' → Q .normal a' w') (fun _ w' hw' h => h w' hw') _ _ _ _ hC ?_))
  have := wpAnyQ_lex (C := C) (md := .any) hB.1 ops 0 (Array.replicate ops.toArray.size false) a (by simp) (by simpa using hB.2) (by simpa using h)
  simpa using this

/-- The same, outside a round. -/
theorem wp_calm {P : Program} {id : Nat} {Q : Exit → Act → World → Prop} {a : Act} {w : World} {ops : List Oper} (C : World → Prop) (hC : C w.drew) (hm : P.follows .mixedOrders = true) (hB : Region.lexB .any ops.toArray = true)
    (h : wpQuiet P ops.toArray C (fun a' => ∀ w', C w' → Q .normal a' w') ops a) : (Code.region id ops.toArray true).wp P Q a w := by
  simp only [Region.lexB, Bool.and_eq_true] at hB
  refine wp_region_any hm (wpAny_of_quiet (C := C) (Q := fun a' => ∀ w', C w' → Q .normal a' w') (fun _ w' hw' h => h w' hw') _ _ _ _ hC ?_)
  have := wpAnyQ_lex (C := C) (md := .any) hB.1 ops 0 (Array.replicate ops.toArray.size false) a (by simp) (by simpa using hB.2) (by simpa using h)
  simpa using this

/-- One operation: its value, and why it is that in every world. -/
theorem calm_op {P : Program} {ops : Array Oper} {C : World → Prop} {Q : Act → Prop} {a : Act} {o : Oper} {rest : List Oper} (v : Value) (hw : Region.wanted o (yielded ops a.tmps) = true)
    (h : ∀ w, C w → o.quietAt P a C w v) (hk : wpQuiet P ops C Q rest (a.put o.dst v)) : wpQuiet P ops C Q (o :: rest) a :=
  wpQuiet_step fun K hK => by rw [if_pos hw]; exact ⟨v, h, hK _ hk⟩

set_option maxRecDepth 100000 in
set_option maxHeartbeats 4000000 in
theorem alike_any (w : World) (g tg capg h th caph R C : Nat) (f : Nat → Cel) (hG : GridAt w g tg capg R C f) (hH : GridAt w h th caph R C f) :
    Calls Try.prog 52 #[.pointer (some ⟨g, 0, none⟩), .pointer (some ⟨h, 0, none⟩)] w fun e w' => e = .returned (.bool true) ∧ Kept0 w w' := by
  have hgl := hG.lt
  have hhl := hH.lt
  have htgl := hG.row.lt
  have hthl := hH.row.lt
  have hR2 := hG.R2
  have hC1 := hG.C1
  have hC2 := hG.C2
  have hmf : ∀ (fn : Fn) (first cap : Array Value) (w : World), (Instr.makeFunc fn first cap).run Try.prog w = .ok (.func fn first cap) w := fun _ _ _ _ => rfl
  refine calls_marks Try.func52 rfl ?_
  simp only [Try.ntmps52, List.size_toArray, List.length_cons, List.length_nil, Nat.reduceAdd, Nat.reduceSub, Array.replicate_succ, Array.replicate_zero, List.push_toArray, List.append_toArray, List.nil_append, List.cons_append]
  go_wp2_with fail
  obtain ⟨w1, hw1⟩ : ∃ w1, w1 = (w.alloc (.cells #[.pointer (some ⟨h, 0, none⟩)] 31)).alloc (.cells #[.bool false] 4) := ⟨_, rfl⟩
  have hk1 : Kept0 w w1 := by rw [hw1]; exact ((Kept.refl _ w).alloc _).alloc _
  have hrb : w1.cell? ⟨w.heap.size, 0, none⟩ = some (.pointer (some ⟨h, 0, none⟩)) := by rw [hw1]; simp [go_sem]
  have hB1 : BoolAt w1 (w.heap.size + 1) false := by rw [hw1]; exact BoolAt.of (heap_new2 w _ _)
  have hs1 : w.heap.size + 2 = w1.heap.size := by rw [hw1]; simp
  rw [← hw1]
  clear hw1
  refine (all_any _ _).mono ?_
  rintro e w9 ⟨rfl, rfl⟩
  go_wp2_with fail
  obtain ⟨w6, hw6⟩ : ∃ w6, w6 = w1.alloc (.cells #[.pointer (some ⟨g, 0, none⟩)] 31) := ⟨_, rfl⟩
  have hbx : w6.cell? ⟨w1.heap.size, 0, none⟩ = some (.pointer (some ⟨g, 0, none⟩)) := by rw [hw6]; simp [go_sem]
  have hk6 : Kept0 w1 w6 := by rw [hw6]; exact (Kept.refl _ w1).alloc _
  have hs6 : w1.heap.size + 1 = w6.heap.size := by rw [hw6]; simp
  rw [← hw6]
  clear hw6
  have k06 : Kept0 w w6 := hk1.trans hk6
  have y6 := kcell hk6 hrb
  have hG6 := hG.kept k06 (fun e => e) (fun e => e)
  have hH6 := hH.kept k06 (fun e => e) (fun e => e)
  have hB6 := hB1.kept hk6 (fun e => e)
  refine wpIn_wide.1 (wp_range (n := 0) (gf := 49) (lb := #[.pointer (some ⟨w1.heap.size, 0, none⟩)]) rfl (enters_of Try.func49 (by kernel_rfl) rfl) (all1_grid w1.heap.size g tg capg R C f) (fun _ => rfl)
    (fun _ W => BoolAt W (w.heap.size + 1) false ∧ Kept (· = w.heap.size + 1) w6 W)
    (fun _ _ _ => False)
    (fun _ _ _ h b => ⟨h.1.below b (by omega), h.2.thenBelow b (Nat.le_refl _)⟩)
    (fun _ _ _ _ h _ => h)
    (fun _ W h => ⟨(h.2.cell (by omega) (by omega)).trans hbx, hG6.kept h.2 (by omega) (by omega)⟩)
    ⟨hB6, Kept.refl _ _⟩ ?_ ?_ ?_)
  · rintro l9 k W hl1 hl2 hk ⟨hI1, hI2⟩
    have hsW := hI2.size
    have hRC : R * C ≤ 65025 := Nat.mul_le_mul hR2 hC2
    unfold allArgs
    gi_wp2_with fail
    refine ⟨((Kept.refl _ W).alloc _).alloc _, fun W2 hk2 hb2 => ?_⟩
    have hlW : ¬ W.heap.size = l9 := by omega
    have hlW1 : ¬ W.heap.size + 1 = l9 := by omega
    have b0 : W2.cell? ⟨W.heap.size, 0, none⟩ = some (.int .i64 (rowOf C k : Int)) := (hk2.cell (by simp; omega) hlW).trans (by simp [go_sem])
    have b1 : W2.cell? ⟨W.heap.size, 1, none⟩ = some (.int .i64 (colOf C k : Int)) := (hk2.cell (by simp; omega) hlW).trans (by simp [go_sem])
    have xx : CelAt W2 (W.heap.size + 1) (f k) := by
      have := CelAt.new (W.alloc (.cells #[.int .i64 (rowOf C k : Int), .int .i64 (colOf C k : Int)] 26)) (f k) 36
      rw [World.size_alloc] at this
      exact this.kept hk2 hlW1
    obtain ⟨x0, x1, x2, x3⟩ := xx
    have hbW : Below w6.heap.size W W2 := (((Below.refl _ W).alloc (by omega) _).alloc (by simp; omega) _).trans hb2
    have hI1' := hI1.below hbW (by omega)
    have hI2' := hI2.thenBelow hbW (Nat.le_refl _)
    have hHW := hH6.kept hI2' (by omega) (by omega)
    have y9 := (hI2'.cell (b := w.heap.size) (o := 0) (by omega) (by omega)).trans y6
    have r1 := hHW.c1
    have r2 := hHW.c2
    obtain ⟨r30, r31, r32, r33⟩ := hHW.row.cell hk
    have hth := there_row_col hk hC1
    have hsW2 := hI2'.size
    have hrow0 : rowOf C k ≤ 255 := by have := hth.2.1; omega
    have hcol0 : colOf C k ≤ 255 := by have := hth.2.2.2; omega
    have hidx : idx C (rowOf C k : Int) (colOf C k : Int) = k := idx_row_col C k
    obtain ⟨N, hN⟩ : ∃ N, N = R * C := ⟨_, rfl⟩
    rw [← hN] at r2 hk hRC
    have d1 : decide (N ≤ k) = false := by simp; omega
    have HN := Lib.hid hN
    clear hk2 hb2 hbW hth hN
    gi_wp2_with fail
    refine wpIn_round_calm (fun w' => Kept0 W2 w') ((Kept.refl _ W2).drewN 1) (by kernel_rfl) (by kernel_rfl) (by kernel_rfl) (fun ⟨_, _, h⟩ => h) ?_
    refine calm_op ((f k).v) (by kernel_rfl) (fun w' hw' => by have y := kcell hw' x0; have z := kcell hw' x1; have u := kcell hw' x2; have v := kcell hw' x3; go_simp) ?_
    simp only [Act.put, List.setIfInBounds_toArray, List.set_cons_zero, List.set_cons_succ]
    refine calm_op (.pointer (some ⟨h, 0, none⟩)) (by kernel_rfl) (fun w' hw' => by have y := kcell hw' y9; go_simp) ?_
    simp only [Act.put, List.setIfInBounds_toArray, List.set_cons_zero, List.set_cons_succ]
    refine calm_op (.pointer (some ⟨h, 0, none⟩)) (by kernel_rfl) (fun w' hw' => by go_simp) ?_
    simp only [Act.put, List.setIfInBounds_toArray, List.set_cons_zero, List.set_cons_succ]
    refine calm_op (.pointer (some ⟨h, 2, none⟩)) (by kernel_rfl) (fun w' hw' => by go_simp) ?_
    simp only [Act.put, List.setIfInBounds_toArray, List.set_cons_zero, List.set_cons_succ]
    refine calm_op (.slice (some ⟨th, 0, none⟩) N caph) (by kernel_rfl) (fun w' hw' => by have y := kcell hw' r2; go_simp) ?_
    simp only [Act.put, List.setIfInBounds_toArray, List.set_cons_zero, List.set_cons_succ]
    refine calm_op (.pointer (some ⟨h, 0, none⟩)) (by kernel_rfl) (fun w' hw' => by have y := kcell hw' y9; go_simp) ?_
    simp only [Act.put, List.setIfInBounds_toArray, List.set_cons_zero, List.set_cons_succ]
    refine calm_op (.agg #[.int .i64 (rowOf C k : Int), .int .i64 (colOf C k : Int)]) (by kernel_rfl) (fun w' hw' => by have y := kcell hw' b0; have z := kcell hw' b1; go_simp) ?_
    simp only [Act.put, List.setIfInBounds_toArray, List.set_cons_zero, List.set_cons_succ]
    refine calm_op (.int .i64 (k : Int)) (by kernel_rfl) (fun w' hw' => ?_) ?_
    · have y := kcell hw' r1
      have hix := index_any h (rowOf C k : Int) (colOf C k : Int) C w' y (by omega) (by omega) (by omega) (by omega) hC2
      rw [hidx] at hix
      go_simp
      exact hix.mono fun e w5 ⟨h1, h2⟩ => ⟨h1, hw'.trans h2⟩
    simp only [Act.put, List.setIfInBounds_toArray, List.set_cons_zero, List.set_cons_succ]
    refine calm_op (.pointer (some ⟨th, k * 4, none⟩)) (by kernel_rfl) (fun w' hw' => by go_simp) ?_
    simp only [Act.put, List.setIfInBounds_toArray, List.set_cons_zero, List.set_cons_succ]
    refine calm_op ((f k).v) (by kernel_rfl) (fun w' hw' => by have y := kcell hw' r30; have z := kcell hw' r31; have u := kcell hw' r32; have v := kcell hw' r33; go_simp) ?_
    simp only [Act.put, List.setIfInBounds_toArray, List.set_cons_zero, List.set_cons_succ]
    refine calm_op (.bool false) (by kernel_rfl) (fun w' hw' => by have y := same_cel (f k) w'; go_simp) ?_
    simp only [Act.put, List.setIfInBounds_toArray, List.set_cons_zero, List.set_cons_succ]
    refine wpQuiet_nil ?_
    rintro W5 hk5
    have hI1f := hI1'.kept hk5 (fun e => e)
    have hI2f : Kept (· = w.heap.size + 1) w6 W5 := hI2'.later hk5 (fun _ _ e => e.elim)
    gi_wp2_with fail
    exact ⟨hk5.to, hI1f, hI2f⟩
  · rintro D W hD ⟨hI1, hI2⟩ hDc
    have b1 := hI1.c
    have b2 := hI1.f
    have HD := Lib.hid hDc
    clear hDc
    go_wp2_with fail
    have k0W : Kept0 w W := k06.later hI2 (fun i hi e => by omega)
    have hB4 := (hI1.set true).c
    have hk4 : Kept0 w (W.setCell ⟨w.heap.size + 1, 0, none⟩ (.bool true)) := k0W.setCell _ (Or.inl (by simp)) _
    have hDl : D < W.heap.size := (Array.getElem?_eq_some_iff.1 HD.out).1
    have hD4 : (W.setCell ⟨w.heap.size + 1, 0, none⟩ (.bool true)).heap[D]? = some (.deferred (some [])) :=
      (Below.heap_setCell _ _ _ _ (by simp; omega)).trans HD.out
    have hB5 : ((W.setCell ⟨w.heap.size + 1, 0, none⟩ (.bool true)).putObj D (.deferred none)).cell? ⟨w.heap.size + 1, 0, none⟩ = some (.bool true) :=
      (World.cell?_of_block (World.putObj_heap_other (by simp; omega))).trans hB4
    refine ⟨by simp, .inl ⟨_, _, rfl, run_takeDeferred hD4, ?_⟩⟩
    refine ⟨by simp, .inr ⟨fun h => by simp [Fence.wide] at h, _, _, 62, #[.pointer (some ⟨w.heap.size + 1, 0, none⟩)], rfl, by simp [invoke, go_sem], fun _ _ => trivial, (caught_idle _ _ _).mono ?_⟩⟩
    rintro e u' w'' ⟨rfl, rfl, rfl⟩
    exact ⟨.bool true, by simp [results, Try.results52, go_sem, hB5], rfl, hk4.thenBelow (below_putObj _ hD) (by omega)⟩
  · rintro D c k W hD hk h
    exact h.elim

/-- Same of two grids of the same cells. -/
theorem sameG_any (w : World) (g tg capg h th caph R C : Nat) (f : Nat → Cel) (hG : GridAt w g tg capg R C f) (hH : GridAt w h th caph R C f) :
    Calls Try.prog 29 #[.pointer (some ⟨g, 0, none⟩), .pointer (some ⟨h, 0, none⟩)] w fun e w' => e = .returned (.bool true) ∧ Kept0 w w' := by
  go_enter Try.func29, Try.ntmps29
  go_wp2
  have g0 := hG.c0
  have g1 := hG.c1
  have h0 := hH.c0
  have h1 := hH.c1
  go_region_held3 (fun w' => w'.cell? ⟨g, 0, none⟩ = some (.int .i64 R) ∧ w'.cell? ⟨g, 1, none⟩ = some (.int .i64 C) ∧ w'.cell? ⟨h, 0, none⟩ = some (.int .i64 R) ∧ w'.cell? ⟨h, 1, none⟩ = some (.int .i64 C)) (go_keep)
    (first
      | (go_at_call 52; refine (alike_any w.drew g tg capg h th caph R C f (hG.kept ((Kept.refl (fun _ => False) w).drew) (fun e => e) (fun e => e)) (hH.kept ((Kept.refl (fun _ => False) w).drew) (fun e => e) (fun e => e))).mono ?_; rintro e w2 ⟨rfl, h4⟩; have k4 : Kept0 w w2 := (Kept.refl (fun _ => False) w).drew.trans h4; have z0 := kcell k4 g0; have z1 := kcell k4 g1; have z2 := kcell k4 h0; have z3 := kcell k4 h1))
  all_goals
    go_wp2
    go_ret
    exact ⟨rfl, k4⟩
end Go.Proofs.Ytkdnjkcebfckiaa
