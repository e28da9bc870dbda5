/-
  GridSets returns true: what was set is there, and nothing else is turned.
-/
import Derived.Test.YtekjjnfbahmjcaaSameG
namespace Go.Proofs.Ytekjjnfbahmjcaa
open Go.RowKit

attribute [local go_sem] Oper.semAt_some

theorem idx_div {R C : Nat} {r c : Int} (h : There R C r c) : idx C r c / C = r.toNat ∧ idx C r c % C = c.toNat := by
  obtain ⟨h1, h2, h3, h4⟩ := h
  have hc : c.toNat < C := by omega
  unfold idx
  constructor
  · rw [Nat.mul_comm, Nat.mul_add_div (by omega), Nat.div_eq_of_lt hc]; rfl
  · rw [Nat.mul_comm, Nat.mul_add_mod, Nat.mod_eq_of_lt hc]
theorem rowOf_idx {R C : Nat} {r c : Int} (h : There R C r c) : rowOf C (idx C r c) = r.toNat := (idx_div h).1
theorem colOf_idx {R C : Nat} {r c : Int} (h : There R C r c) : colOf C (idx C r c) = c.toNat := (idx_div h).2

theorem sameF_refl (f : Nat → Int) (N : Nat) : sameF f f N = true := by simp [sameF]

set_option maxRecDepth 100000 in
set_option maxHeartbeats 4000000 in
theorem sets_calls (a : Option Addr) (cap : Nat) (l : List OpV) (r c x : Int) (w : World) (h : OpsIn w a l) (hok : OpsOk l) (hn : l.length ≤ 9223372036854775807) :
    Calls Try.prog 5 #[.slice a l.length cap, .agg #[.int .i64 r, .int .i64 c], .int .i64 x] w fun e w' => e = .returned (.bool true) ∧ Below w.heap.size w w' := by
  obtain ⟨n, hnl⟩ : ∃ n, n = l.length := ⟨_, rfl⟩
  rw [← hnl]
  have HN := Lib.hid hnl
  clear hnl
  refine calls_marks Try.func5 rfl ?_
  simp only [Try.ntmps5, List.size_toArray, List.length_cons, List.length_nil, Nat.reduceAdd, Nat.reduceSub, Array.replicate_succ, Array.replicate_zero, List.push_toArray, List.append_toArray, List.nil_append, List.cons_append]
  go_wp2_with fail
  obtain ⟨w1, hw1⟩ : ∃ w1, w1 = ((w.alloc (.cells #[.int .i64 r, .int .i64 c] 39)).alloc (.cells #[.int .i64 x] 3)).alloc (.cells #[.bool false] 4) := ⟨_, rfl⟩
  have hk1 : Kept0 w w1 := by rw [hw1]; exact (((Kept.refl _ w).alloc _).alloc _).alloc _
  have hh0 : w1.heap[w.heap.size]? = some (.cells #[.int .i64 r, .int .i64 c] 39 (0, 0)) := by
    rw [hw1]; exact (Below.heap_alloc _ _ _ (by simp; omega)).trans ((Below.heap_alloc _ _ _ (by simp)).trans (heap_new w _))
  have hh1 : w1.heap[w.heap.size + 1]? = some (.cells #[.int .i64 x] 3 (0, 0)) := by
    rw [hw1]; exact (Below.heap_alloc _ _ _ (by simp)).trans (heap_new2 w _ _)
  have hh2 : w1.heap[w.heap.size + 2]? = some (.cells #[.bool false] 4 (0, 0)) := by
    rw [hw1]; exact heap_new3 w _ _ _
  have hs1 : w.heap.size + 3 = w1.heap.size := by rw [hw1]; simp
  rw [← hw1]
  clear hw1
  rw [HN.out]
  refine (few_opt a cap l _ (h.kept hk1) hn).mono ?_
  rw [← HN.out]
  have hB1 := BoolAt.of hh2
  clear hh2
  cases hf : fewB l with
  | false =>
    clear hf
    rintro e w2 ⟨rfl, hk2⟩
    go_wp2_with fail
    refine (awake_any _).mono ?_
    rintro e w3 ⟨rfl, hk3⟩
    have hB3 := (hB1.kept hk2 (fun e => e)).kept hk3 (fun e => e)
    have b1 := hB3.c
    have b2 := hB3.f
    go_wp2_with fail
    have hB4 := (hB3.set true).c
    refine ⟨.bool true, by simp [results, Try.results5, go_sem, hB4], rfl, ?_⟩
    exact Kept0.below (((hk1.trans hk2).trans hk3).setCell _ (Or.inl (by simp; omega)) _)
  | true =>
    clear hf
    rintro e w2 ⟨rfl, hk2⟩
    have hk12 := hk1.trans hk2
    go_wp2_with fail
    rw [HN.out]
    refine (begun_opt a cap l _ (h.kept hk12) hok hn).mono ?_
    rw [← HN.out]
    clear h hok hn
    rintro e w3 ⟨g, rr, rfl, ⟨tg, tr, R, C, f, ⟨⟨capg, hG⟩, _, _, _, _, _⟩, hg3, htg3, _, _⟩, hk3⟩
    have htg3' := hG.row.lt
    have hg3' := hG.lt
    go_wp2_with fail
    refine (copy_any g tg capg R C f _ hG).mono ?_
    rintro e w4 ⟨gc, tc, capc, rfl, hgc, htc, hGc, hk4⟩
    replace hG := hG.kept hk4 (fun e => e) (fun e => e)
    have hk14 : Kept0 w1 w4 := (hk2.trans hk3).trans hk4
    have hk04 : Kept0 w w4 := hk1.trans hk14
    have p0 : w4.cell? ⟨w.heap.size, 0, none⟩ = some (.int .i64 r) := kcell hk14 (by simp [World.cell?, hh0])
    have p1 : w4.cell? ⟨w.heap.size, 1, none⟩ = some (.int .i64 c) := kcell hk14 (by simp [World.cell?, hh0])
    have p4 : w4.cell? ⟨w.heap.size + 1, 0, none⟩ = some (.int .i64 x) := kcell hk14 (by simp [World.cell?, hh1])
    have hB4 := hB1.kept hk14 (fun e => e)
    have s4 : w1.heap.size ≤ w4.heap.size := hk14.size
    have s5 : w2.heap.size ≤ w3.heap.size := hk3.size
    have s6 : w1.heap.size ≤ w2.heap.size := hk2.size
    have s7 : w.heap.size < w4.heap.size := by omega
    have s8 : w.heap.size + 1 < w4.heap.size := by omega
    clear hk2 hk3 hk4 hk12 hk14 hh0 hh1 hB1 hk1
    go_wp2_with fail
    obtain ⟨w5, hw5⟩ : ∃ w5, w5 = w4.alloc (.cells #[.pointer (some ⟨gc, 0, none⟩)] 28) := ⟨_, rfl⟩
    have q0 : w5.cell? ⟨w4.heap.size, 0, none⟩ = some (.pointer (some ⟨gc, 0, none⟩)) := by rw [hw5]; simp [go_sem]
    have hk45 : Kept0 w4 w5 := by rw [hw5]; exact (Kept.refl _ w4).alloc _
    have hs5 : w4.heap.size + 1 = w5.heap.size := by rw [hw5]; simp
    rw [← hw5]
    clear hw5
    have hgl := hG.lt
    have htgl := hG.row.lt
    have hgcl := hGc.lt
    have htcl := hGc.row.lt
    have hgc' : w3.heap.size ≤ gc := hgc
    refine (set_u g tg capg R C f _ _ _ _ (hG.kept hk45 (fun e => e) (fun e => e))).mono ?_
    rintro e w6 ⟨rfl, hG6, hk6⟩
    have hC1 := hG.C1
    generalize hE : setE R C r c = E at *
    have HE := Lib.hid hE
    clear hE
    go_wp2_with fail
    refine (size_any g R C _ hG6.c0 hG6.c1).mono ?_
    rintro e w7 ⟨rfl, hk7⟩
    have t0 : ¬ w4.heap.size = tg := by omega
    have t1 : ¬ w.heap.size = tg := by omega
    have t3 : ¬ w.heap.size + 1 = tg := by omega
    have hk57 : Kept (· = tg) w5 w7 := hk6.later hk7 (fun _ _ e => e.elim)
    replace q0 := (hk57.cell (World.block_lt_of_cell? w5 _ q0) t0).trans q0
    replace p0 := (hk57.cell (World.block_lt_of_cell? w5 _ (kcell hk45 p0)) t1).trans (kcell hk45 p0)
    replace p1 := (hk57.cell (World.block_lt_of_cell? w5 _ (kcell hk45 p1)) t1).trans (kcell hk45 p1)
    replace p4 := (hk57.cell (World.block_lt_of_cell? w5 _ (kcell hk45 p4)) t3).trans (kcell hk45 p4)
    replace hGc := (hGc.kept hk45 (fun e => e) (fun e => e)).kept hk57 (by omega) (by omega)
    have hB7 := (hB4.kept hk45 (fun e => e)).kept hk57 (by omega)
    have hk07 : Kept0 w w7 := (hk04.trans hk45).later hk57 (fun i hi e => by omega)
    have hG7 := hG6.kept hk7 (fun e => e) (fun e => e)
    have hs7 := hk57.size
    have u0 : w.heap.size < w7.heap.size := by omega
    have u1 : w.heap.size + 1 < w7.heap.size := by omega
    have u2 : w4.heap.size < w7.heap.size := by omega
    have hk78 : Kept0 w7 (w7.alloc (.cells #[.int .i64 R, .int .i64 C] 23)) := (Kept.refl _ w7).alloc _
    clear hk45 hk6 hk7 hk57 hB4 hk04 hG hG6 t0 t1 t3
    cases hth0 : thereB R C r c with
    | false =>
      have hth := there_not hth0
      have hE' : E = 11 := by rw [← HE.out]; simp [setE, hth0]
      have hg' : setG f R C r c x = f := by simp [setG, hth0]
      rw [hg'] at hG7
      subst hE'
      clear hth0 hg'
      have hcase : (r < 0) ∨ (0 ≤ r ∧ (R : Int) ≤ r) ∨ (0 ≤ r ∧ r < R ∧ c < 0) ∨ (0 ≤ r ∧ r < R ∧ 0 ≤ c ∧ decide (c < (C : Int)) = false) := by
        unfold There at hth; simp only [decide_eq_false_iff_not]; omega
      clear hth
      rcases hcase with i1 | ⟨i1, i2⟩ | ⟨i1, i2, i3⟩ | ⟨i1, i2, i3, i4⟩
      all_goals
        go_wp2_with fail
        refine (sameG_any _ g tg capg gc tc capc R C f f (hG7.kept hk78 (fun e => e) (fun e => e)) (hGc.kept hk78 (fun e => e) (fun e => e))).mono ?_
        rw [sameF_refl]
        rintro e w9 ⟨rfl, hk9⟩
        go_wp2_with fail
        refine (awake_any _).mono ?_
        rintro e W3 ⟨rfl, hk3⟩
        have hB3 := ((hB7.kept hk78 (fun e => e)).kept hk9 (fun e => e)).kept hk3 (fun e => e)
        have b1 := hB3.c
        have b2 := hB3.f
        have hB4 := (hB3.set true).c
        go_wp2_with fail
        refine ⟨.bool true, by simp [results, Try.results5, go_sem, hB4], rfl, ?_⟩
        exact Kept0.below ((((hk07.trans hk78).trans hk9).trans hk3).setCell _ (Or.inl (by simp; omega)) _)
    | true =>
      have hth := there_of hth0
      have hE' : E = 0 := by rw [← HE.out]; simp [setE, hth0]
      have hg' : setG f R C r c x = upd f (idx C r c) x := by simp [setG, hth0]
      rw [hg'] at hG7
      subst hE'
      clear hth0 hg'
      have HTH := Lib.hid hth
      obtain ⟨i1, i2, i3, i4⟩ := hth
      go_wp2_with fail
      refine (all_any _ _).mono ?_
      rintro e w9 ⟨rfl, rfl⟩
      go_wp2_with fail
      clear i1 i2 i3 i4
      obtain ⟨w9, hw9⟩ : ∃ w9, w9 = (w7.alloc (.cells #[.int .i64 R, .int .i64 C] 23)).alloc (.cells #[.pointer (some ⟨g, 0, none⟩)] 28) := ⟨_, rfl⟩
      have q6 : w9.cell? ⟨w7.heap.size + 1, 0, none⟩ = some (.pointer (some ⟨g, 0, none⟩)) := by rw [hw9]; simp [go_sem]
      have hk79 : Kept0 w7 w9 := by rw [hw9]; exact ((Kept.refl _ w7).alloc _).alloc _
      have hs9 : w7.heap.size + 2 = w9.heap.size := by rw [hw9]; simp
      rw [← hw9]
      clear hw9
      replace q0 := kcell hk79 q0
      replace p0 := kcell hk79 p0
      replace p1 := kcell hk79 p1
      replace p4 := kcell hk79 p4
      replace hGc := hGc.kept hk79 (fun e => e) (fun e => e)
      have hG9 := hG7.kept hk79 (fun e => e) (fun e => e)
      have hB9 := hB7.kept hk79 (fun e => e)
      have hk09 : Kept0 w w9 := hk07.trans hk79
      clear hk79 hk78 hG7 hB7 hk07
      refine wpIn_wide.1 (wp_range (n := 0) (gf := 45) (lb := #[.pointer (some ⟨w7.heap.size + 1, 0, none⟩)]) rfl (enters_of Try.func45 (by kernel_rfl) rfl) (all1_grid (w7.heap.size + 1) g tg capg R C (upd f (idx C r c) x)) (fun _ => rfl)
        (fun _ W => Below w9.heap.size w9 W) (fun _ _ _ => False) (fun _ _ _ h k => h.trans k) (fun _ _ _ _ h _ => h)
        (fun _ W h => ⟨kcell (Kept0.ofBelow h) q6, hG9.kept (Kept0.ofBelow h) (fun e => e) (fun e => e)⟩) (Below.refl _ _) ?_ ?_ ?_)
      · rintro l9 k W hl1 hl2 hk hW
        have hkW : Kept0 w9 W := Kept0.ofBelow hW
        have hsW := hkW.size
        unfold allArgs
        gi_wp2_with fail
        refine ⟨(Kept.refl _ W).alloc _, fun W2 hk2 hb2 => ?_⟩
        have hlW : ¬ W.heap.size = l9 := by omega
        have b0 : W2.cell? ⟨W.heap.size, 0, none⟩ = some (.int .i64 (rowOf C k : Int)) := (hk2.cell (by simp) hlW).trans (by simp [go_sem])
        have b1 : W2.cell? ⟨W.heap.size, 1, none⟩ = some (.int .i64 (colOf C k : Int)) := (hk2.cell (by simp) hlW).trans (by simp [go_sem])
        have hbW : Below w9.heap.size w9 W2 := hW.trans (((Below.refl _ W).alloc (by omega) _).trans hb2)
        have hkW2 : Kept0 w9 W2 := Kept0.ofBelow hbW
        have hth := there_row_col hk hC1
        have hix : Hid (idx C (rowOf C k : Int) (colOf C k : Int) = k) := idx_row_col C k
        have a0 := kcell hkW2 q0
        clear hk2 hb2
        gi_wp2_with fail
        refine round_call0 ((at_in gc tc capc R C f _ _ _ (hGc.kept hkW2 (fun e => e) (fun e => e)) hth).mono ?_)
        rw [hix.out]
        rintro e W3 ⟨rfl, hk3⟩
        replace b0 := kcell hk3 b0
        replace b1 := kcell hk3 b1
        have hkW3 := hkW2.trans hk3
        have a1 := kcell hkW3 p0
        have a2 := kcell hkW3 p1
        have a6 := kcell hkW3 p4
        have hgood : Hid (Kept (· < w9.heap.size) W2 W3 ∧ Below w9.heap.size w9 W3) := ⟨hk3.to, Kept0.below hkW3⟩
        clear hkW3 hkW2 hk3 a0 q0 p0 p1 p4 q6 hth
        by_cases e1 : (rowOf C k : Int) = r
        · by_cases e2 : (colOf C k : Int) = c
          · have hu : upd f (idx C r c) x k = x := by rw [← e1, ← e2, hix.out]; simp [upd]
            rw [hu]
            subst e1
            subst e2
            clear hu
            gi_wp2_with fail
            exact hgood
          · have hu : upd f (idx C r c) x k = f k := by
              have : ¬ k = idx C r c := by
                intro e3
                have h1 := HTH.out
                have h2 : colOf C k = c.toNat := by rw [e3]; exact colOf_idx h1
                have := h1.2.2.1
                omega
              simp [upd, this]
            rw [hu]
            subst e1
            clear hu
            gi_wp2_with fail
            exact hgood
        · have hu : upd f (idx C r c) x k = f k := by
            have : ¬ k = idx C r c := by
              intro e3
              have h1 := HTH.out
              have h2 : rowOf C k = r.toNat := by rw [e3]; exact rowOf_idx h1
              have := h1.1
              omega
            simp [upd, this]
          rw [hu]
          clear hu
          gi_wp2_with fail
          exact hgood
      · intro D W hD hW hDc
        have hkW : Kept0 w9 W := Kept0.ofBelow hW
        have hBW := hB9.kept hkW (fun e => e)
        have hk0W := hk09.trans hkW
        have HD := Lib.hid hDc
        clear q0 p0 p1 p4 q6 hG9 hGc hDc hW
        go_wp2_with fail
        refine (awake_any _).mono ?_
        rintro e W3 ⟨rfl, hk3⟩
        have hB3 := hBW.kept hk3 (fun e => e)
        have b1 := hB3.c
        have b2 := hB3.f
        have hB4 := (hB3.set true).c
        go_wp2_with fail
        have hk4 : Kept0 w (W3.setCell ⟨w.heap.size + 2, 0, none⟩ (.bool true)) := (hk0W.trans hk3).setCell _ (Or.inl (by simp)) _
        have hDl : D < W.heap.size := (Array.getElem?_eq_some_iff.1 HD.out).1
        have hD4 : (W3.setCell ⟨w.heap.size + 2, 0, none⟩ (.bool true)).heap[D]? = some (.deferred (some [])) :=
          (Below.heap_setCell _ _ _ _ (by simp; omega)).trans ((hk3.block D hDl (fun e => e)).trans HD.out)
        refine ⟨by simp, .inl ⟨_, _, rfl, run_takeDeferred hD4, ?_⟩⟩
        have hB5 : ((W3.setCell ⟨w.heap.size + 2, 0, none⟩ (.bool true)).putObj D (.deferred none)).cell? ⟨w.heap.size + 2, 0, none⟩ = some (.bool true) :=
          (World.cell?_of_block (World.putObj_heap_other (by simp; omega))).trans hB4
        refine ⟨.bool true, by simp [results, Try.results5, go_sem, hB5], rfl, ?_⟩
        exact (Kept0.below hk4).trans (below_putObj _ (by omega))
      · intro D c k W _ _ h
        exact h.elim
end Go.Proofs.Ytekjjnfbahmjcaa
