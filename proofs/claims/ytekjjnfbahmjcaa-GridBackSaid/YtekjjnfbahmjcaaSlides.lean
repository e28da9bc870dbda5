/-
  GridSlides returns true: a Slide turns its row alone, and two by one are one by two.
-/
import Derived.Test.YtekjjnfbahmjcaaSets
import Derived.Test.YtekjjnfbahmjcaaFills
namespace Go.Proofs.Ytekjjnfbahmjcaa
open Go.RowKit

attribute [local go_sem] Oper.semAt_some

theorem moveF_twice (f : Nat → Int) (o L : Nat) (n m x : Int) (h : (n = 1 ∧ m = 2) ∨ (n = -1 ∧ m = -2)) (k : Nat) :
    moveF (moveF f o L n x) o L n x k = moveF f o L m x k := by
  unfold moveF
  by_cases h1 : o ≤ k ∧ k < o + L
  · rw [if_pos h1, if_pos h1]
    by_cases h2 : (o : Int) ≤ k + n ∧ (k : Int) + n < o + L
    · rw [if_pos h2, if_pos (show o ≤ ((k : Int) + n).toNat ∧ ((k : Int) + n).toNat < o + L by omega)]
      have e : ((((k : Int) + n).toNat : Nat) : Int) = k + n := by omega
      rw [e]
      have e2 : (k : Int) + n + n = k + m := by omega
      rw [e2]
    · rw [if_neg h2, if_neg (by omega)]
  · rw [if_neg h1, if_neg h1, if_neg h1]

theorem slideG_twice (f : Nat → Int) (R C N : Nat) (r c c' n m x : Int) (h : (n = 1 ∧ m = 2) ∨ (n = -1 ∧ m = -2)) :
    sameF (slideG (slideG f R C r c c' n x) R C r c c' n x) (slideG f R C r c c' m x) N = true := by
  unfold sameF
  refine decide_eq_true fun k _ => ?_
  unfold slideG
  split
  · exact moveF_twice f _ _ n m x h k
  · rfl

/-- What a Slide leaves alone. -/
theorem slide_rest {R C k : Nat} {r c c' n x : Int} (f : Nat → Int) (hC : 1 ≤ C)
    (h : ¬ fillE R C r c r c' = 0 ∨ ¬ (rowOf C k : Int) = r ∨ (colOf C k : Int) < c ∨ c' < (colOf C k : Int)) : slideG f R C r c c' n x k = f k := by
  unfold slideG
  unfold fillE at h
  cases h0 : (thereB R C r c && thereB R C r c') with
  | false => simp
  | true =>
    obtain ⟨h1, h2⟩ := (Bool.and_eq_true _ _).mp h0
    have hi := inRun_iff (k := k) (there_of h1) (there_of h2) hC
    by_cases hle : idx C r c ≤ idx C r c'
    · have h' := h.resolve_left (by simp [h0, hle])
      simp only [hle, decide_true, Bool.and_true, if_true]
      unfold moveF
      rw [if_neg]
      intro h4
      have h5 := hi.2 (by omega)
      unfold InRun at h5
      omega
    · simp [hle]

set_option maxRecDepth 100000 in
set_option maxHeartbeats 8000000 in
theorem slides_calls (a : Option Addr) (cap : Nat) (l : List OpV) (t0 t1 t2 : Int) (right : Bool) (w : World) (h : OpsIn w a l) (hok : OpsOk l) (hn : l.length ≤ 9223372036854775807) :
    Calls Try.prog 9 #[.slice a l.length cap, .agg #[.int .i64 t0, .int .i64 t1, .int .i64 t2], .bool right] w fun e w' => e = .returned (.bool true) ∧ Below w.heap.size w w' := by
  obtain ⟨n, hnl⟩ : ∃ n, n = l.length := ⟨_, rfl⟩
  rw [← hnl]
  have HN := Lib.hid hnl
  clear hnl
  refine calls_marks Try.func9 rfl ?_
  simp only [Try.ntmps9, List.size_toArray, List.length_cons, List.length_nil, Nat.reduceAdd, Nat.reduceSub, Array.replicate_succ, Array.replicate_zero, List.push_toArray, List.append_toArray, List.nil_append, List.cons_append]
  go_wp2_with fail
  obtain ⟨w1, hw1⟩ : ∃ w1, w1 = (w.alloc (.cells #[.int .i64 t0, .int .i64 t1, .int .i64 t2] 63)).alloc (.cells #[.bool false] 4) := ⟨_, rfl⟩
  have hk1 : Kept0 w w1 := by rw [hw1]; exact ((Kept.refl _ w).alloc _).alloc _
  have hh0 : w1.heap[w.heap.size]? = some (.cells #[.int .i64 t0, .int .i64 t1, .int .i64 t2] 63 (0, 0)) := by
    rw [hw1]; exact (Below.heap_alloc _ _ _ (by simp)).trans (heap_new w _)
  have hh2 : w1.heap[w.heap.size + 1]? = some (.cells #[.bool false] 4 (0, 0)) := by
    rw [hw1]; exact heap_new2 w _ _
  have hs1 : w.heap.size + 2 = w1.heap.size := by rw [hw1]; simp
  rw [← hw1]
  clear hw1
  rw [HN.out]
  refine (few_opt a cap l _ (h.kept hk1) hn).mono ?_
  rw [← HN.out]
  have hB1 := BoolAt.of hh2
  clear hh2
  cases hf : fewB l with
  | false =>
    clear hf
    rintro e w2 ⟨rfl, hk2⟩
    go_wp2_with fail
    refine (awake_any _).mono ?_
    rintro e w3 ⟨rfl, hk3⟩
    have hB3 := (hB1.kept hk2 (fun e => e)).kept hk3 (fun e => e)
    have b1 := hB3.c
    have b2 := hB3.f
    go_wp2_with fail
    have hB4 := (hB3.set true).c
    refine ⟨.bool true, by simp [results, Try.results9, go_sem, hB4], rfl, ?_⟩
    exact Kept0.below (((hk1.trans hk2).trans hk3).setCell _ (Or.inl (by simp)) _)
  | true =>
    clear hf
    rintro e w2 ⟨rfl, hk2⟩
    have hk12 := hk1.trans hk2
    go_wp2_with fail
    rw [HN.out]
    refine (begun_opt a cap l _ (h.kept hk12) hok hn).mono ?_
    rw [← HN.out]
    clear h hok hn
    rintro e w3 ⟨g, rr, rfl, ⟨tg, tr, R, C, f, ⟨⟨capg, hG⟩, _, _, _, _, _⟩, hg3, htg3, _, _⟩, hk3⟩
    have htg3' := hG.row.lt
    have hg3' := hG.lt
    go_wp2_with fail
    refine (copy_any g tg capg R C f _ hG).mono ?_
    rintro e w4 ⟨gc, tc, capc, rfl, hgc, htc, hGc, hk4⟩
    replace hG := hG.kept hk4 (fun e => e) (fun e => e)
    go_wp2_with fail
    obtain ⟨w5, hw5⟩ : ∃ w5, w5 = w4.alloc (.cells #[.pointer (some ⟨gc, 0, none⟩)] 28) := ⟨_, rfl⟩
    have q0 : w5.cell? ⟨w4.heap.size, 0, none⟩ = some (.pointer (some ⟨gc, 0, none⟩)) := by rw [hw5]; simp [go_sem]
    have hk45 : Kept0 w4 w5 := by rw [hw5]; exact (Kept.refl _ w4).alloc _
    have hs5 : w4.heap.size + 1 = w5.heap.size := by rw [hw5]; simp
    rw [← hw5]
    clear hw5
    have hgl := hG.lt
    have htgl := hG.row.lt
    have hgcl := hGc.lt
    have htcl := hGc.row.lt
    have hgc' : w3.heap.size ≤ gc := hgc
    replace hG := hG.kept hk45 (fun e => e) (fun e => e)
    replace hGc := hGc.kept hk45 (fun e => e) (fun e => e)
    refine (copy_any g tg capg R C f _ hG).mono ?_
    rintro e w6 ⟨gh, th, caph, rfl, hgh, hthh, hGh, hk56⟩
    have hghl := hGh.lt
    have hthl := hGh.row.lt
    have hgh' : w5.heap.size ≤ gh := hgh
    have hC1 := hG.C1
    replace hG := hG.kept hk56 (fun e => e) (fun e => e)
    replace hGc := hGc.kept hk56 (fun e => e) (fun e => e)
    replace q0 := kcell hk56 q0
    have hk16 : Kept0 w1 w6 := ((((hk2.trans hk3).trans hk4).trans hk45).trans hk56)
    have hk06 : Kept0 w w6 := hk1.trans hk16
    have p0 : w6.cell? ⟨w.heap.size, 0, none⟩ = some (.int .i64 t0) := kcell hk16 (by simp [World.cell?, hh0])
    have p1 : w6.cell? ⟨w.heap.size, 1, none⟩ = some (.int .i64 t1) := kcell hk16 (by simp [World.cell?, hh0])
    have p2 : w6.cell? ⟨w.heap.size, 2, none⟩ = some (.int .i64 t2) := kcell hk16 (by simp [World.cell?, hh0])
    have hB6 := hB1.kept hk16 (fun e => e)
    have s2 : w1.heap.size ≤ w2.heap.size := hk2.size
    have s3 : w2.heap.size ≤ w3.heap.size := hk3.size
    have s4 : w3.heap.size ≤ w4.heap.size := hk4.size
    have s6 : w5.heap.size ≤ w6.heap.size := hk56.size
    clear hk2 hk3 hk4 hk45 hk56 hk12 hk16 hh0 hB1 hk1
    have ntg : ¬ w.heap.size = tg := by omega
    have nth : ¬ w.heap.size = th := by omega
    generalize hE : fillE R C t0 t1 t0 t2 = E at *
    have HE := Lib.hid hE
    clear hE
    cases right
    all_goals
      go_wp2_with fail
      refine (slide_u g tg capg R C f _ _ _ _ _ _ hG).mono ?_
      rw [HE.out]
      rintro e w7 ⟨rfl, hG7, hk7⟩
      replace p0 := (hk7.cell (World.block_lt_of_cell? w6 _ p0) ntg).trans p0
      replace p1 := (hk7.cell (World.block_lt_of_cell? w6 _ p1) ntg).trans p1
      replace p2 := (hk7.cell (World.block_lt_of_cell? w6 _ p2) ntg).trans p2
      have s7 := hk7.size
      have u0 : w.heap.size < w7.heap.size := by omega
      go_wp2_with fail
      obtain ⟨w8, hw8⟩ : ∃ w8, w8 = w7.alloc (.cells #[.int .i64 E] 29) := ⟨_, rfl⟩
      have q5 : w8.cell? ⟨w7.heap.size, 0, none⟩ = some (.int .i64 E) := by rw [hw8]; simp [go_sem]
      have hk78 : Kept0 w7 w8 := by rw [hw8]; exact (Kept.refl _ w7).alloc _
      have hs8 : w7.heap.size + 1 = w8.heap.size := by rw [hw8]; simp
      rw [← hw8]
      clear hw8
      refine (slide_u g tg capg R C _ _ _ _ _ _ _ (hG7.kept hk78 (fun e => e) (fun e => e))).mono ?_
      rw [HE.out]
      rintro e w9 ⟨rfl, hG9, hk9⟩
      replace p0 := (hk9.cell (World.block_lt_of_cell? w8 _ (kcell hk78 p0)) ntg).trans (kcell hk78 p0)
      replace p1 := (hk9.cell (World.block_lt_of_cell? w8 _ (kcell hk78 p1)) ntg).trans (kcell hk78 p1)
      replace p2 := (hk9.cell (World.block_lt_of_cell? w8 _ (kcell hk78 p2)) ntg).trans (kcell hk78 p2)
      have n5 : ¬ w7.heap.size = tg := by omega
      have n5h : ¬ w7.heap.size = th := by omega
      have n4 : ¬ w4.heap.size = tg := by omega
      have n4h : ¬ w4.heap.size = th := by omega
      replace q5 := (hk9.cell (World.block_lt_of_cell? w8 _ q5) n5).trans q5
      have s9 := hk9.size
      have hk69 : Kept (· = tg) w6 w9 := (hk7.later hk78 (fun _ _ e => e.elim)).trans hk9
      go_wp2_with fail
      refine (slide_u gh th caph R C f _ _ _ _ _ _ (hGh.kept hk69 (by omega) (by omega))).mono ?_
      rw [HE.out]
      rintro e w10 ⟨rfl, hG10, hk10⟩
      replace p0 := (hk10.cell (World.block_lt_of_cell? w9 _ p0) nth).trans p0
      replace p1 := (hk10.cell (World.block_lt_of_cell? w9 _ p1) nth).trans p1
      replace p2 := (hk10.cell (World.block_lt_of_cell? w9 _ p2) nth).trans p2
      replace q5 := (hk10.cell (World.block_lt_of_cell? w9 _ q5) n5h).trans q5
      have s10 := hk10.size
      replace q0 := (hk69.cell (World.block_lt_of_cell? w6 _ q0) n4).trans q0
      replace q0 := (hk10.cell (World.block_lt_of_cell? w9 _ q0) n4h).trans q0
      have hB10 := (hB6.kept hk69 (by omega)).kept hk10 (by omega)
      have hGc10 := (hGc.kept hk69 (by omega) (by omega)).kept hk10 (by omega) (by omega)
      have hGg10 := hG9.kept hk10 (by omega) (by omega)
      have hk010 : Kept0 w w10 := (hk06.later hk69 (fun i hi e => by omega)).later hk10 (fun i hi e => by omega)
      clear hk69 hk10 hk9 hk7 hk78 hB6 hk06 hG7 hG9 hG hGc hGh
      go_wp2_with fail
      refine (sameG_any _ g tg capg gh th caph R C _ _ hGg10 hG10).mono ?_
      rw [slideG_twice _ _ _ _ _ _ _ _ _ _ (by decide)]
      rintro e w11 ⟨rfl, hk11⟩
      go_wp2_with fail
      refine (all_any _ _).mono ?_
      rintro e w12 ⟨rfl, rfl⟩
      go_wp2_with fail
      obtain ⟨w12, hw12⟩ : ∃ w12, w12 = w11.alloc (.cells #[.pointer (some ⟨g, 0, none⟩)] 28) := ⟨_, rfl⟩
      have q6 : w12.cell? ⟨w11.heap.size, 0, none⟩ = some (.pointer (some ⟨g, 0, none⟩)) := by rw [hw12]; simp [go_sem]
      have hk1112 : Kept0 w11 w12 := by rw [hw12]; exact (Kept.refl _ w11).alloc _
      have hs12 : w11.heap.size + 1 = w12.heap.size := by rw [hw12]; simp
      rw [← hw12]
      clear hw12
      have hk12 : Kept0 w10 w12 := hk11.trans hk1112
      have s12 := hk12.size
      replace q0 := kcell hk12 q0
      replace q5 := kcell hk12 q5
      replace p0 := kcell hk12 p0
      replace p1 := kcell hk12 p1
      replace p2 := kcell hk12 p2
      have hGc12 := hGc10.kept hk12 (fun e => e) (fun e => e)
      have hGg12 := hGg10.kept hk12 (fun e => e) (fun e => e)
      have hB12 := hB10.kept hk12 (fun e => e)
      have hk012 : Kept0 w w12 := hk010.trans hk12
      clear hk11 hk1112 hk12 hGc10 hGg10 hG10 hB10 hk010
      refine wpIn_wide.1 (wp_range (n := 0) (gf := 45) (lb := #[.pointer (some ⟨w11.heap.size, 0, none⟩)]) rfl (enters_of Try.func45 (by kernel_rfl) rfl) (all1_grid w11.heap.size g tg capg R C _) (fun _ => rfl)
        (fun _ W => Below w12.heap.size w12 W) (fun _ _ _ => False) (fun _ _ _ h k => h.trans k) (fun _ _ _ _ h _ => h)
        (fun _ W h => ⟨kcell (Kept0.ofBelow h) q6, hGg12.kept (Kept0.ofBelow h) (fun e => e) (fun e => e)⟩) (Below.refl _ _) ?_ ?_ ?_)
      · rintro l9 k W hl1 hl2 hk hW
        have hkW : Kept0 w12 W := Kept0.ofBelow hW
        have hsW := hkW.size
        unfold allArgs
        gi_wp2_with fail
        refine ⟨(Kept.refl _ W).alloc _, fun W2 hk2 hb2 => ?_⟩
        have hlW : ¬ W.heap.size = l9 := by omega
        have b0 : W2.cell? ⟨W.heap.size, 0, none⟩ = some (.int .i64 (rowOf C k : Int)) := (hk2.cell (by simp) hlW).trans (by simp [go_sem])
        have b1 : W2.cell? ⟨W.heap.size, 1, none⟩ = some (.int .i64 (colOf C k : Int)) := (hk2.cell (by simp) hlW).trans (by simp [go_sem])
        have hbW : Below w12.heap.size w12 W2 := hW.trans (((Below.refl _ W).alloc (by omega) _).trans hb2)
        have hkW2 : Kept0 w12 W2 := Kept0.ofBelow hbW
        have hth := there_row_col hk hC1
        have hix : Hid (idx C (rowOf C k : Int) (colOf C k : Int) = k) := idx_row_col C k
        have a0 := kcell hkW2 q0
        clear hk2 hb2
        gi_wp2_with fail
        refine round_call0 ((at_in gc tc capc R C f _ _ _ (hGc12.kept hkW2 (fun e => e) (fun e => e)) hth).mono ?_)
        rw [hix.out]
        rintro e W3 ⟨rfl, hk3⟩
        replace b0 := kcell hk3 b0
        replace b1 := kcell hk3 b1
        have hkW3 := hkW2.trans hk3
        have a1 := kcell hkW3 p0
        have a2 := kcell hkW3 p1
        have a3 := kcell hkW3 p2
        have a5 := kcell hkW3 q5
        have hgood : Hid (Kept (· < w12.heap.size) W2 W3 ∧ Below w12.heap.size w12 W3) := ⟨hk3.to, Kept0.below hkW3⟩
        clear hkW3 hkW2 hk3 a0 q0 p0 p1 p2 q5 q6 hth
        by_cases hin : ¬ E = 0 ∨ ¬ (rowOf C k : Int) = t0 ∨ (colOf C k : Int) < t1 ∨ t2 < (colOf C k : Int)
        · rw [slide_rest (slideG f _ _ _ _ _ _ _) hC1 (by rw [HE.out]; exact hin), slide_rest f hC1 (by rw [HE.out]; exact hin)]
          have d0 : (f k != f k) = false := by simp
          generalize f k = y at *
          by_cases z0 : E = 0
          · subst z0
            by_cases z1 : (rowOf C k : Int) = t0
            · by_cases z2 : (colOf C k : Int) < t1
              · have d1 : ((rowOf C k : Int) != t0) = false := by simpa using z1
                have d2 : decide ((colOf C k : Int) < t1) = true := by simpa using z2
                clear z1 z2 hin
                gi_wp2_with fail
                exact hgood
              · have d1 : ((rowOf C k : Int) != t0) = false := by simpa using z1
                have d2 : decide ((colOf C k : Int) < t1) = false := by simpa using z2
                have d3 : decide (t2 < (colOf C k : Int)) = true := by
                  simp only [decide_eq_true_eq]
                  rcases hin with h | h | h | h
                  · exact absurd rfl h
                  · exact absurd z1 h
                  · exact absurd h z2
                  · exact h
                clear z1 z2 hin
                gi_wp2_with fail
                exact hgood
            · have d1 : ((rowOf C k : Int) != t0) = true := by simpa using z1
              clear z1 hin
              gi_wp2_with fail
              exact hgood
          · have d9 : (E != 0) = true := by simpa using z0
            clear z0 hin
            gi_wp2_with fail
            exact hgood
        · have z0 : E = 0 := by omega
          have z1 : (rowOf C k : Int) = t0 := by omega
          have z2 : ¬ (colOf C k : Int) < t1 := by omega
          have z3 : ¬ t2 < (colOf C k : Int) := by omega
          have d1 : ((rowOf C k : Int) != t0) = false := by simpa using z1
          have d2 : decide ((colOf C k : Int) < t1) = false := by simpa using z2
          have d3 : decide (t2 < (colOf C k : Int)) = false := by simpa using z3
          subst z0
          clear z1 z2 z3 hin
          gi_wp2_with fail
          exact hgood
      · intro D W hD hW hDc
        have hkW : Kept0 w12 W := Kept0.ofBelow hW
        have hBW := hB12.kept hkW (fun e => e)
        have hk0W := hk012.trans hkW
        have HD := Lib.hid hDc
        clear q0 p0 p1 p2 q5 q6 hGc12 hGg12 hDc hW
        go_wp2_with fail
        refine (awake_any _).mono ?_
        rintro e W3 ⟨rfl, hk3⟩
        have hB3 := hBW.kept hk3 (fun e => e)
        have b1 := hB3.c
        have b2 := hB3.f
        have hB4 := (hB3.set true).c
        go_wp2_with fail
        have hk4 : Kept0 w (W3.setCell ⟨w.heap.size + 1, 0, none⟩ (.bool true)) := (hk0W.trans hk3).setCell _ (Or.inl (by simp)) _
        have hDl : D < W.heap.size := (Array.getElem?_eq_some_iff.1 HD.out).1
        have hD4 : (W3.setCell ⟨w.heap.size + 1, 0, none⟩ (.bool true)).heap[D]? = some (.deferred (some [])) :=
          (Below.heap_setCell _ _ _ _ (by simp; omega)).trans ((hk3.block D hDl (fun e => e)).trans HD.out)
        refine ⟨by simp, .inl ⟨_, _, rfl, run_takeDeferred hD4, ?_⟩⟩
        have hB5 : ((W3.setCell ⟨w.heap.size + 1, 0, none⟩ (.bool true)).putObj D (.deferred none)).cell? ⟨w.heap.size + 1, 0, none⟩ = some (.bool true) :=
          (World.cell?_of_block (World.putObj_heap_other (by simp; omega))).trans hB4
        refine ⟨.bool true, by simp [results, Try.results9, go_sem, hB5], rfl, ?_⟩
        exact (Kept0.below hk4).trans (below_putObj _ (by omega))
      · intro D c k W _ _ h
        exact h.elim
end Go.Proofs.Ytekjjnfbahmjcaa
