/-
  What GridFills does: it returns true, and writes nothing that was there.
-/
import Derived.Test.YtekjjnfbahmjcaaBegun
import Derived.Test.YtekjjnfbahmjcaaTruth
namespace Go.Proofs.Ytekjjnfbahmjcaa
open Go.RowKit

attribute [local go_sem] Oper.semAt_some

/-- From one place to another one, row by row. -/
def InRun (ar ac br bc pr pc : Int) : Prop := (ar < pr ∨ pr = ar ∧ ac ≤ pc) ∧ (pr < br ∨ pr = br ∧ pc ≤ bc)

theorem inRun_iff {R C k : Nat} {ar ac br bc : Int} (h1 : There R C ar ac) (h2 : There R C br bc) (hC : 1 ≤ C) :
    InRun ar ac br bc (rowOf C k) (colOf C k) ↔ idx C ar ac ≤ k ∧ k ≤ idx C br bc := by
  obtain ⟨a1, a2, a3, a4⟩ := h1
  obtain ⟨b1, b2, b3, b4⟩ := h2
  obtain ⟨a, rfl⟩ := Int.eq_ofNat_of_zero_le a1
  obtain ⟨c, rfl⟩ := Int.eq_ofNat_of_zero_le a3
  obtain ⟨b, rfl⟩ := Int.eq_ofNat_of_zero_le b1
  obtain ⟨d, rfl⟩ := Int.eq_ofNat_of_zero_le b3
  have hk := row_col_eq (C := C) (j := k)
  have hcl := colOf_lt (k := k) hC
  generalize rowOf C k = p at *
  generalize colOf C k = q at *
  simp only [InRun, idx, Int.toNat_natCast]
  have e1 : a < p → (a + 1) * C ≤ p * C := fun h => Nat.mul_le_mul_right _ h
  have e2 : p < a → (p + 1) * C ≤ a * C := fun h => Nat.mul_le_mul_right _ h
  have e3 : b < p → (b + 1) * C ≤ p * C := fun h => Nat.mul_le_mul_right _ h
  have e4 : p < b → (p + 1) * C ≤ b * C := fun h => Nat.mul_le_mul_right _ h
  rw [Nat.add_mul] at e1 e2 e3 e4
  constructor
  · rintro ⟨h5, h6⟩
    constructor
    · rcases h5 with h5 | ⟨h5, h7⟩
      · have := e1 (by omega); omega
      · have : p = a := by omega
        subst this; omega
    · rcases h6 with h6 | ⟨h6, h7⟩
      · have := e4 (by omega); omega
      · have : p = b := by omega
        subst this; omega
  · rintro ⟨h5, h6⟩
    constructor
    · rcases Nat.lt_trichotomy p a with h | h | h
      · have := e2 h; omega
      · subst h; exact Or.inr ⟨rfl, by omega⟩
      · exact Or.inl (by omega)
    · rcases Nat.lt_trichotomy p b with h | h | h
      · exact Or.inl (by omega)
      · subst h; exact Or.inr ⟨rfl, by omega⟩
      · have := e3 h; omega

theorem fillE_cases (R C : Nat) (ar ac br bc : Int) : fillE R C ar ac br bc = 0 ∨ fillE R C ar ac br bc = 11 ∨ fillE R C ar ac br bc = 1 := by
  unfold fillE
  split
  · split
    · exact Or.inl rfl
    · exact Or.inr (Or.inr rfl)
  · exact Or.inr (Or.inl rfl)

/-- What is at a place behind a Fill. -/
theorem fill_at {R C k : Nat} {ar ac br bc x : Int} (f : Nat → Int) (hC : 1 ≤ C) :
    (fillE R C ar ac br bc = 0 → InRun ar ac br bc (rowOf C k) (colOf C k) → fillG f R C ar ac br bc x k = x) ∧
    (fillE R C ar ac br bc = 0 → ¬ InRun ar ac br bc (rowOf C k) (colOf C k) → fillG f R C ar ac br bc x k = f k) ∧
    (¬ fillE R C ar ac br bc = 0 → fillG f R C ar ac br bc x k = f k) := by
  unfold fillE fillG
  cases h : (thereB R C ar ac && thereB R C br bc) with
  | false => simp
  | true =>
    obtain ⟨h1, h2⟩ := (Bool.and_eq_true _ _).mp h
    have hi := inRun_iff (k := k) (there_of h1) (there_of h2) hC
    by_cases hle : idx C ar ac ≤ idx C br bc
    · simp only [hle, decide_true, Bool.and_true, if_true]
      refine ⟨fun _ h3 => ?_, fun _ h3 => ?_, fun h3 => absurd trivial h3⟩
      · have := hi.1 h3
        unfold fillF
        rw [if_pos (by omega)]
      · unfold fillF
        rw [if_neg (fun h4 => h3 (hi.2 (by omega)))]
    · simp [hle]

set_option maxRecDepth 100000 in
set_option maxHeartbeats 4000000 in
theorem fills_calls (a : Option Addr) (cap : Nat) (l : List OpV) (ar ac br bc x : Int) (w : World) (h : OpsIn w a l) (hok : OpsOk l) (hn : l.length ≤ 9223372036854775807) :
    Calls Try.prog 8 #[.slice a l.length cap, .agg #[.int .i64 ar, .int .i64 ac, .int .i64 br, .int .i64 bc], .int .i64 x] w fun e w' => e = .returned (.bool true) ∧ Below w.heap.size w w' := by
  obtain ⟨n, hnl⟩ : ∃ n, n = l.length := ⟨_, rfl⟩
  rw [← hnl]
  have HN := Lib.hid hnl
  clear hnl
  refine calls_marks Try.func8 rfl ?_
  simp only [Try.ntmps8, List.size_toArray, List.length_cons, List.length_nil, Nat.reduceAdd, Nat.reduceSub, Array.replicate_succ, Array.replicate_zero, List.push_toArray, List.append_toArray, List.nil_append, List.cons_append]
  go_wp2_with fail
  obtain ⟨w1, hw1⟩ : ∃ w1, w1 = ((w.alloc (.cells #[.int .i64 ar, .int .i64 ac, .int .i64 br, .int .i64 bc] 71)).alloc (.cells #[.int .i64 x] 3)).alloc (.cells #[.bool false] 4) := ⟨_, rfl⟩
  have hk1 : Kept0 w w1 := by rw [hw1]; exact (((Kept.refl _ w).alloc _).alloc _).alloc _
  have hh0 : w1.heap[w.heap.size]? = some (.cells #[.int .i64 ar, .int .i64 ac, .int .i64 br, .int .i64 bc] 71 (0, 0)) := by
    rw [hw1]; exact (Below.heap_alloc _ _ _ (by simp; omega)).trans ((Below.heap_alloc _ _ _ (by simp)).trans (heap_new w _))
  have hh1 : w1.heap[w.heap.size + 1]? = some (.cells #[.int .i64 x] 3 (0, 0)) := by
    rw [hw1]; exact (Below.heap_alloc _ _ _ (by simp)).trans (heap_new2 w _ _)
  have hh2 : w1.heap[w.heap.size + 2]? = some (.cells #[.bool false] 4 (0, 0)) := by
    rw [hw1]; exact heap_new3 w _ _ _
  have hs1 : w.heap.size + 3 = w1.heap.size := by rw [hw1]; simp
  rw [← hw1]
  clear hw1
  rw [HN.out]
  refine (few_opt a cap l _ (h.kept hk1) hn).mono ?_
  rw [← HN.out]
  have hB1 := BoolAt.of hh2
  clear hh2
  cases hf : fewB l with
  | false =>
    clear hf
    rintro e w2 ⟨rfl, hk2⟩
    go_wp2_with fail
    refine (awake_any _).mono ?_
    rintro e w3 ⟨rfl, hk3⟩
    have hB3 := (hB1.kept hk2 (fun e => e)).kept hk3 (fun e => e)
    have b1 := hB3.c
    have b2 := hB3.f
    go_wp2_with fail
    have hB4 := (hB3.set true).c
    refine ⟨.bool true, by simp [results, Try.results8, go_sem, hB4], rfl, ?_⟩
    exact Kept0.below (((hk1.trans hk2).trans hk3).setCell _ (Or.inl (by simp; omega)) _)
  | true =>
    clear hf
    rintro e w2 ⟨rfl, hk2⟩
    have hk12 := hk1.trans hk2
    go_wp2_with fail
    rw [HN.out]
    refine (begun_opt a cap l _ (h.kept hk12) hok hn).mono ?_
    rw [← HN.out]
    clear h hok hn
    rintro e w3 ⟨g, r, rfl, ⟨tg, tr, R, C, f, ⟨⟨capg, hG⟩, _, _, _, _, _⟩, hg3, htg3, _, _⟩, hk3⟩
    have htg3' := hG.row.lt
    have hg3' := hG.lt
    go_wp2_with fail
    refine (copy_any g tg capg R C f _ hG).mono ?_
    rintro e w4 ⟨gc, tc, capc, rfl, hgc, htc, hGc, hk4⟩
    replace hG := hG.kept hk4 (fun e => e) (fun e => e)
    have hk14 : Kept0 w1 w4 := (hk2.trans hk3).trans hk4
    have hk04 : Kept0 w w4 := hk1.trans hk14
    have p0 : w4.cell? ⟨w.heap.size, 0, none⟩ = some (.int .i64 ar) := kcell hk14 (by simp [World.cell?, hh0])
    have p1 : w4.cell? ⟨w.heap.size, 1, none⟩ = some (.int .i64 ac) := kcell hk14 (by simp [World.cell?, hh0])
    have p2 : w4.cell? ⟨w.heap.size, 2, none⟩ = some (.int .i64 br) := kcell hk14 (by simp [World.cell?, hh0])
    have p3 : w4.cell? ⟨w.heap.size, 3, none⟩ = some (.int .i64 bc) := kcell hk14 (by simp [World.cell?, hh0])
    have p4 : w4.cell? ⟨w.heap.size + 1, 0, none⟩ = some (.int .i64 x) := kcell hk14 (by simp [World.cell?, hh1])
    have hB4 := hB1.kept hk14 (fun e => e)
    have s4 : w1.heap.size ≤ w4.heap.size := hk14.size
    have s5 : w2.heap.size ≤ w3.heap.size := hk3.size
    have s6 : w1.heap.size ≤ w2.heap.size := hk2.size
    have s7 : w.heap.size < w4.heap.size := by omega
    have s8 : w.heap.size + 1 < w4.heap.size := by omega
    clear hk2 hk3 hk4 hk12 hk14 hh0 hh1 hB1 hk1
    go_wp2_with fail
    obtain ⟨w5, hw5⟩ : ∃ w5, w5 = ((w4.alloc (.cells #[.pointer (some ⟨gc, 0, none⟩)] 28)).alloc (.cells #[.int .i64 ar, .int .i64 ac] 39)).alloc (.cells #[.int .i64 br, .int .i64 bc] 39) := ⟨_, rfl⟩
    have q0 : w5.cell? ⟨w4.heap.size, 0, none⟩ = some (.pointer (some ⟨gc, 0, none⟩)) := by rw [hw5]; simp [go_sem]
    have q1 : w5.cell? ⟨w4.heap.size + 1, 0, none⟩ = some (.int .i64 ar) := by rw [hw5]; simp [go_sem]
    have q2 : w5.cell? ⟨w4.heap.size + 1, 1, none⟩ = some (.int .i64 ac) := by rw [hw5]; simp [go_sem]
    have q3 : w5.cell? ⟨w4.heap.size + 1 + 1, 0, none⟩ = some (.int .i64 br) := by rw [hw5]; simp [go_sem]
    have q4 : w5.cell? ⟨w4.heap.size + 1 + 1, 1, none⟩ = some (.int .i64 bc) := by rw [hw5]; simp [go_sem]
    have hk45 : Kept0 w4 w5 := by rw [hw5]; exact (((Kept.refl _ w4).alloc _).alloc _).alloc _
    have hs5 : w4.heap.size + 3 = w5.heap.size := by rw [hw5]; simp
    rw [← hw5]
    clear hw5
    have hgl := hG.lt
    have htgl := hG.row.lt
    have hgcl := hGc.lt
    have htcl := hGc.row.lt
    have hgc' : w3.heap.size ≤ gc := hgc
    refine (fill_u g tg capg R C f _ _ _ _ _ _ (hG.kept hk45 (fun e => e) (fun e => e))).mono ?_
    rintro e w6 ⟨rfl, hG6, hk6⟩
    have hC1 := hG.C1
    have hxx := kcell hk45 p4
    clear p0 p1 p2 p3
    generalize hE : fillE R C ar ac br bc = E at *
    have HE := Lib.hid hE
    clear hE
    go_wp2_with fail
    refine (all_any _ _).mono ?_
    rintro e w9 ⟨rfl, rfl⟩
    rw [World.size_alloc]
    go_wp2_with fail
    have t0 : ¬ w4.heap.size = tg := by omega
    have t1 : ¬ w4.heap.size + 1 = tg := by omega
    have t2 : ¬ w4.heap.size + 1 + 1 = tg := by omega
    have t3 : ¬ w.heap.size + 1 = tg := by omega
    replace q0 := (hk6.cell (World.block_lt_of_cell? w5 _ q0) t0).trans q0
    replace q1 := (hk6.cell (World.block_lt_of_cell? w5 _ q1) t1).trans q1
    replace q2 := (hk6.cell (World.block_lt_of_cell? w5 _ q2) t1).trans q2
    replace q3 := (hk6.cell (World.block_lt_of_cell? w5 _ q3) t2).trans q3
    replace q4 := (hk6.cell (World.block_lt_of_cell? w5 _ q4) t2).trans q4
    replace hxx := (hk6.cell (World.block_lt_of_cell? w5 _ hxx) t3).trans hxx
    replace hGc := (hGc.kept hk45 (fun e => e) (fun e => e)).kept hk6 (by omega) (by omega)
    have hB6 := (hB4.kept hk45 (fun e => e)).kept hk6 (by omega)
    have hk06 : Kept0 w w6 := (hk04.trans hk45).later hk6 (fun i hi e => by omega)
    have hs6 := hk6.size
    clear hk45 hk6 hB4 hk04 p4 hG t0 t1 t2 t3
    obtain ⟨w7, hw7⟩ : ∃ w7, w7 = (w6.alloc (.cells #[.int .i64 E] 29)).alloc (.cells #[.pointer (some ⟨g, 0, none⟩)] 28) := ⟨_, rfl⟩
    have q5 : w7.cell? ⟨w6.heap.size, 0, none⟩ = some (.int .i64 E) := by rw [hw7]; simp [go_sem]
    have q6 : w7.cell? ⟨w6.heap.size + 1, 0, none⟩ = some (.pointer (some ⟨g, 0, none⟩)) := by rw [hw7]; simp [go_sem]
    have hk67 : Kept0 w6 w7 := by rw [hw7]; exact ((Kept.refl _ w6).alloc _).alloc _
    have hs7 : w6.heap.size + 2 = w7.heap.size := by rw [hw7]; simp
    rw [← hw7]
    clear hw7
    replace q0 := kcell hk67 q0
    replace q1 := kcell hk67 q1
    replace q2 := kcell hk67 q2
    replace q3 := kcell hk67 q3
    replace q4 := kcell hk67 q4
    replace hxx := kcell hk67 hxx
    replace hGc := hGc.kept hk67 (fun e => e) (fun e => e)
    have hG7 := hG6.kept hk67 (fun e => e) (fun e => e)
    have hB7 := hB6.kept hk67 (fun e => e)
    have hk07 : Kept0 w w7 := hk06.trans hk67
    clear hk67 hG6 hB6 hk06
    refine wpIn_wide.1 (wp_range (n := 0) (gf := 45) (lb := #[.pointer (some ⟨w6.heap.size + 1, 0, none⟩)]) rfl (enters_of Try.func45 (by kernel_rfl) rfl) (all1_grid (w6.heap.size + 1) g tg capg R C (fillG f R C ar ac br bc x)) (fun _ => rfl)
      (fun _ W => Below w7.heap.size w7 W) (fun _ _ _ => False) (fun _ _ _ h k => h.trans k) (fun _ _ _ _ h _ => h)
      (fun _ W h => ⟨kcell (Kept0.ofBelow h) q6, hG7.kept (Kept0.ofBelow h) (fun e => e) (fun e => e)⟩) (Below.refl _ _) ?_ ?_ ?_)
    · rintro l9 k W hl1 hl2 hk hW
      have hkW : Kept0 w7 W := Kept0.ofBelow hW
      have hsW := hkW.size
      unfold allArgs
      gi_wp2_with fail
      refine ⟨(Kept.refl _ W).alloc _, fun W2 hk2 hb2 => ?_⟩
      have hlW : ¬ W.heap.size = l9 := by omega
      have b0 : W2.cell? ⟨W.heap.size, 0, none⟩ = some (.int .i64 (rowOf C k : Int)) := (hk2.cell (by simp) hlW).trans (by simp [go_sem])
      have b1 : W2.cell? ⟨W.heap.size, 1, none⟩ = some (.int .i64 (colOf C k : Int)) := (hk2.cell (by simp) hlW).trans (by simp [go_sem])
      have hbW : Below w7.heap.size w7 W2 := hW.trans (((Below.refl _ W).alloc (by omega) _).trans hb2)
      have hkW2 : Kept0 w7 W2 := Kept0.ofBelow hbW
      have hth := there_row_col hk hC1
      have hix : Hid (idx C (rowOf C k : Int) (colOf C k : Int) = k) := idx_row_col C k
      have a0 := kcell hkW2 q0
      clear hk2 hb2
      gi_wp2_with fail
      refine round_call0 ((at_in gc tc capc R C f _ _ _ (hGc.kept hkW2 (fun e => e) (fun e => e)) hth).mono ?_)
      rw [hix.out]
      rintro e W3 ⟨rfl, hk3⟩
      replace b0 := kcell hk3 b0
      replace b1 := kcell hk3 b1
      have hkW3 := hkW2.trans hk3
      have a1 := kcell hkW3 q1
      have a2 := kcell hkW3 q2
      have a3 := kcell hkW3 q3
      have a4 := kcell hkW3 q4
      have a5 := kcell hkW3 q5
      have a6 := kcell hkW3 hxx
      have hgood : Hid (Kept (· < w7.heap.size) W2 W3 ∧ Below w7.heap.size w7 W3) := ⟨hk3.to, Kept0.below hkW3⟩
      clear hkW3 hkW2 hk3 a0 q0 q1 q2 q3 q4 q5 q6 hxx hth hix
      obtain ⟨v1, v2, v3⟩ := fill_at (R := R) (k := k) (ar := ar) (ac := ac) (br := br) (bc := bc) (x := x) f hC1
      rw [HE.out] at v1 v2 v3
      by_cases hE0 : E = 0
      · subst hE0
        by_cases hin : InRun ar ac br bc (rowOf C k) (colOf C k)
        · rw [v1 rfl hin]
          clear v1 v2 v3
          obtain ⟨i1, i2⟩ := hin
          rcases i1 with i1 | ⟨i1, i3⟩ <;> rcases i2 with i2 | ⟨i2, i4⟩
          all_goals
            gi_wp2_with fail
            exact hgood
        · rw [v2 rfl hin]
          clear v1 v2 v3
          have HIN := Lib.hid hin
          clear hin
          gi_wp2_with fail
          all_goals first | exact hgood | (exfalso; have h9 := HIN.out; unfold InRun at h9; omega) | go_ways
      · rw [v3 hE0]
        clear v1 v2 v3
        have d9 : (E == 0) = false := by simpa using hE0
        have d8 : (E != 0) = true := by simpa using hE0
        clear hE0
        gi_wp2_with fail
        all_goals first | exact hgood | go_ways
    · intro D W hD hW hDc
      have hkW : Kept0 w7 W := Kept0.ofBelow hW
      have a5 := kcell hkW q5
      have hBW := hB7.kept hkW (fun e => e)
      have hk0W := hk07.trans hkW
      have HD := Lib.hid hDc
      clear q0 q1 q2 q3 q4 q5 q6 hxx hG7 hGc hDc hW
      have hE3 := fillE_cases R C ar ac br bc
      rw [HE.out] at hE3
      rcases hE3 with rfl | rfl | rfl
      all_goals
        go_wp2_with fail
        refine (awake_any _).mono ?_
        rintro e W3 ⟨rfl, hk3⟩
        have hB3 := hBW.kept hk3 (fun e => e)
        have b1 := hB3.c
        have b2 := hB3.f
        have hB4 := (hB3.set true).c
        go_wp2_with fail
        have hk4 : Kept0 w (W3.setCell ⟨w.heap.size + 2, 0, none⟩ (.bool true)) := (hk0W.trans hk3).setCell _ (Or.inl (by simp)) _
        have hDl : D < W.heap.size := (Array.getElem?_eq_some_iff.1 HD.out).1
        have hD4 : (W3.setCell ⟨w.heap.size + 2, 0, none⟩ (.bool true)).heap[D]? = some (.deferred (some [])) :=
          (Below.heap_setCell _ _ _ _ (by simp; omega)).trans ((hk3.block D hDl (fun e => e)).trans HD.out)
        refine ⟨by simp, .inl ⟨_, _, rfl, run_takeDeferred hD4, ?_⟩⟩
        have hB5 : ((W3.setCell ⟨w.heap.size + 2, 0, none⟩ (.bool true)).putObj D (.deferred none)).cell? ⟨w.heap.size + 2, 0, none⟩ = some (.bool true) :=
          (World.cell?_of_block (World.putObj_heap_other (by simp; omega))).trans hB4
        refine ⟨.bool true, by simp [results, Try.results8, go_sem, hB5], rfl, ?_⟩
        exact (Kept0.below hk4).trans (below_putObj _ (by omega))
    · intro D c k W _ _ h
      exact h.elim
end Go.Proofs.Ytekjjnfbahmjcaa
