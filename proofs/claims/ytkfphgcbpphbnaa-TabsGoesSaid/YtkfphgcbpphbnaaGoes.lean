/-
  What TabsGoes does: it returns true, and writes nothing that was there.
-/
import Derived.Test.YtkfphgcbpphbnaaPlays
import Derived.Deep.CutRange
namespace Go.Proofs.Ytkfphgcbpphbnaa
open Go.RowKit Go.Maps Go.ChangeMaps Go.MapKept

theorem goN_one (N : Nat) (f : Nat → Bool) (c : Int) : goN N f c 1 = nextN N f c := by
  unfold goN
  rw [if_neg (by decide), if_pos (by decide)]
  rfl
theorem goN_back (N : Nat) (f : Nat → Bool) (c : Int) : goN N f c (-1) = prevN N f c := by
  unfold goN
  rw [if_neg (by decide), if_neg (by decide)]
  rfl
theorem goN_it {N : Nat} {f : Nat → Bool} {c n : Int} (h : n ≠ 0) : goN N f c n = itF (prevN N f) (-n).toNat (itF (nextN N f) n.toNat c) := by
  unfold goN
  rw [if_neg h]
  by_cases h1 : 0 < n
  · rw [if_pos h1, show (-n).toNat = 0 by omega]; rfl
  · rw [if_neg h1, show n.toNat = 0 by omega]; rfl

/-- A stop of the list. -/
theorem stop_at {N : Nat} {f : Nat → Bool} {k : Nat} {x : Int} (h : (listN N f)[k]? = some x) : ∃ c : Nat, c < N ∧ f c = true ∧ x = (c : Int) := mem_listN.1 (List.mem_of_getElem? h)
theorem stop_lt {N : Nat} {f : Nat → Bool} {i j : Nat} {x y : Int} (hx : (listN N f)[i]? = some x) (hy : (listN N f)[j]? = some y) (h : i < j) : x < y := by
  obtain ⟨h1, rfl⟩ := List.getElem?_eq_some_iff.1 hx
  obtain ⟨h2, rfl⟩ := List.getElem?_eq_some_iff.1 hy
  exact List.pairwise_iff_getElem.1 (listN_rise N f) i j h1 h2 h
theorem stop_none {N : Nat} {f : Nat → Bool} {k : Nat} {x y : Int} (hx : (listN N f)[k]? = some x) (hy : (listN N f)[k + 1]? = some y) {c : Nat} (hc : c < N) (hf : f c = true) : ((c : Int) ≤ x) ∨ y ≤ (c : Int) := by
  obtain ⟨j, hj, e⟩ := List.getElem_of_mem (mem_listN.2 ⟨c, hc, hf, rfl⟩)
  have hj' : (listN N f)[j]? = some (c : Int) := by rw [List.getElem?_eq_getElem hj, e]
  by_cases h1 : j ≤ k
  · refine Or.inl ?_
    by_cases h2 : j = k
    · subst h2; rw [hx] at hj'; cases hj'; exact Int.le_refl _
    · exact Int.le_of_lt (stop_lt hj' hx (by omega))
  · refine Or.inr ?_
    by_cases h2 : j = k + 1
    · subst h2; rw [hy] at hj'; cases hj'; exact Int.le_refl _
    · exact Int.le_of_lt (stop_lt hy hj' (by omega))
theorem stop_next {N : Nat} {f : Nat → Bool} {c : Nat} (hc : c < N) (hf : f c = true) : nextN N f ((c : Int) - 1) = (c : Int) := next_at f hc hf _ (by omega) (fun j _ _ h => by omega)
theorem stop_prev {N : Nat} {f : Nat → Bool} {c : Nat} (hc : c < N) (hf : f c = true) : prevN N f ((c : Int) + 1) = (c : Int) := prev_at f hc hf _ (by omega) (fun j _ _ h => by omega)
theorem stop_next2 {N : Nat} {f : Nat → Bool} {k : Nat} {p c : Nat} (hp : (listN N f)[k]? = some (p : Int)) (h : (listN N f)[k + 1]? = some (c : Int)) : nextN N f (p : Int) = (c : Int) := by
  obtain ⟨d, hd, hf, e⟩ := stop_at h
  obtain rfl : c = d := by omega
  exact next_at f hd hf _ (stop_lt hp h (by omega)) (fun j hj hfj hlt => by have := stop_none hp h hj hfj; omega)
theorem stop_prev2 {N : Nat} {f : Nat → Bool} {k : Nat} {p c : Nat} (hp : (listN N f)[k]? = some (p : Int)) (h : (listN N f)[k + 1]? = some (c : Int)) : prevN N f (c : Int) = (p : Int) := by
  obtain ⟨d, hd, hf, e⟩ := stop_at hp
  obtain rfl : p = d := by omega
  exact prev_at f hd hf _ (stop_lt hp h (by omega)) (fun j hj hfj hlt => by have := stop_none hp h hj hfj; omega)

theorem wp_calm {P : Program} {id : Nat} {Q : Exit → Act → World → Prop} {a : Act} {w : World} {ops : List Oper} (C : World → Prop) (hC : C w.drew) (hm : P.follows .mixedOrders = true) (hB : Region.lexB .any ops.toArray = true)
    (h : wpQuiet P ops.toArray C (fun a' => ∀ w', C w' → Q .normal a' w') ops a) : (Code.region id ops.toArray true).wp P Q a w := by
  simp only [Region.lexB, Bool.and_eq_true] at hB
  refine wp_region_any hm (wpAny_of_quiet (C := C) (Q := fun a' => ∀ w', C w' → Q .normal a' w') (fun _ w' hw' h => h w' hw') _ _ _ _ hC ?_)
  have := wpAnyQ_lex (C := C) (md := .any) hB.1 ops 0 (Array.replicate ops.toArray.size false) a (by simp) (by simpa using hB.2) (by simpa using h)
  simpa using this
/-- One operation: its value, and why it is that in every world. -/
theorem calm_op {P : Program} {ops : Array Oper} {C : World → Prop} {Q : Act → Prop} {a : Act} {o : Oper} {rest : List Oper} (v : Value) (hw : Region.wanted o (yielded ops a.tmps) = true)
    (h : ∀ w, C w → o.quietAt P a C w v) (hk : wpQuiet P ops C Q rest (a.put o.dst v)) : wpQuiet P ops C Q (o :: rest) a :=
  wpQuiet_step fun K hK => by rw [if_pos hw]; exact ⟨v, h, hK _ hk⟩
/-- One operation that is passed over. -/
theorem calm_skip {P : Program} {ops : Array Oper} {C : World → Prop} {Q : Act → Prop} {a : Act} {o : Oper} {rest : List Oper} (hw : Region.wanted o (yielded ops a.tmps) = false)
    (hk : wpQuiet P ops C Q rest (a.put o.dst undef)) : wpQuiet P ops C Q (o :: rest) a :=
  wpQuiet_step fun K hK => by rw [if_neg (by rw [hw]; simp)]; exact hK _ hk

/-- A proposition that nothing looks into. -/
structure Box (p : Prop) : Prop where
  out : p
theorem boxed_op {P : Program} {ops : Array Oper} {C : World → Prop} {Q : Act → Prop} {a : Act} {o : Oper} {rest : List Oper} (v : Value) (hw : Region.wanted o (yielded ops a.tmps) = true)
    (h : ∀ w, C w → o.quietAt P a C w v) (hk : Box (wpQuiet P ops C Q rest (a.put o.dst v))) : Box (wpQuiet P ops C Q (o :: rest) a) := ⟨calm_op v hw h hk.out⟩
theorem boxed_skip {P : Program} {ops : Array Oper} {C : World → Prop} {Q : Act → Prop} {a : Act} {o : Oper} {rest : List Oper} (hw : Region.wanted o (yielded ops a.tmps) = false)
    (hk : Box (wpQuiet P ops C Q rest (a.put o.dst undef))) : Box (wpQuiet P ops C Q (o :: rest) a) := ⟨calm_skip hw hk.out⟩
theorem boxed_end {P : Program} {ops : Array Oper} {C : World → Prop} {Q : Act → Prop} {a : Act} (h : Q a) : Box (wpQuiet P ops C Q [] a) := ⟨wpQuiet_nil h⟩
theorem wp_boxed {P : Program} {id : Nat} {Q : Exit → Act → World → Prop} {a : Act} {w : World} {ops : List Oper} (C : World → Prop) (hC : C w.drew) (hm : P.follows .mixedOrders = true) (hB : Region.lexB .any ops.toArray = true)
    (h : Box (wpQuiet P ops.toArray C (fun a' => ∀ w', C w' → Q .normal a' w') ops a)) : (Code.region id ops.toArray true).wp P Q a w := wp_calm C hC hm hB h.out

set_option maxRecDepth 100000 in
set_option maxHeartbeats 16000000 in
theorem goes_calls (a : Option Addr) (cap : Nat) (l : List OpV) (x y n : Int) (w : World) (h : OpsIn w a l) (hok : OpsOk l) (hn : l.length ≤ 9223372036854775807) :
    Calls Try.prog 5 #[.slice a l.length cap, .agg #[.int .i64 x, .int .i64 y], .int .i64 n] w fun e w' => e = .returned (.bool true) ∧ Below w.heap.size w w' := by
  have HF := Lib.hid (few_any a cap l)
  obtain ⟨nl, hnl⟩ : ∃ nl, nl = l.length := ⟨_, rfl⟩
  rw [← hnl] at HF ⊢
  have HN := Lib.hid hnl
  clear hnl
  go_enter Try.func5, Try.ntmps5
  go_wp2_with fail
  obtain ⟨w0, hw0⟩ : ∃ w0, w0 = w.alloc (.cells #[.int .i64 x, .int .i64 y] 47) := ⟨_, rfl⟩
  have hk0 : Kept0 w w0 := by rw [hw0]; exact (Kept.refl _ w).alloc _
  have b0 : w0.cell? ⟨w.heap.size, 0, none⟩ = some (.int .i64 x) := by rw [hw0]; simp [go_sem]
  have b1 : w0.cell? ⟨w.heap.size, 1, none⟩ = some (.int .i64 y) := by rw [hw0]; simp [go_sem]
  rw [← hw0]
  clear hw0
  replace h := h.kept0 hk0
  refine (new_yes 30 _ (by omega) (by omega)).mono ?_
  rintro e w1 ⟨t, m, rfl, ht, hm, hT1, hk1⟩
  go_wp2_with fail
  refine (HF.out _ (h.kept0 hk1) hok (by rw [HN.out]; exact hn)).mono ?_
  cases hf : fewB l with
  | false =>
    clear hf
    rintro e w2 ⟨rfl, rfl⟩
    go_wp2_with fail
    refine (awake_any _).mono ?_
    rintro e w4 ⟨rfl, hk4⟩
    go_wp2_with fail
    go_ret
    exact ⟨rfl, Kept0.below ((hk0.trans hk1).trans hk4)⟩
  | true =>
    clear hf
    rintro e w2 ⟨rfl, rfl⟩
    by_cases hr : -40 ≤ n ∧ n ≤ 40
    · obtain ⟨hr1, hr2⟩ := hr
      have p1 : ¬ n < -40 := by omega
      have p2 : ¬ 40 < n := by omega
      go_wp2_with fail
      refine (refNew_any 30 _ (by omega) (by omega)).mono ?_
      rintro e w3 ⟨r, b, rfl, hr, hb, hR3, hk3⟩
      have hs1 := hk1.size
      have hNP : NewPair w0.heap.size w3 t m r := ⟨b, 30, _, hT1.kept0 hk3, hR3, ht, hm, by omega, by omega⟩
      have k0 := hk1.trans hk3
      clear hT1 hk1 hR3 hk3 hr hb hs1 ht hm HF
      go_wp2_with fail
      go_loopw [9, 10] (fun s9 i wr => ∃ k r : Nat, k ≤ nl ∧ i = .int .i64 (k : Int) ∧ s9 = .pointer (some ⟨r, 0, none⟩) ∧ NewPair w0.heap.size wr t m r ∧ Kept0 w0 wr) (fun _ i _ => nl - (num i).toNat)
      case atStart => exact ⟨0, r, by omega, rfl, rfl, hNP, k0⟩
      case round =>
        clear hNP k0
        obtain ⟨k, r9, hk, rfl, rfl, hNP, hkr⟩ := hrel
        by_cases hlt : k < nl
        · obtain ⟨o, ho⟩ : ∃ o, l[k]? = some o := ⟨_, List.getElem?_eq_getElem (by rw [← HN.out]; exact hlt)⟩
          obtain ⟨b, off, ha, hO0, hI0⟩ := h k o ho
          have hO := hO0.kept0 hkr
          have HON := Lib.hid (hok k o ho)
          have HI0 := Lib.hid hI0
          have hn' := hn
          rw [← HN.out] at hn'
          have c0 := hO.ask
          have c1 := hO.n
          have c2 := hO.m
          have c3 := hO.l
          rw [ha]
          clear ho hO0 hO ha h hok hn hI0
          go_wp2_with fail
          refine (does_new w0 wr t m r9 o hNP hkr HI0.out HON.out).mono ?_
          rintro e w8 ⟨r', rfl, hNP8, hk8⟩
          clear c0 c1 c2 c3 hNP hkr
          go_wp2_with fail
          go_roundw
          case rel => exact ⟨k + 1, r', by omega, by go_num, rfl, hNP8, hk8⟩
          case measure => simp [num]; omega
        · clear h hok hn
          obtain ⟨wb, hwb⟩ : ∃ wb, wb = wr := ⟨_, rfl⟩
          subst hwb
          obtain ⟨b8, N, f, hT, _, _⟩ := hNP
          have h1 := hT.N1
          have h2 := hT.N2
          have d0 := kcell hkr b0
          have d1 := kcell hkr b1
          have HT := Lib.hid hT
          have HB : Hid (Kept0 w wb) := hk0.trans hkr
          clear hT b0 b1 hk0 hkr
          go_wp2_with fail
          clear hlt hk
          obtain ⟨A, hA⟩ : ∃ A, A = min x y := ⟨_, rfl⟩
          obtain ⟨B, hB⟩ : ∃ B, B = max x y := ⟨_, rfl⟩
          have hAB : A ≤ B := by omega
          rw [← hA, ← hB]
          clear hA hB d0 d1
          refine (cols_any t m N f _ HT.out).mono ?_
          rintro e w2 ⟨rfl, rfl⟩
          have q1 : ¬ nextN N f B < nextN N f A := by have := next_mono (N := N) f A B hAB; omega
          have q2 : ¬ prevN N f B < prevN N f A := by have := prev_mono (N := N) f A B hAB; omega
          have q3 : ¬ nextN N f A < 0 := by have := next_lo f h1 A; omega
          have q4 : ¬ (N : Int) ≤ nextN N f A := by have := next_hi (N := N) f A; omega
          have q5 : ¬ prevN N f B < 0 := by have := prev_lo (N := N) f B; omega
          have q6 : ¬ (N : Int) ≤ prevN N f B := by have := prev_hi f h1 B; omega
          go_upto_region 12 with fail
          go_cut [121] from 78 to 120 (fun s wx => s = .bool false ∧ Kept0 wb wx)
          case first =>
            go_wp2_with fail
            refine (next_any t m N f _ _ HT.out).mono ?_
            rintro e w2 ⟨rfl, k2⟩
            go_wp2_with fail
            refine (next_any t m N f _ _ (HT.out.kept0 k2)).mono ?_
            rintro e w4 ⟨rfl, k4⟩
            replace k4 := k2.trans k4
            clear k2
            go_wp2_with fail
            refine (prev_any t m N f _ _ (HT.out.kept0 k4)).mono ?_
            rintro e w2 ⟨rfl, k2⟩
            replace k2 := k4.trans k2
            clear k4
            go_wp2_with fail
            refine (prev_any t m N f _ _ (HT.out.kept0 k2)).mono ?_
            rintro e w4 ⟨rfl, k4⟩
            replace k4 := k2.trans k4
            clear k2
            go_wp2_with fail
            refine (next_any t m N f _ _ (HT.out.kept0 k4)).mono ?_
            rintro e w2 ⟨rfl, k2⟩
            replace k2 := k4.trans k2
            clear k4
            go_wp2_with fail
            refine (next_any t m N f _ _ (HT.out.kept0 k2)).mono ?_
            rintro e w4 ⟨rfl, k4⟩
            replace k4 := k2.trans k4
            clear k2
            go_wp2_with fail
            refine (prev_any t m N f _ _ (HT.out.kept0 k4)).mono ?_
            rintro e w2 ⟨rfl, k2⟩
            replace k2 := k4.trans k2
            clear k4
            go_wp2_with fail
            refine (prev_any t m N f _ _ (HT.out.kept0 k2)).mono ?_
            rintro e w4 ⟨rfl, k4⟩
            replace k4 := k2.trans k4
            clear k2
            go_wp2_with fail
            go_meet
            exact ⟨by simp [q1, q2, q3, q4, q5, q6], k4⟩
          case rest =>
          obtain ⟨rfl, k4⟩ := hcut
          go_upto_region 14 with fail
          clear q1 q2 q3 q4 q5 q6
          go_cut [166] from 122 to 165 (fun s wx => s = .bool false ∧ Kept0 wb wx)
          case first =>
            by_cases g1 : 0 ≤ A
            · by_cases g2 : A < (N : Int)
              · have f1 : A < (N : Int) - 1 → A < nextN N f A := next_gt f A
                have f2 : (N : Int) - 1 ≤ A → nextN N f A = (N : Int) - 1 := next_last f A
                have f3 : 0 < A → prevN N f A < A := prev_lt f A
                have f4 : A ≤ 0 → prevN N f A = 0 := prev_first f A
                have e1 : ¬ nextN N f A < A := by omega
                have e2 : ¬ A < prevN N f A := by omega
                have e3 : A < (N : Int) - 1 → ¬ nextN N f A = A := by omega
                have e4 : 0 < A → ¬ prevN N f A = A := by omega
                have HE3 := Lib.hid e3
                have HE4 := Lib.hid e4
                clear f1 f2 f3 f4 e3 e4
                go_wp2_with fail
                refine (next_any t m N f _ _ (HT.out.kept0 k4)).mono ?_
                rintro e w2 ⟨rfl, k2⟩
                replace k2 := k4.trans k2
                clear k4
                go_wp2_with fail
                refine (prev_any t m N f _ _ (HT.out.kept0 k2)).mono ?_
                rintro e w4 ⟨rfl, k4⟩
                replace k4 := k2.trans k4
                clear k2
                by_cases g3 : A < (N : Int) - 1
                · have e3 := HE3.out g3
                  go_wp2_with fail
                  refine (next_any t m N f _ _ (HT.out.kept0 k4)).mono ?_
                  rintro e w2 ⟨rfl, k2⟩
                  replace k2 := k4.trans k2
                  clear k4
                  by_cases g4 : 0 < A
                  · have e4 := HE4.out g4
                    go_wp2_with fail
                    refine (prev_any t m N f _ _ (HT.out.kept0 k2)).mono ?_
                    rintro e w4 ⟨rfl, k4⟩
                    replace k4 := k2.trans k4
                    clear k2
                    go_wp2_with fail
                    go_meet
                    exact ⟨by simp; omega, k4⟩
                  · go_wp2_with fail
                    go_meet
                    exact ⟨by simp; omega, k2⟩
                · by_cases g4 : 0 < A
                  · have e4 := HE4.out g4
                    go_wp2_with fail
                    refine (prev_any t m N f _ _ (HT.out.kept0 k4)).mono ?_
                    rintro e w2 ⟨rfl, k2⟩
                    replace k2 := k4.trans k2
                    clear k4
                    go_wp2_with fail
                    go_meet
                    exact ⟨by simp; omega, k2⟩
                  · go_wp2_with fail
                    go_meet
                    exact ⟨by simp; omega, k4⟩
              · go_wp2_with fail
                go_meet
                exact ⟨by first | rfl | (simp; omega), k4⟩
            · go_wp2_with fail
              go_meet
              exact ⟨by first | rfl | (simp; omega), k4⟩
          case rest =>
          obtain ⟨rfl, k6⟩ := hcut
          clear k4
          go_wp2_with fail
          go_loopw [14, 15] (fun s14 i wx => ∃ k : Nat, (k : Int) ≤ max 0 n ∧ i = .int .i64 (k : Int) ∧ s14 = .int .i64 (itF (nextN N f) k A) ∧ Kept0 wb wx) (fun _ i _ => n.toNat - (num i).toNat)
          case atStart => exact ⟨0, by omega, rfl, rfl, k6⟩
          case round =>
          clear k6
          obtain ⟨k, hk, rfl, rfl, kx⟩ := hrel
          by_cases hlt : (k : Int) < n
          · go_wp2_with fail
            refine (go_any t m N f _ 1 _ (HT.out.kept0 kx) (by omega)).mono ?_
            rw [goN_one]
            rintro e w5 ⟨rfl, k5⟩
            go_wp2_with fail
            go_roundw
            case rel => exact ⟨k + 1, by omega, by go_num, rfl, kx.trans k5⟩
            case measure => simp [num]; omega
          obtain ⟨C1, hC1⟩ : ∃ C1, C1 = itF (nextN N f) k A := ⟨_, rfl⟩
          rw [← hC1]
          have HC : Hid (C1 = itF (nextN N f) n.toNat A) := by rw [hC1, show k = n.toNat by omega]; exact Lib.hid rfl
          clear hC1
          go_wp2_with fail
          go_loopw [14, 16] (fun s14 i wx => ∃ k : Nat, (k : Int) ≤ max 0 (-n) ∧ i = .int .i64 (-(k : Int)) ∧ s14 = .int .i64 (itF (prevN N f) k C1) ∧ Kept0 wb wx) (fun _ i _ => (-n).toNat - (-(num i)).toNat)
          case atStart => exact ⟨0, by omega, rfl, rfl, kx⟩
          case round =>
          clear kx hlt hk
          obtain ⟨k, hk, rfl, rfl, kx⟩ := hrel
          by_cases hlt : n < -(k : Int)
          · go_wp2_with fail
            refine (go_any t m N f _ (-1) _ (HT.out.kept0 kx) (by omega)).mono ?_
            rw [goN_back]
            rintro e w5 ⟨rfl, k5⟩
            go_wp2_with fail
            go_roundw
            case rel => exact ⟨k + 1, by omega, by go_num, rfl, kx.trans k5⟩
            case measure => simp [num]; omega
          obtain ⟨C2, hC2⟩ : ∃ C2, C2 = itF (prevN N f) k C1 := ⟨_, rfl⟩
          rw [← hC2]
          have HC2 : Hid (n ≠ 0 → goN N f A n = C2) := fun h0 => by rw [hC2, show k = (-n).toNat by omega, HC.out, goN_it h0]
          clear hC2 HC
          go_upto_region 25 with fail
          clear hlt hk
          go_cut [193] from 184 to 192 (fun s wx => s = .bool false ∧ Kept0 wb wx)
          case first =>
            by_cases h0 : n = 0
            · subst h0
              go_wp2_with fail
              go_meet
              exact ⟨by first | rfl | simp, kx⟩
            · have hg := HC2.out h0
              go_wp2_with fail
              refine (go_any t m N f _ n _ (HT.out.kept0 kx) (by omega)).mono ?_
              rw [hg]
              rintro e w5 ⟨rfl, k5⟩
              go_wp2_with fail
              go_meet
              exact ⟨by first | rfl | simp, kx.trans k5⟩
          case rest =>
          obtain ⟨rfl, k6⟩ := hcut
          clear kx
          go_wp2_with fail
          refine (list_any t m N f _ (HT.out.kept0 k6)).mono ?_
          rintro e wl ⟨al, capl, rfl, hI, _, k7⟩
          have HT7 := Lib.hid (HT.out.kept0 (k6.trans k7))
          have HB7 : Hid (Kept0 w wl) := (HB.out.trans k6).trans k7
          have hLen := listN_len N f
          obtain ⟨L, hL⟩ : ∃ L, L = (listN N f).length := ⟨_, rfl⟩
          rw [← hL] at hLen ⊢
          have HLn := Lib.hid hL
          have HI := Lib.hid hI
          clear hL hI k6 k7 HT HB
          go_wp2_with fail
          go_loopw [18, 244] (fun i s244 wx => ∃ k : Nat, k ≤ L ∧ i = .int .i64 (k : Int) ∧ (k = 0 → s244 = undef) ∧ Kept0 wl wx) (fun i _ _ => L - (num i).toNat)
          case atStart => exact ⟨0, by omega, rfl, fun _ => rfl, Kept.refl _ _⟩
          case round =>
          obtain ⟨k, hk, hi, hu, k8⟩ := hrel
          by_cases hlt : k < L
          · obtain ⟨s, hs⟩ : ∃ s, (listN N f)[k]? = some s := ⟨_, List.getElem?_eq_getElem (by rw [← HLn.out]; exact hlt)⟩
            obtain ⟨c, hc, hfc, rfl⟩ := stop_at hs
            obtain ⟨bl, off, rfl, cell0⟩ := HI.out k _ hs
            have cell := kcell k8 cell0
            have e1 : nextN N f ((c : Int) - 1) = (c : Int) := stop_next hc hfc
            have e2 : prevN N f ((c : Int) + 1) = (c : Int) := stop_prev hc hfc
            have v1 : wrap64 ((c : Int) - 1) = (c : Int) - 1 := w64 (by omega) (by omega)
            have v2 : wrap64 ((c : Int) + 1) = (c : Int) + 1 := w64 (by omega) (by omega)
            have e1a : nextN N f (wrap64 ((c : Int) - 1)) = (c : Int) := by rw [v1]; exact e1
            have e1b : nextN N f (IntKind.i64.wrap ((c : Int) - 1)) = (c : Int) := by rw [IntWalk.i64_left, v1]; exact e1
            have e2a : prevN N f (wrap64 ((c : Int) + 1)) = (c : Int) := by rw [v2]; exact e2
            have e2b : prevN N f (IntKind.i64.wrap ((c : Int) + 1)) = (c : Int) := by rw [IntWalk.i64_left, v2]; exact e2
            have H1 := Lib.hid (And.intro e1 (And.intro e1a e1b))
            have H2 := Lib.hid (And.intro e2 (And.intro e2a e2b))
            clear cell0 hfc v1 v2 e1 e2 e1a e1b e2a e2b
            by_cases hk0 : k = 0
            · subst hk0
              have hu := hu rfl
              subst hu
              replace hi := hi.trans (show Value.int .i64 ((0 : Nat) : Int) = Value.int .i64 0 from rfl)
              subst hi
              clear hs
              rw [Nat.add_zero] at cell
              go_wp2_with fail
              have HC1 : Hid (∀ W, Kept0 wr W → Calls Try.prog 21 #[.pointer (some ⟨t, 0, none⟩), .int .i64 ((c : Int) - 1)] W fun e w' => e = .returned (.int .i64 (c : Int)) ∧ Kept0 W w') := fun W hW => by
                have h := next_any t m N f ((c : Int) - 1) W (HT7.out.kept0 (k8.trans hW))
                rw [H1.out.1] at h
                exact h
              have HC2 : Hid (∀ W, Kept0 wr W → Calls Try.prog 22 #[.pointer (some ⟨t, 0, none⟩), .int .i64 ((c : Int) + 1)] W fun e w' => e = .returned (.int .i64 (c : Int)) ∧ Kept0 W w') := fun W hW => by
                have h := prev_any t m N f ((c : Int) + 1) W (HT7.out.kept0 (k8.trans hW))
                rw [H2.out.1] at h
                exact h
              clear H1 H2
              try simp only [List.append_eq, List.cons_append, List.nil_append]
              refine wp_boxed (fun w' => Kept0 wr w') ((Kept.refl _ wr).drewN 1) (by kernel_rfl) (by kernel_rfl) ?_
              refine boxed_op (.pointer (some ⟨t, 0, none⟩)) (by kernel_rfl) (fun w' hw' => by go_simp) ?_
              simp only [Act.put, List.setIfInBounds_toArray, List.set_cons_zero, List.set_cons_succ]
              refine boxed_op (.slice (some ⟨bl, off, none⟩) L capl) (by kernel_rfl) (fun w' hw' => by go_simp) ?_
              simp only [Act.put, List.setIfInBounds_toArray, List.set_cons_zero, List.set_cons_succ]
              refine boxed_op (.int .i64 0) (by kernel_rfl) (fun w' hw' => by go_simp) ?_
              simp only [Act.put, List.setIfInBounds_toArray, List.set_cons_zero, List.set_cons_succ]
              refine boxed_op (.pointer (some ⟨bl, off, none⟩)) (by kernel_rfl) (fun w' hw' => by go_simp) ?_
              simp only [Act.put, List.setIfInBounds_toArray, List.set_cons_zero, List.set_cons_succ]
              refine boxed_op (.int .i64 (c : Int)) (by kernel_rfl) (fun w' hw' => by have y := kcell hw' cell; go_simp) ?_
              simp only [Act.put, List.setIfInBounds_toArray, List.set_cons_zero, List.set_cons_succ]
              refine boxed_op (.int .i64 ((c : Int) - 1)) (by kernel_rfl) (fun w' hw' => by go_simp; exact IntWalk.i64_in _ (by constructor <;> omega)) ?_
              simp only [Act.put, List.setIfInBounds_toArray, List.set_cons_zero, List.set_cons_succ]
              refine boxed_op (.int .i64 (c : Int)) (by kernel_rfl) (fun w' hw' => ?_) ?_
              · go_simp
                exact (HC1.out w' hw').mono fun e w5 ⟨h1, h2⟩ => ⟨h1, hw'.trans h2⟩
              simp only [Act.put, List.setIfInBounds_toArray, List.set_cons_zero, List.set_cons_succ]
              refine boxed_op (.slice (some ⟨bl, off, none⟩) L capl) (by kernel_rfl) (fun w' hw' => by go_simp) ?_
              simp only [Act.put, List.setIfInBounds_toArray, List.set_cons_zero, List.set_cons_succ]
              refine boxed_op (.int .i64 0) (by kernel_rfl) (fun w' hw' => by go_simp) ?_
              simp only [Act.put, List.setIfInBounds_toArray, List.set_cons_zero, List.set_cons_succ]
              refine boxed_op (.pointer (some ⟨bl, off, none⟩)) (by kernel_rfl) (fun w' hw' => by go_simp) ?_
              simp only [Act.put, List.setIfInBounds_toArray, List.set_cons_zero, List.set_cons_succ]
              refine boxed_op (.int .i64 (c : Int)) (by kernel_rfl) (fun w' hw' => by have y := kcell hw' cell; go_simp) ?_
              simp only [Act.put, List.setIfInBounds_toArray, List.set_cons_zero, List.set_cons_succ]
              refine boxed_op (.bool false) (by kernel_rfl) (fun w' hw' => by go_simp) ?_
              simp only [Act.put, List.setIfInBounds_toArray, List.set_cons_zero, List.set_cons_succ]
              refine boxed_op (.bool false) (by kernel_rfl) (fun w' hw' => by go_simp) ?_
              simp only [Act.put, List.setIfInBounds_toArray, List.set_cons_zero, List.set_cons_succ]
              refine boxed_op (.pointer (some ⟨t, 0, none⟩)) (by kernel_rfl) (fun w' hw' => by go_simp) ?_
              simp only [Act.put, List.setIfInBounds_toArray, List.set_cons_zero, List.set_cons_succ]
              refine boxed_op (.slice (some ⟨bl, off, none⟩) L capl) (by kernel_rfl) (fun w' hw' => by go_simp) ?_
              simp only [Act.put, List.setIfInBounds_toArray, List.set_cons_zero, List.set_cons_succ]
              refine boxed_op (.int .i64 0) (by kernel_rfl) (fun w' hw' => by go_simp) ?_
              simp only [Act.put, List.setIfInBounds_toArray, List.set_cons_zero, List.set_cons_succ]
              refine boxed_op (.pointer (some ⟨bl, off, none⟩)) (by kernel_rfl) (fun w' hw' => by go_simp) ?_
              simp only [Act.put, List.setIfInBounds_toArray, List.set_cons_zero, List.set_cons_succ]
              refine boxed_op (.int .i64 (c : Int)) (by kernel_rfl) (fun w' hw' => by have y := kcell hw' cell; go_simp) ?_
              simp only [Act.put, List.setIfInBounds_toArray, List.set_cons_zero, List.set_cons_succ]
              refine boxed_op (.int .i64 ((c : Int) + 1)) (by kernel_rfl) (fun w' hw' => by go_simp; exact IntWalk.i64_in _ (by constructor <;> omega)) ?_
              simp only [Act.put, List.setIfInBounds_toArray, List.set_cons_zero, List.set_cons_succ]
              refine boxed_op (.int .i64 (c : Int)) (by kernel_rfl) (fun w' hw' => ?_) ?_
              · go_simp
                exact (HC2.out w' hw').mono fun e w5 ⟨h1, h2⟩ => ⟨h1, hw'.trans h2⟩
              simp only [Act.put, List.setIfInBounds_toArray, List.set_cons_zero, List.set_cons_succ]
              refine boxed_op (.slice (some ⟨bl, off, none⟩) L capl) (by kernel_rfl) (fun w' hw' => by go_simp) ?_
              simp only [Act.put, List.setIfInBounds_toArray, List.set_cons_zero, List.set_cons_succ]
              refine boxed_op (.int .i64 0) (by kernel_rfl) (fun w' hw' => by go_simp) ?_
              simp only [Act.put, List.setIfInBounds_toArray, List.set_cons_zero, List.set_cons_succ]
              refine boxed_op (.pointer (some ⟨bl, off, none⟩)) (by kernel_rfl) (fun w' hw' => by go_simp) ?_
              simp only [Act.put, List.setIfInBounds_toArray, List.set_cons_zero, List.set_cons_succ]
              refine boxed_op (.int .i64 (c : Int)) (by kernel_rfl) (fun w' hw' => by have y := kcell hw' cell; go_simp) ?_
              simp only [Act.put, List.setIfInBounds_toArray, List.set_cons_zero, List.set_cons_succ]
              refine boxed_op (.bool false) (by kernel_rfl) (fun w' hw' => by go_simp) ?_
              simp only [Act.put, List.setIfInBounds_toArray, List.set_cons_zero, List.set_cons_succ]
              refine boxed_op (.bool false) (by kernel_rfl) (fun w' hw' => by go_simp) ?_
              simp only [Act.put, List.setIfInBounds_toArray, List.set_cons_zero, List.set_cons_succ]
              refine boxed_op (.bool false) (by kernel_rfl) (fun w' hw' => by go_simp) ?_
              simp only [Act.put, List.setIfInBounds_toArray, List.set_cons_zero, List.set_cons_succ]
              refine boxed_op (.int .i64 0) (by kernel_rfl) (fun w' hw' => by go_simp) ?_
              simp only [Act.put, List.setIfInBounds_toArray, List.set_cons_zero, List.set_cons_succ]
              refine boxed_op (.bool false) (by kernel_rfl) (fun w' hw' => by have z : decide ((0 : Int) < 0) = false := rfl; go_simp) ?_
              simp only [Act.put, List.setIfInBounds_toArray, List.set_cons_zero, List.set_cons_succ]
              refine boxed_op (.bool false) (by kernel_rfl) (fun w' hw' => by go_simp) ?_
              simp only [Act.put, List.setIfInBounds_toArray, List.set_cons_zero, List.set_cons_succ]
              refine boxed_skip (by kernel_rfl) ?_
              simp only [Act.put, List.setIfInBounds_toArray, List.set_cons_zero, List.set_cons_succ]
              refine boxed_skip (by kernel_rfl) ?_
              simp only [Act.put, List.setIfInBounds_toArray, List.set_cons_zero, List.set_cons_succ]
              refine boxed_skip (by kernel_rfl) ?_
              simp only [Act.put, List.setIfInBounds_toArray, List.set_cons_zero, List.set_cons_succ]
              refine boxed_skip (by kernel_rfl) ?_
              simp only [Act.put, List.setIfInBounds_toArray, List.set_cons_zero, List.set_cons_succ]
              refine boxed_skip (by kernel_rfl) ?_
              simp only [Act.put, List.setIfInBounds_toArray, List.set_cons_zero, List.set_cons_succ]
              refine boxed_skip (by kernel_rfl) ?_
              simp only [Act.put, List.setIfInBounds_toArray, List.set_cons_zero, List.set_cons_succ]
              refine boxed_skip (by kernel_rfl) ?_
              simp only [Act.put, List.setIfInBounds_toArray, List.set_cons_zero, List.set_cons_succ]
              refine boxed_skip (by kernel_rfl) ?_
              simp only [Act.put, List.setIfInBounds_toArray, List.set_cons_zero, List.set_cons_succ]
              refine boxed_skip (by kernel_rfl) ?_
              simp only [Act.put, List.setIfInBounds_toArray, List.set_cons_zero, List.set_cons_succ]
              refine boxed_skip (by kernel_rfl) ?_
              simp only [Act.put, List.setIfInBounds_toArray, List.set_cons_zero, List.set_cons_succ]
              refine boxed_skip (by kernel_rfl) ?_
              simp only [Act.put, List.setIfInBounds_toArray, List.set_cons_zero, List.set_cons_succ]
              refine boxed_skip (by kernel_rfl) ?_
              simp only [Act.put, List.setIfInBounds_toArray, List.set_cons_zero, List.set_cons_succ]
              refine boxed_skip (by kernel_rfl) ?_
              simp only [Act.put, List.setIfInBounds_toArray, List.set_cons_zero, List.set_cons_succ]
              refine boxed_skip (by kernel_rfl) ?_
              simp only [Act.put, List.setIfInBounds_toArray, List.set_cons_zero, List.set_cons_succ]
              refine boxed_skip (by kernel_rfl) ?_
              simp only [Act.put, List.setIfInBounds_toArray, List.set_cons_zero, List.set_cons_succ]
              refine boxed_skip (by kernel_rfl) ?_
              simp only [Act.put, List.setIfInBounds_toArray, List.set_cons_zero, List.set_cons_succ]
              refine boxed_skip (by kernel_rfl) ?_
              simp only [Act.put, List.setIfInBounds_toArray, List.set_cons_zero, List.set_cons_succ]
              refine boxed_skip (by kernel_rfl) ?_
              simp only [Act.put, List.setIfInBounds_toArray, List.set_cons_zero, List.set_cons_succ]
              refine boxed_skip (by kernel_rfl) ?_
              simp only [Act.put, List.setIfInBounds_toArray, List.set_cons_zero, List.set_cons_succ]
              refine boxed_skip (by kernel_rfl) ?_
              simp only [Act.put, List.setIfInBounds_toArray, List.set_cons_zero, List.set_cons_succ]
              refine boxed_skip (by kernel_rfl) ?_
              simp only [Act.put, List.setIfInBounds_toArray, List.set_cons_zero, List.set_cons_succ]
              refine boxed_skip (by kernel_rfl) ?_
              simp only [Act.put, List.setIfInBounds_toArray, List.set_cons_zero, List.set_cons_succ]
              refine boxed_skip (by kernel_rfl) ?_
              simp only [Act.put, List.setIfInBounds_toArray, List.set_cons_zero, List.set_cons_succ]
              refine boxed_skip (by kernel_rfl) ?_
              simp only [Act.put, List.setIfInBounds_toArray, List.set_cons_zero, List.set_cons_succ]
              refine boxed_skip (by kernel_rfl) ?_
              simp only [Act.put, List.setIfInBounds_toArray, List.set_cons_zero, List.set_cons_succ]
              refine boxed_skip (by kernel_rfl) ?_
              simp only [Act.put, List.setIfInBounds_toArray, List.set_cons_zero, List.set_cons_succ]
              refine boxed_op (.bool false) (by kernel_rfl) (fun w' hw' => by go_simp) ?_
              simp only [Act.put, List.setIfInBounds_toArray, List.set_cons_zero, List.set_cons_succ]
              refine boxed_op (.bool false) (by kernel_rfl) (fun w' hw' => by go_simp) ?_
              simp only [Act.put, List.setIfInBounds_toArray, List.set_cons_zero, List.set_cons_succ]
              refine boxed_end ?_
              rintro w4 hk4
              have k9 := k8.trans hk4
              clear hk4
              go_wp2_with fail
              go_roundw
              case rel => exact ⟨1, by omega, by go_num, fun e => by omega, k9⟩
              case measure => simp [num]; omega
            · obtain ⟨j, hj⟩ : ∃ j, k = j + 1 := ⟨k - 1, by omega⟩
              have hjk : (k : Int) - 1 = (j : Int) := by omega
              have hjL : j < L := by omega
              subst hi
              have hk1 : (0 : Int) < (k : Int) := by omega
              have hk2 : 0 < k := by omega
              have hk3 : decide (0 < k) = true := decide_eq_true hk2
              have hw1 : wrap64 ((k : Int) - 1) = (j : Int) := by rw [w64 (by omega) (by omega)]; exact hjk
              have hw2 : IntKind.i64.wrap ((k : Int) - 1) = (j : Int) := by rw [IntWalk.i64_left]; exact hw1
              clear hu
              rw [hj] at hs
              obtain ⟨p, hp⟩ : ∃ p, (listN N f)[j]? = some p := ⟨_, List.getElem?_eq_getElem (by rw [← HLn.out]; omega)⟩
              obtain ⟨d, hd, _, rfl⟩ := stop_at hp
              obtain ⟨bl', off', hbl, cell1⟩ := HI.out j _ hp
              cases hbl
              have cellp := kcell k8 cell1
              have H3 := Lib.hid (stop_next2 hp hs)
              have H4 := Lib.hid (stop_prev2 hp hs)
              clear cell1 hp hs hk0 hj
              go_wp2_with fail
              have HC1 : Hid (∀ W, Kept0 wr W → Calls Try.prog 21 #[.pointer (some ⟨t, 0, none⟩), .int .i64 ((c : Int) - 1)] W fun e w' => e = .returned (.int .i64 (c : Int)) ∧ Kept0 W w') := fun W hW => by
                have h := next_any t m N f ((c : Int) - 1) W (HT7.out.kept0 (k8.trans hW))
                rw [H1.out.1] at h
                exact h
              have HC2 : Hid (∀ W, Kept0 wr W → Calls Try.prog 22 #[.pointer (some ⟨t, 0, none⟩), .int .i64 ((c : Int) + 1)] W fun e w' => e = .returned (.int .i64 (c : Int)) ∧ Kept0 W w') := fun W hW => by
                have h := prev_any t m N f ((c : Int) + 1) W (HT7.out.kept0 (k8.trans hW))
                rw [H2.out.1] at h
                exact h
              have HC3 : Hid (∀ W, Kept0 wr W → Calls Try.prog 21 #[.pointer (some ⟨t, 0, none⟩), .int .i64 (d : Int)] W fun e w' => e = .returned (.int .i64 (c : Int)) ∧ Kept0 W w') := fun W hW => by
                have h := next_any t m N f (d : Int) W (HT7.out.kept0 (k8.trans hW))
                rw [H3.out] at h
                exact h
              have HC4 : Hid (∀ W, Kept0 wr W → Calls Try.prog 22 #[.pointer (some ⟨t, 0, none⟩), .int .i64 (c : Int)] W fun e w' => e = .returned (.int .i64 (d : Int)) ∧ Kept0 W w') := fun W hW => by
                have h := prev_any t m N f (c : Int) W (HT7.out.kept0 (k8.trans hW))
                rw [H4.out] at h
                exact h
              clear H1 H2 H3 H4
              try simp only [List.append_eq, List.cons_append, List.nil_append]
              refine wp_boxed (fun w' => Kept0 wr w') ((Kept.refl _ wr).drewN 1) (by kernel_rfl) (by kernel_rfl) ?_
              refine boxed_op (.pointer (some ⟨t, 0, none⟩)) (by kernel_rfl) (fun w' hw' => by go_simp) ?_
              simp only [Act.put, List.setIfInBounds_toArray, List.set_cons_zero, List.set_cons_succ]
              refine boxed_op (.slice (some ⟨bl, off, none⟩) L capl) (by kernel_rfl) (fun w' hw' => by go_simp) ?_
              simp only [Act.put, List.setIfInBounds_toArray, List.set_cons_zero, List.set_cons_succ]
              refine boxed_op (.int .i64 (k : Int)) (by kernel_rfl) (fun w' hw' => by go_simp) ?_
              simp only [Act.put, List.setIfInBounds_toArray, List.set_cons_zero, List.set_cons_succ]
              refine boxed_op (.pointer (some ⟨bl, off + k, none⟩)) (by kernel_rfl) (fun w' hw' => by go_simp) ?_
              simp only [Act.put, List.setIfInBounds_toArray, List.set_cons_zero, List.set_cons_succ]
              refine boxed_op (.int .i64 (c : Int)) (by kernel_rfl) (fun w' hw' => by have y := kcell hw' cell; go_simp) ?_
              simp only [Act.put, List.setIfInBounds_toArray, List.set_cons_zero, List.set_cons_succ]
              refine boxed_op (.int .i64 ((c : Int) - 1)) (by kernel_rfl) (fun w' hw' => by go_simp; exact IntWalk.i64_in _ (by constructor <;> omega)) ?_
              simp only [Act.put, List.setIfInBounds_toArray, List.set_cons_zero, List.set_cons_succ]
              refine boxed_op (.int .i64 (c : Int)) (by kernel_rfl) (fun w' hw' => ?_) ?_
              · go_simp
                exact (HC1.out w' hw').mono fun e w5 ⟨h1, h2⟩ => ⟨h1, hw'.trans h2⟩
              simp only [Act.put, List.setIfInBounds_toArray, List.set_cons_zero, List.set_cons_succ]
              refine boxed_op (.slice (some ⟨bl, off, none⟩) L capl) (by kernel_rfl) (fun w' hw' => by go_simp) ?_
              simp only [Act.put, List.setIfInBounds_toArray, List.set_cons_zero, List.set_cons_succ]
              refine boxed_op (.int .i64 (k : Int)) (by kernel_rfl) (fun w' hw' => by go_simp) ?_
              simp only [Act.put, List.setIfInBounds_toArray, List.set_cons_zero, List.set_cons_succ]
              refine boxed_op (.pointer (some ⟨bl, off + k, none⟩)) (by kernel_rfl) (fun w' hw' => by go_simp) ?_
              simp only [Act.put, List.setIfInBounds_toArray, List.set_cons_zero, List.set_cons_succ]
              refine boxed_op (.int .i64 (c : Int)) (by kernel_rfl) (fun w' hw' => by have y := kcell hw' cell; go_simp) ?_
              simp only [Act.put, List.setIfInBounds_toArray, List.set_cons_zero, List.set_cons_succ]
              refine boxed_op (.bool false) (by kernel_rfl) (fun w' hw' => by go_simp) ?_
              simp only [Act.put, List.setIfInBounds_toArray, List.set_cons_zero, List.set_cons_succ]
              refine boxed_op (.bool false) (by kernel_rfl) (fun w' hw' => by go_simp) ?_
              simp only [Act.put, List.setIfInBounds_toArray, List.set_cons_zero, List.set_cons_succ]
              refine boxed_op (.pointer (some ⟨t, 0, none⟩)) (by kernel_rfl) (fun w' hw' => by go_simp) ?_
              simp only [Act.put, List.setIfInBounds_toArray, List.set_cons_zero, List.set_cons_succ]
              refine boxed_op (.slice (some ⟨bl, off, none⟩) L capl) (by kernel_rfl) (fun w' hw' => by go_simp) ?_
              simp only [Act.put, List.setIfInBounds_toArray, List.set_cons_zero, List.set_cons_succ]
              refine boxed_op (.int .i64 (k : Int)) (by kernel_rfl) (fun w' hw' => by go_simp) ?_
              simp only [Act.put, List.setIfInBounds_toArray, List.set_cons_zero, List.set_cons_succ]
              refine boxed_op (.pointer (some ⟨bl, off + k, none⟩)) (by kernel_rfl) (fun w' hw' => by go_simp) ?_
              simp only [Act.put, List.setIfInBounds_toArray, List.set_cons_zero, List.set_cons_succ]
              refine boxed_op (.int .i64 (c : Int)) (by kernel_rfl) (fun w' hw' => by have y := kcell hw' cell; go_simp) ?_
              simp only [Act.put, List.setIfInBounds_toArray, List.set_cons_zero, List.set_cons_succ]
              refine boxed_op (.int .i64 ((c : Int) + 1)) (by kernel_rfl) (fun w' hw' => by go_simp; exact IntWalk.i64_in _ (by constructor <;> omega)) ?_
              simp only [Act.put, List.setIfInBounds_toArray, List.set_cons_zero, List.set_cons_succ]
              refine boxed_op (.int .i64 (c : Int)) (by kernel_rfl) (fun w' hw' => ?_) ?_
              · go_simp
                exact (HC2.out w' hw').mono fun e w5 ⟨h1, h2⟩ => ⟨h1, hw'.trans h2⟩
              simp only [Act.put, List.setIfInBounds_toArray, List.set_cons_zero, List.set_cons_succ]
              refine boxed_op (.slice (some ⟨bl, off, none⟩) L capl) (by kernel_rfl) (fun w' hw' => by go_simp) ?_
              simp only [Act.put, List.setIfInBounds_toArray, List.set_cons_zero, List.set_cons_succ]
              refine boxed_op (.int .i64 (k : Int)) (by kernel_rfl) (fun w' hw' => by go_simp) ?_
              simp only [Act.put, List.setIfInBounds_toArray, List.set_cons_zero, List.set_cons_succ]
              refine boxed_op (.pointer (some ⟨bl, off + k, none⟩)) (by kernel_rfl) (fun w' hw' => by go_simp) ?_
              simp only [Act.put, List.setIfInBounds_toArray, List.set_cons_zero, List.set_cons_succ]
              refine boxed_op (.int .i64 (c : Int)) (by kernel_rfl) (fun w' hw' => by have y := kcell hw' cell; go_simp) ?_
              simp only [Act.put, List.setIfInBounds_toArray, List.set_cons_zero, List.set_cons_succ]
              refine boxed_op (.bool false) (by kernel_rfl) (fun w' hw' => by go_simp) ?_
              simp only [Act.put, List.setIfInBounds_toArray, List.set_cons_zero, List.set_cons_succ]
              refine boxed_op (.bool false) (by kernel_rfl) (fun w' hw' => by go_simp) ?_
              simp only [Act.put, List.setIfInBounds_toArray, List.set_cons_zero, List.set_cons_succ]
              refine boxed_op (.bool false) (by kernel_rfl) (fun w' hw' => by go_simp) ?_
              simp only [Act.put, List.setIfInBounds_toArray, List.set_cons_zero, List.set_cons_succ]
              refine boxed_op (.int .i64 (k : Int)) (by kernel_rfl) (fun w' hw' => by go_simp) ?_
              simp only [Act.put, List.setIfInBounds_toArray, List.set_cons_zero, List.set_cons_succ]
              refine boxed_op (.bool true) (by kernel_rfl) (fun w' hw' => by go_simp) ?_
              simp only [Act.put, List.setIfInBounds_toArray, List.set_cons_zero, List.set_cons_succ]
              refine boxed_op (.bool true) (by kernel_rfl) (fun w' hw' => by go_simp) ?_
              simp only [Act.put, List.setIfInBounds_toArray, List.set_cons_zero, List.set_cons_succ]
              refine boxed_op (.pointer (some ⟨t, 0, none⟩)) (by kernel_rfl) (fun w' hw' => by go_simp) ?_
              simp only [Act.put, List.setIfInBounds_toArray, List.set_cons_zero, List.set_cons_succ]
              refine boxed_op (.slice (some ⟨bl, off, none⟩) L capl) (by kernel_rfl) (fun w' hw' => by go_simp) ?_
              simp only [Act.put, List.setIfInBounds_toArray, List.set_cons_zero, List.set_cons_succ]
              refine boxed_op (.int .i64 (k : Int)) (by kernel_rfl) (fun w' hw' => by go_simp) ?_
              simp only [Act.put, List.setIfInBounds_toArray, List.set_cons_zero, List.set_cons_succ]
              refine boxed_op (.int .i64 (j : Int)) (by kernel_rfl) (fun w' hw' => by go_simp; exact IntWalk.i64_in _ (by constructor <;> omega)) ?_
              simp only [Act.put, List.setIfInBounds_toArray, List.set_cons_zero, List.set_cons_succ]
              refine boxed_op (.pointer (some ⟨bl, off + j, none⟩)) (by kernel_rfl) (fun w' hw' => by go_simp) ?_
              simp only [Act.put, List.setIfInBounds_toArray, List.set_cons_zero, List.set_cons_succ]
              refine boxed_op (.int .i64 (d : Int)) (by kernel_rfl) (fun w' hw' => by have y := kcell hw' cellp; go_simp) ?_
              simp only [Act.put, List.setIfInBounds_toArray, List.set_cons_zero, List.set_cons_succ]
              refine boxed_op (.int .i64 (c : Int)) (by kernel_rfl) (fun w' hw' => ?_) ?_
              · go_simp
                exact (HC3.out w' hw').mono fun e w5 ⟨h1, h2⟩ => ⟨h1, hw'.trans h2⟩
              simp only [Act.put, List.setIfInBounds_toArray, List.set_cons_zero, List.set_cons_succ]
              refine boxed_op (.slice (some ⟨bl, off, none⟩) L capl) (by kernel_rfl) (fun w' hw' => by go_simp) ?_
              simp only [Act.put, List.setIfInBounds_toArray, List.set_cons_zero, List.set_cons_succ]
              refine boxed_op (.int .i64 (k : Int)) (by kernel_rfl) (fun w' hw' => by go_simp) ?_
              simp only [Act.put, List.setIfInBounds_toArray, List.set_cons_zero, List.set_cons_succ]
              refine boxed_op (.pointer (some ⟨bl, off + k, none⟩)) (by kernel_rfl) (fun w' hw' => by go_simp) ?_
              simp only [Act.put, List.setIfInBounds_toArray, List.set_cons_zero, List.set_cons_succ]
              refine boxed_op (.int .i64 (c : Int)) (by kernel_rfl) (fun w' hw' => by have y := kcell hw' cell; go_simp) ?_
              simp only [Act.put, List.setIfInBounds_toArray, List.set_cons_zero, List.set_cons_succ]
              refine boxed_op (.bool false) (by kernel_rfl) (fun w' hw' => by go_simp) ?_
              simp only [Act.put, List.setIfInBounds_toArray, List.set_cons_zero, List.set_cons_succ]
              refine boxed_op (.bool false) (by kernel_rfl) (fun w' hw' => by go_simp) ?_
              simp only [Act.put, List.setIfInBounds_toArray, List.set_cons_zero, List.set_cons_succ]
              refine boxed_op (.pointer (some ⟨t, 0, none⟩)) (by kernel_rfl) (fun w' hw' => by go_simp) ?_
              simp only [Act.put, List.setIfInBounds_toArray, List.set_cons_zero, List.set_cons_succ]
              refine boxed_op (.slice (some ⟨bl, off, none⟩) L capl) (by kernel_rfl) (fun w' hw' => by go_simp) ?_
              simp only [Act.put, List.setIfInBounds_toArray, List.set_cons_zero, List.set_cons_succ]
              refine boxed_op (.int .i64 (k : Int)) (by kernel_rfl) (fun w' hw' => by go_simp) ?_
              simp only [Act.put, List.setIfInBounds_toArray, List.set_cons_zero, List.set_cons_succ]
              refine boxed_op (.pointer (some ⟨bl, off + k, none⟩)) (by kernel_rfl) (fun w' hw' => by go_simp) ?_
              simp only [Act.put, List.setIfInBounds_toArray, List.set_cons_zero, List.set_cons_succ]
              refine boxed_op (.int .i64 (c : Int)) (by kernel_rfl) (fun w' hw' => by have y := kcell hw' cell; go_simp) ?_
              simp only [Act.put, List.setIfInBounds_toArray, List.set_cons_zero, List.set_cons_succ]
              refine boxed_op (.int .i64 (d : Int)) (by kernel_rfl) (fun w' hw' => ?_) ?_
              · go_simp
                exact (HC4.out w' hw').mono fun e w5 ⟨h1, h2⟩ => ⟨h1, hw'.trans h2⟩
              simp only [Act.put, List.setIfInBounds_toArray, List.set_cons_zero, List.set_cons_succ]
              refine boxed_op (.slice (some ⟨bl, off, none⟩) L capl) (by kernel_rfl) (fun w' hw' => by go_simp) ?_
              simp only [Act.put, List.setIfInBounds_toArray, List.set_cons_zero, List.set_cons_succ]
              refine boxed_op (.int .i64 (k : Int)) (by kernel_rfl) (fun w' hw' => by go_simp) ?_
              simp only [Act.put, List.setIfInBounds_toArray, List.set_cons_zero, List.set_cons_succ]
              refine boxed_op (.int .i64 (j : Int)) (by kernel_rfl) (fun w' hw' => by go_simp; exact IntWalk.i64_in _ (by constructor <;> omega)) ?_
              simp only [Act.put, List.setIfInBounds_toArray, List.set_cons_zero, List.set_cons_succ]
              refine boxed_op (.pointer (some ⟨bl, off + j, none⟩)) (by kernel_rfl) (fun w' hw' => by go_simp) ?_
              simp only [Act.put, List.setIfInBounds_toArray, List.set_cons_zero, List.set_cons_succ]
              refine boxed_op (.int .i64 (d : Int)) (by kernel_rfl) (fun w' hw' => by have y := kcell hw' cellp; go_simp) ?_
              simp only [Act.put, List.setIfInBounds_toArray, List.set_cons_zero, List.set_cons_succ]
              refine boxed_op (.bool false) (by kernel_rfl) (fun w' hw' => by go_simp) ?_
              simp only [Act.put, List.setIfInBounds_toArray, List.set_cons_zero, List.set_cons_succ]
              refine boxed_op (.bool false) (by kernel_rfl) (fun w' hw' => by go_simp) ?_
              simp only [Act.put, List.setIfInBounds_toArray, List.set_cons_zero, List.set_cons_succ]
              refine boxed_op (.bool false) (by kernel_rfl) (fun w' hw' => by go_simp) ?_
              simp only [Act.put, List.setIfInBounds_toArray, List.set_cons_zero, List.set_cons_succ]
              refine boxed_op (.bool false) (by kernel_rfl) (fun w' hw' => by go_simp) ?_
              simp only [Act.put, List.setIfInBounds_toArray, List.set_cons_zero, List.set_cons_succ]
              refine boxed_end ?_
              rintro w4 hk4
              have k9 := k8.trans hk4
              clear hk4
              go_wp2_with fail
              go_roundw
              case rel => exact ⟨k + 1, by omega, by go_num, fun e => by omega, k9⟩
              case measure => simp [num]; omega
          · subst hi
            go_wp2_with fail
            refine (awake_any _).mono ?_
            rintro e w9 ⟨rfl, hk9⟩
            go_wp2_with fail
            go_ret
            exact ⟨rfl, Kept0.below ((HB7.out.trans k8).trans hk9)⟩
    · have hor : n < -40 ∨ (¬ n < -40 ∧ 40 < n) := by omega
      clear hr
      rcases hor with p1 | ⟨p1, p2⟩
      all_goals
        go_wp2_with fail
        refine (awake_any _).mono ?_
        rintro e w4 ⟨rfl, hk4⟩
        go_wp2_with fail
        go_ret
        exact ⟨rfl, Kept0.below ((hk0.trans hk1).trans hk4)⟩
end Go.Proofs.Ytkfphgcbpphbnaa
