/-
  What GridPlays does: it returns true, and writes nothing that was there.
-/
import Derived.Test.YtekjjnfbahmjcaaSame
namespace Go.Proofs.Ytekjjnfbahmjcaa
open Go.RowKit

theorem newR_int (r c x : Int) (w : World) (h : 1 ≤ r ∧ r ≤ 255 ∧ 1 ≤ c ∧ c ≤ 255) :
    Calls Try.prog 15 #[.int .i64 r, .int .i64 c, .int .i64 x] w fun e w' => ∃ g t cap, e = .returned (.pointer (some ⟨g, 0, none⟩)) ∧ w.heap.size ≤ g ∧ w.heap.size ≤ t ∧ RefAt w' g t cap r.toNat c.toNat (fun _ => x) ∧ Kept0 w w' := by
  have := newR r.toNat c.toNat x w (by omega) (by omega) (by omega) (by omega)
  rwa [Int.toNat_of_nonneg (by omega), Int.toNat_of_nonneg (by omega)] at this

set_option maxRecDepth 100000 in
set_option maxHeartbeats 4000000 in
theorem plays_calls (sr sc x : Int) (a : Option Addr) (cap : Nat) (l : List OpV) (w : World) (h : OpsIn w a l) (hok : OpsOk l) (hn : l.length ≤ 9223372036854775807) :
    Calls Try.prog 3 #[.agg #[.int .i64 sr, .int .i64 sc], .int .i64 x, .slice a l.length cap] w fun e w' => e = .returned (.bool true) ∧ Below w.heap.size w w' := by
  obtain ⟨n, hnl⟩ : ∃ n, n = l.length := ⟨_, rfl⟩
  rw [← hnl]
  have HN := Lib.hid hnl
  clear hnl
  have k0 : Kept0 w (w.alloc (.cells #[.int .i64 sr, .int .i64 sc] 23)) := (Kept.refl _ w).alloc _
  have b0 : (w.alloc (.cells #[.int .i64 sr, .int .i64 sc] 23)).cell? ⟨w.heap.size, 0, none⟩ = some (.int .i64 sr) := by simp [go_sem]
  have b1 : (w.alloc (.cells #[.int .i64 sr, .int .i64 sc] 23)).cell? ⟨w.heap.size, 1, none⟩ = some (.int .i64 sc) := by simp [go_sem]
  by_cases hmay : 1 ≤ sr ∧ sr ≤ 255 ∧ 1 ≤ sc ∧ sc ≤ 255
  · have HM := Lib.hid hmay
    have HB : Hid (decide (1 ≤ sr ∧ sr ≤ 255 ∧ 1 ≤ sc ∧ sc ≤ 255) = true) := decide_eq_true hmay
    clear hmay
    by_cases hbig : 12 < sr ∨ 20 < sc
    · have hor : (12 < sr) ∨ (¬ 12 < sr ∧ 20 < sc) := by omega
      clear hbig
      rcases hor with h1 | ⟨h1, h2⟩
      all_goals
        go_enter Try.func3, Try.ntmps3
        go_wp2_with fail
        refine (mayR_any _ _ _).mono ?_
        rw [HB.out]
        rintro e w1 ⟨rfl, rfl⟩
        go_wp2_with fail
        refine (awake_any _).mono ?_
        rintro e w4 ⟨rfl, hk4⟩
        go_wp2_with fail
        go_ret
        exact ⟨rfl, Kept0.below (k0.trans hk4)⟩
    · have d1 : decide (12 < sr) = false := by simp; omega
      have d2 : decide (20 < sc) = false := by simp; omega
      clear hbig
      go_enter Try.func3, Try.ntmps3
      go_wp2_with fail
      refine (mayR_any _ _ _).mono ?_
      rw [HB.out]
      rintro e w1 ⟨rfl, rfl⟩
      obtain ⟨w2, hw2⟩ : ∃ w2, w2 = w.alloc (.cells #[.int .i64 sr, .int .i64 sc] 23) := ⟨_, rfl⟩
      rw [← hw2] at k0 b0 b1 ⊢
      clear hw2
      go_wp2_with fail
      rw [HN.out]
      refine (few_opt a cap l _ (h.kept k0) hn).mono ?_
      rw [← HN.out]
      cases hf : fewB l with
      | false =>
        clear hf
        rintro e w3 ⟨rfl, hk3⟩
        go_wp2_with fail
        refine (awake_any _).mono ?_
        rintro e w4 ⟨rfl, hk4⟩
        go_wp2_with fail
        go_ret
        exact ⟨rfl, Kept0.below ((k0.trans hk3).trans hk4)⟩
      | true =>
        clear hf
        rintro e w3 ⟨rfl, hk3⟩
        replace b0 := kcell hk3 b0
        replace b1 := kcell hk3 b1
        replace k0 := k0.trans hk3
        have hB3s : w.heap.size ≤ w3.heap.size := k0.size
        clear hk3
        go_wp2_with fail
        refine (new_int _ _ _ _ HM.out).mono ?_
        rintro e w4 ⟨g, t, rfl, hg4, ht4, hG, hk4⟩
        replace b0 := kcell hk4 b0
        replace b1 := kcell hk4 b1
        replace k0 := k0.trans hk4
        go_wp2_with fail
        refine (may_any _ _ _).mono ?_
        rw [mayE_yes HM.out]
        rintro e w5 ⟨rfl, hk5⟩
        replace b0 := kcell hk5 b0
        replace b1 := kcell hk5 b1
        replace k0 := k0.trans hk5
        have hG5 := hG.kept hk5 (fun e => e) (fun e => e)
        have s34 := hk4.size
        have s45 := hk5.size
        go_wp2_with fail
        refine (newR_int _ _ _ _ HM.out).mono ?_
        rintro e w6 ⟨r, tr, capr, rfl, hr6, htr6, hR6, hk6⟩
        have hgl := hG5.lt
        have htl := hG5.row.lt
        have hP : Pair w6 g t r tr sr.toNat sc.toNat (fun _ => x) := ⟨⟨_, hG5.kept hk6 (fun e => e) (fun e => e)⟩, ⟨_, hR6⟩, by omega, by omega, by omega, by omega⟩
        replace k0 := k0.trans hk6
        go_wp2_with fail
        refine (same_any w6 g t r tr _ _ _ hP).mono ?_
        rintro e w7 ⟨rfl, hk7⟩
        obtain ⟨⟨cg, hG6⟩, ⟨cr, hR6'⟩, m1, m2, m3, m4⟩ := hP
        have hNP : NewPair w.heap.size w7 g r := ⟨t, tr, _, _, _, ⟨⟨_, hG6.kept hk7 (fun e => e) (fun e => e)⟩, ⟨_, hR6'.kept hk7 (fun e => e) (fun e => e)⟩, m1, m2, m3, m4⟩, by omega, by omega, by omega, by omega⟩
        replace k0 := k0.trans hk7
        clear hG hG5 hG6 hR6 hR6' hk4 hk5 hk6 hk7 m1 m2 m3 m4 hg4 ht4 hr6 htr6 hgl htl s34 s45 b0 b1
        go_wp2_with fail
        go_loopw [10, 11, 12, 13] (fun s10 i s12 s13 wr => ∃ k r : Nat, k ≤ n ∧ i = .int .i64 k ∧ s10 = .pointer (some ⟨r, 0, none⟩) ∧ NewPair w.heap.size wr g r ∧ Kept0 w wr) (fun _ i _ _ _ => n - (intOf i).toNat)
        case atStart => exact ⟨0, r, by omega, rfl, rfl, hNP, k0⟩
        case round =>
          clear hNP k0
          obtain ⟨k, r9, hk, rfl, rfl, ⟨tg, tr9, R, C, f, hP, e1, e2, e3, e4⟩, hkr⟩ := hrel
          by_cases hlt : k < n
          · obtain ⟨o, ho⟩ : ∃ o, l[k]? = some o := ⟨_, List.getElem?_eq_getElem (by rw [← HN.out]; exact hlt)⟩
            obtain ⟨b, off, ha, hO0⟩ := h k o ho
            have hO := hO0.kept hkr
            have HON := Lib.hid (hok k o ho)
            have hn' := hn
            rw [← HN.out] at hn'
            have c0 := hO.ask
            have c1 := hO.ar
            have c2 := hO.ac
            have c3 := hO.br
            have c4 := hO.bc
            have c5 := hO.n
            have c6 := hO.x
            rw [ha]
            clear ho hO0 hO ha h hok hn
            go_wp2_with fail
            refine (does_any wr g tg r9 tr9 R C f o hP HON.out).mono ?_
            rintro e w8 ⟨r', tg', tr', R', C', f', rfl, hP8, hk8, q1, q2, q3⟩
            have hsz := hkr.size
            have hk08 : Kept0 w w8 := hkr.later hk8 (fun i hi e => by omega)
            go_wp2_with fail
            refine (same_any w8 g tg' r' tr' R' C' f' hP8).mono ?_
            rintro e w9 ⟨rfl, hk9⟩
            obtain ⟨⟨cg, hG8⟩, ⟨cr, hR8⟩, m1, m2, m3, m4⟩ := hP8
            have hNP9 : NewPair w.heap.size w9 g r' := ⟨tg', tr', R', C', f', ⟨⟨_, hG8.kept hk9 (fun e => e) (fun e => e)⟩, ⟨_, hR8.kept hk9 (fun e => e) (fun e => e)⟩, m1, m2, m3, m4⟩, e1, by omega, by omega, by omega⟩
            have hk09 : Kept0 w w9 := hk08.trans hk9
            clear c0 c1 c2 c3 c4 c5 c6 hP hG8 hR8 hk8 hk9 q1 q2 q3 hk08 m1 m2 m3 m4
            go_wp2_with fail
            go_roundw
            case rel => exact ⟨k + 1, r', by omega, by go_num, rfl, hNP9, hk09⟩
            case measure => simp [intOf]; omega
          · go_wp2_with fail
            refine (awake_any _).mono ?_
            rintro e w8 ⟨rfl, hk8⟩
            go_wp2_with fail
            go_ret
            exact ⟨rfl, Kept0.below (hkr.trans hk8)⟩
  · have HM := Lib.hid hmay
    have HB : Hid (decide (1 ≤ sr ∧ sr ≤ 255 ∧ 1 ≤ sc ∧ sc ≤ 255) = false) := decide_eq_false hmay
    clear hmay
    go_enter Try.func3, Try.ntmps3
    go_wp2_with fail
    refine (mayR_any _ _ _).mono ?_
    rw [HB.out]
    rintro e w1 ⟨rfl, rfl⟩
    obtain ⟨w2, hw2⟩ : ∃ w2, w2 = w.alloc (.cells #[.int .i64 sr, .int .i64 sc] 23) := ⟨_, rfl⟩
    rw [← hw2] at k0 b0 b1 ⊢
    clear hw2
    go_wp2_with fail
    rw [HN.out]
    refine (few_opt a cap l _ (h.kept k0) hn).mono ?_
    rw [← HN.out]
    cases hf : fewB l with
    | false =>
      clear hf
      rintro e w3 ⟨rfl, hk3⟩
      go_wp2_with fail
      refine (awake_any _).mono ?_
      rintro e w4 ⟨rfl, hk4⟩
      go_wp2_with fail
      go_ret
      exact ⟨rfl, Kept0.below ((k0.trans hk3).trans hk4)⟩
    | true =>
      clear hf
      rintro e w3 ⟨rfl, hk3⟩
      replace b0 := kcell hk3 b0
      replace b1 := kcell hk3 b1
      replace k0 := k0.trans hk3
      go_wp2_with fail
      refine (new_no _ _ _ _ HM.out).mono ?_
      rintro e w4 ⟨rfl, hk4⟩
      replace b0 := kcell hk4 b0
      replace b1 := kcell hk4 b1
      replace k0 := k0.trans hk4
      go_wp2_with fail
      refine (may_any _ _ _).mono ?_
      rw [mayE_no HM.out]
      rintro e w5 ⟨rfl, hk5⟩
      go_wp2_with fail
      refine (awake_any _).mono ?_
      rintro e w6 ⟨rfl, hk6⟩
      go_wp2_with fail
      go_ret
      exact ⟨rfl, Kept0.below ((k0.trans hk5).trans hk6)⟩
end Go.Proofs.Ytekjjnfbahmjcaa
