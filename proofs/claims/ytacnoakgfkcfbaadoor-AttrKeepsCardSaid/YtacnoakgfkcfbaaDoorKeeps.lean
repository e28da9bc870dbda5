/-
  The law AttrKeeps: which attributes may be, which a personality has, and which it keeps.
-/
import Derived.Test.YtacnoakgfkcfbaaDoorPaints
import Derived.Test.YtacnoakgfkcfbaaDoorSums
namespace Go.Proofs.YtacnoakgfkcfbaaDoor
open Go.RowKit

set_option maxRecDepth 100000 in
set_option maxHeartbeats 4000000 in
theorem keeps_core (p a : Int) (m : Bool) (l : List Nat) (hl : ∀ x ∈ l, 0 < x ∧ x ≤ 8192) (hlen : l.length ≤ 12) (M K : Nat) (hM : totTo l l.length = M) (w : World)
    (H8 : Hid (Ans w 8 #[.int .i64 a] (.bool m))) (H9 : Hid (Ans w 9 #[.int .i64 a] (.int .i64 (if m then 0 else 1))))
    (H10 : Hid (∀ w', Kept0 w w' → Calls Tryd.prog 10 #[.int .i64 p] w' fun e w'' => ∃ ad, e = .returned (.slice ad l.length l.length) ∧ IntsAt w'' ad l ∧ Kept0 w w''))
    (H11 : Hid (m = true → ∀ ad w', IntsAt w' ad l → Calls Tryd.prog 11 #[.slice ad l.length l.length, .int .i64 a] w' fun e w'' => e = .returned (.int .i64 (K : Int)) ∧ w'' = w'))
    (hK : m = false → K = 0)
    (H12 : Hid (Ans w 12 #[.int .i64 p] (.int .i64 (M : Int)))) (H13 : Hid (Ans w 13 #[.int .i64 p, .int .i64 a] (.int .i64 (K : Int)))) (H14 : Hid (Ans w 14 #[] (.bool true))) :
    Calls Tryd.prog 3 #[.int .i64 p, .int .i64 a] w fun e w' => e = .returned (.bool true) ∧ Below w.heap.size w w' := by
  have HT := Lib.hid (totTo_le hl)
  obtain ⟨N, hN⟩ : ∃ N, N = l.length := ⟨_, rfl⟩
  rw [← hN] at hlen hM H10 H11
  have HMM := Lib.hid hM
  have HN := Lib.hid hN
  clear hM hN hl
  cases m
  all_goals
    go_enter Tryd.func3, Tryd.ntmps3
    go_wp2_with fail
    refine (H8.out _ (Kept.refl _ w)).mono ?_
    rintro e w1 ⟨rfl, hk⟩
    go_wp2_with fail
    refine (H9.out _ hk).mono ?_
    rintro e w2 ⟨rfl, hk⟩
    go_wp2_with fail
    refine (H10.out _ hk).mono ?_
    rintro e w3 ⟨ad, rfl, hA, hk⟩
    go_wp2_with fail
    have HA := Lib.hid hA
    clear hA
    go_loopw [6, 8] (fun s6 s8 wr => ∃ k : Nat, k ≤ N ∧ s8 = .int .i64 (k : Int) ∧ s6 = .int .i64 (totTo l k : Int) ∧ wr = w3) (fun _ s8 _ => N - (intOf s8).toNat)
    case atStart => exact ⟨0, by omega, rfl, rfl, rfl⟩
    case round =>
      obtain ⟨k, hk2, rfl, rfl, rfl⟩ := hrel
      by_cases hlt : k < N
      · obtain ⟨b, hb, hc⟩ := HA.out.at' (by intro e; have := HN.out; rw [e] at this; simp at this; omega)
        have hcell := hc k (by rw [← HN.out]; exact hlt)
        subst hb
        have htl := HT.out (k + 1)
        have htl2 := HT.out k
        have hst : totTo l (k + 1) = totTo l k + l.getD k 0 := rfl
        obtain ⟨x, hxx⟩ : ∃ x, x = l.getD k 0 := ⟨_, rfl⟩
        obtain ⟨s, hs⟩ : ∃ s, s = totTo l k := ⟨_, rfl⟩
        rw [← hxx] at hcell
        rw [← hs] at htl2
        rw [← hs, ← hxx] at hst
        rw [← hs]
        have hx1 : x ≤ 100000 := by rw [hst] at htl; omega
        have HST := Lib.hid hst
        clear hc hxx hs hst htl
        go_wp2_with fail
        go_roundw
        case rel => exact ⟨k + 1, by omega, by go_num, by rw [HST.out]; go_num, trivial⟩
        case measure => simp [intOf]; omega
      · obtain rfl : k = N := by omega
        rw [HMM.out]
        first
          | (go_wp2_with fail
             refine (H12.out _ hk).mono ?_
             rintro e w4 ⟨rfl, hk⟩
             go_wp2_with fail
             obtain rfl : K = 0 := hK (by simp)
             refine (H13.out _ hk).mono ?_
             rintro e w5 ⟨rfl, hk⟩
             go_wp2_with fail
             refine (H14.out _ hk).mono ?_
             rintro e w6 ⟨rfl, hk⟩
             go_wp2_with fail
             go_ret
             exact ⟨rfl, Kept0.below hk⟩)
          | (go_wp2_with fail
             refine (H11.out (by simp) _ _ HA.out).mono ?_
             rintro e w4 ⟨rfl, rfl⟩
             go_wp2_with fail
             refine (H12.out _ hk).mono ?_
             rintro e w4 ⟨rfl, hk⟩
             go_wp2_with fail
             refine (H13.out _ hk).mono ?_
             rintro e w5 ⟨rfl, hk⟩
             go_wp2_with fail
             refine (H14.out _ hk).mono ?_
             rintro e w6 ⟨rfl, hk⟩
             go_wp2_with fail
             go_ret
             exact ⟨rfl, Kept0.below hk⟩)

theorem keeps_calls (p a : Int) (h0 : -9223372036854775808 ≤ a) (h1 : a ≤ 9223372036854775807) (w : World) (hw : WordsAt w) :
    Calls Tryd.prog 3 #[.int .i64 p, .int .i64 a] w fun e w' => e = .returned (.bool true) ∧ Below w.heap.size w w' := by
  have H8 := Ans.pure (w := w) (refMay_any a h1)
  have H9 := Ans.words hw (fun w' => may_any a h0 h1 w')
  have H12 := Ans.pure (w := w) (mask_any p)
  have H13 := Ans.words hw (fun w' => keep_any p a h0 h1 w')
  have H14 := Ans.words hw awake_any
  refine keeps_core p a (mayB a) (maskL p) (maskL_in p).1 (maskL_in p).2 (maskN p) (keepN p a) (tot_mask p) w H8 H9 (fun w' hk => (refMask_any p w').mono ?_) ?_ (fun hm => by simp [keepN, hm]) H12 H13 H14
  · rintro e w'' ⟨ad, he, hA, hk2⟩
    exact ⟨ad, he, hA, hk.trans hk2⟩
  · intro hm ad w' hA
    obtain ⟨n, rfl⟩ := Int.eq_ofNat_of_zero_le (mayB_lt hm).1
    have hn : n < 16384 := by have := (mayB_lt hm).2; omega
    have := sum_any (maskL p) (maskL_in p).1 (by have := (maskL_in p).2; omega) n hn ad w' hA
    rw [sum_mask p n hn] at this
    rw [show keepN p (n : Int) = n &&& maskN p by simp [keepN, hm]]
    exact this

#print axioms keeps_calls
end Go.Proofs.YtacnoakgfkcfbaaDoor
