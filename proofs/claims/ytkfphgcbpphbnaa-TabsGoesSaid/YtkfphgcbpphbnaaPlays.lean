/-
  What TabsPlays does: it returns true, and writes nothing that was there.
-/
import Derived.Test.YtkfphgcbpphbnaaDoesB
namespace Go.Proofs.Ytkfphgcbpphbnaa
open Go.RowKit Go.Maps Go.ChangeMaps Go.MapKept

theorem ints_same (a1 a2 : Option Addr) (c1 c2 : Nat) (l : List Int) (w : World) (h1 : IntsIn w a1 l) (h2 : IntsIn w a2 l) (hn : l.length ≤ 9223372036854775807) :
    Calls Try.prog 13 #[.slice a1 l.length c1, .slice a2 l.length c2] w fun e w' => e = .returned (.bool true) ∧ Kept0 w w' :=
  (ints_any a1 a2 c1 c2 l l w h1 h2 hn hn).mono fun e w' ⟨h, k⟩ => ⟨by rw [h, decide_eq_true rfl], k⟩
theorem list_small {N : Nat} (h : N ≤ 255) (f : Nat → Bool) : (listN N f).length ≤ 9223372036854775807 := by have := listN_len N f; omega

set_option maxRecDepth 100000 in
set_option maxHeartbeats 8000000 in
theorem plays_calls (c : Int) (a : Option Addr) (cap : Nat) (l : List OpV) (w : World) (h : OpsIn w a l) (hok : OpsOk l) (hn : l.length ≤ 9223372036854775807) :
    Calls Try.prog 3 #[.int .i64 c, .slice a l.length cap] w fun e w' => e = .returned (.bool true) ∧ Below w.heap.size w w' := by
  have HF := Lib.hid (few_any a cap l)
  obtain ⟨n, hnl⟩ : ∃ n, n = l.length := ⟨_, rfl⟩
  rw [← hnl] at HF ⊢
  have HN := Lib.hid hnl
  clear hnl
  by_cases hmay : 1 ≤ c ∧ c ≤ 255
  · obtain ⟨N0, rfl⟩ := Int.eq_ofNat_of_zero_le (show 0 ≤ c by omega)
    have hN1 : 1 ≤ N0 := by omega
    have hN2 : N0 ≤ 255 := by omega
    have q1 : ¬ (N0 : Int) < 1 := by omega
    have q2 : ¬ 255 < (N0 : Int) := by omega
    clear hmay
    go_enter Try.func3, Try.ntmps3
    go_wp2_with fail
    refine (new_yes N0 _ hN1 hN2).mono ?_
    rintro e w1 ⟨t, m, rfl, ht, hm, hT1, hk1⟩
    go_wp2_with fail
    refine (HF.out _ (h.kept0 hk1) hok (by rw [HN.out]; exact hn)).mono ?_
    cases hf : fewB l with
    | false =>
      clear hf
      rintro e w2 ⟨rfl, rfl⟩
      go_wp2_with fail
      refine (awake_any _).mono ?_
      rintro e w4 ⟨rfl, hk4⟩
      go_wp2_with fail
      go_ret
      exact ⟨rfl, Kept0.below (hk1.trans hk4)⟩
    | true =>
      clear hf
      rintro e w2 ⟨rfl, rfl⟩
      go_wp2_with fail
      refine (refNew_any N0 _ hN1 hN2).mono ?_
      rintro e w3 ⟨r, b, rfl, hr, hb, hR3, hk3⟩
      have hs1 := hk1.size
      have hNP : NewPair w.heap.size w3 t m r := ⟨b, N0, _, hT1.kept0 hk3, hR3, ht, hm, by omega, by omega⟩
      have k0 := hk1.trans hk3
      clear hT1 hk1 hR3 hk3 hr hb hs1 ht hm
      go_wp2_with fail
      go_loopw [7, 8] (fun s7 i wr => ∃ k r : Nat, k ≤ n ∧ i = .int .i64 (k : Int) ∧ s7 = .pointer (some ⟨r, 0, none⟩) ∧ NewPair w.heap.size wr t m r ∧ Kept0 w wr) (fun _ i _ => n - (num i).toNat)
      case atStart => exact ⟨0, r, by omega, rfl, rfl, hNP, k0⟩
      case round =>
        clear hNP k0
        obtain ⟨k, r9, hk, rfl, rfl, hNP, hkr⟩ := hrel
        by_cases hlt : k < n
        · obtain ⟨o, ho⟩ : ∃ o, l[k]? = some o := ⟨_, List.getElem?_eq_getElem (by rw [← HN.out]; exact hlt)⟩
          obtain ⟨b, off, ha, hO0, hI0⟩ := h k o ho
          have hO := hO0.kept0 hkr
          have HON := Lib.hid (hok k o ho)
          have HI0 := Lib.hid hI0
          have hn' := hn
          rw [← HN.out] at hn'
          have c0 := hO.ask
          have c1 := hO.n
          have c2 := hO.m
          have c3 := hO.l
          rw [ha]
          clear ho hO0 hO ha h hok hn hI0 HF
          go_wp2_with fail
          refine (does_new w wr t m r9 o hNP hkr HI0.out HON.out).mono ?_
          rintro e w8 ⟨r', rfl, hNP8, hk8⟩
          obtain ⟨b8, N8, f8, hT8, hR8, e1, e2, e3, e4⟩ := hNP8
          have r0 := hR8.c0
          have hN8 := hT8.N2
          have HT8 := Lib.hid hT8
          have HR8 := Lib.hid hR8
          have HL8 := Lib.hid (list_small hN8 f8)
          clear c0 c1 c2 c3 hNP hkr hT8 hR8
          go_wp2_with fail
          go_region_held3 (fun w' => Kept0 w8 w' ∧ w'.cell? ⟨r', 0, none⟩ = some (.slice (some ⟨b8, 0, none⟩) N8 N8))
            (first | exact ⟨(Kept.refl _ w8).drew, r0⟩ | exact ⟨kx, kcell kx r0⟩)
            (first
              | (go_at_call 14; refine (list_any t m N8 f8 _ (HT8.out.kept0 (Kept.refl _ w8).drew)).mono ?_; rintro e w5 ⟨a5, cap5, rfl, hI5, _, hk5⟩; have kx : Kept0 w8 w5 := (Kept.refl _ w8).drew.trans hk5)
              | (go_at_call 15; refine (refList_any r' b8 N8 f8 _ (HR8.out.kept0 kx)).mono ?_; rintro e w6 ⟨a6, cap6, rfl, hI6, _, hk6⟩; have kx : Kept0 w8 w6 := kx.trans hk6)
              | (go_at_call 13; refine (ints_same _ _ _ _ _ _ (hI5.kept0 hk6) hI6 HL8.out).mono ?_; rintro e w7 ⟨rfl, hk7⟩; have kx : Kept0 w8 w7 := kx.trans hk7)
              | (go_at_call 16; refine (cols_any t m N8 f8 _ (HT8.out.kept0 kx)).mono ?_; rintro e w9 ⟨rfl, rfl⟩))
          have hNP9 : NewPair w.heap.size w7 t m r' := ⟨b8, N8, f8, HT8.out.kept0 kx, HR8.out.kept0 kx, e1, e2, e3, e4⟩
          have hk9 := hk8.trans kx
          clear hk5 hk6 hk7 hI5 hI6 hk8 kx
          go_wp2_with fail
          go_roundw
          case rel => exact ⟨k + 1, r', by omega, by go_num, rfl, hNP9, hk9⟩
          case measure => simp [num]; omega
        · go_wp2_with fail
          refine (awake_any _).mono ?_
          rintro e w8 ⟨rfl, hk8⟩
          go_wp2_with fail
          go_ret
          exact ⟨rfl, Kept0.below (hkr.trans hk8)⟩
  · go_enter Try.func3, Try.ntmps3
    go_wp2_with fail
    refine (new_no _ _ hmay).mono ?_
    rintro e w1 ⟨rfl, hk1⟩
    have hor : c < 1 ∨ (¬ c < 1 ∧ 255 < c) := by omega
    clear hmay
    rcases hor with q1 | ⟨q1, q2⟩
    all_goals
      go_wp2_with fail
      refine (awake_any _).mono ?_
      rintro e w4 ⟨rfl, hk4⟩
      go_wp2_with fail
      go_ret
      exact ⟨rfl, Kept0.below (hk1.trans hk4)⟩
end Go.Proofs.Ytkfphgcbpphbnaa
