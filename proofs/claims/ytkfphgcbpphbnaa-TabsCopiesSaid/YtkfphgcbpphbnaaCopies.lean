/-
  What TabsCopies does: it returns true, and writes nothing that was there.
-/
import Derived.Test.YtkfphgcbpphbnaaPlays
namespace Go.Proofs.Ytkfphgcbpphbnaa
open Go.RowKit Go.Maps Go.ChangeMaps Go.MapKept

theorem resize_u (t m N : Nat) (f : Nat → Bool) (n : Int) (w : World) (h : TabsAt w t m N f) :
    Calls Try.prog 20 #[.pointer (some ⟨t, 0, none⟩), .int .i64 n] w fun e w' => ∃ v N' f', e = .returned (.int .i64 v) ∧ TabsAt w' t m N' f' ∧ Kept (fun k => k = t ∨ k = m) w w' := by
  by_cases hn : 1 ≤ n ∧ n ≤ 255
  · obtain ⟨M, rfl⟩ := Int.eq_ofNat_of_zero_le (show 0 ≤ n by omega)
    exact (resize_ok t m N f M w h (by omega) (by omega)).mono fun e w' ⟨h1, h2, h3⟩ => ⟨_, _, _, h1, h2, h3⟩
  · exact (resize_bad t n w hn).mono fun e w' ⟨h1, h2⟩ => ⟨_, N, f, h1, h.kept0 h2, Kept0.to h2⟩

/-- Tabs, the document's answer's, with the same stops, and other tabs that lie apart. -/
structure Trio (B : Nat) (w : World) (t m r b N : Nat) (f : Nat → Bool) (c mc : Nat) : Prop where
  tabs : TabsAt w t m N f
  ref : RefAt w r b N f
  copy : ∃ N' f', TabsAt w c mc N' f'
  n1 : t ≠ c ∧ t ≠ mc ∧ m ≠ c ∧ m ≠ mc ∧ r ≠ c ∧ r ≠ mc ∧ b ≠ c ∧ b ≠ mc
  n2 : B ≤ c ∧ B ≤ mc
theorem Trio.turn {B : Nat} {w w' : World} {t m r b N : Nat} {f : Nat → Bool} {c mc : Nat} (h : Trio B w t m r b N f c mc) (k : Kept (fun i => i = c ∨ i = mc) w w') {N' : Nat} {f' : Nat → Bool} (hc : TabsAt w' c mc N' f') : Trio B w' t m r b N f c mc := by
  obtain ⟨q1, q2, q3, q4, q5, q6, q7, q8⟩ := h.n1
  exact ⟨h.tabs.kept k (by omega) (by omega), h.ref.kept k (by omega) (by omega), ⟨N', f', hc⟩, h.n1, h.n2⟩
theorem Trio.kept0 {B : Nat} {w w' : World} {t m r b N : Nat} {f : Nat → Bool} {c mc : Nat} (h : Trio B w t m r b N f c mc) (k : Kept0 w w') : Trio B w' t m r b N f c mc := by
  obtain ⟨N', f', hc⟩ := h.copy
  exact h.turn (Kept0.to k) (hc.kept0 k)

set_option maxRecDepth 100000 in
set_option maxHeartbeats 8000000 in
theorem copies_calls (a1 a2 : Option Addr) (cap1 cap2 : Nat) (l1 l2 : List OpV) (w : World) (h1 : OpsIn w a1 l1) (ok1 : OpsOk l1) (len1 : l1.length ≤ 9223372036854775807) (h2 : OpsIn w a2 l2) (ok2 : OpsOk l2) (len2 : l2.length ≤ 9223372036854775807) :
    Calls Try.prog 4 #[.slice a1 l1.length cap1, .slice a2 l2.length cap2] w fun e w' => e = .returned (.bool true) ∧ Below w.heap.size w w' := by
  have HF1 := Lib.hid (few_any a1 cap1 l1)
  have HF2 := Lib.hid (few_any a2 cap2 l2)
  obtain ⟨n, hnl⟩ : ∃ n, n = l1.length := ⟨_, rfl⟩
  obtain ⟨n', hnl'⟩ : ∃ n', n' = l2.length := ⟨_, rfl⟩
  rw [← hnl] at HF1 ⊢
  rw [← hnl'] at HF2 ⊢
  have HN := Lib.hid hnl
  have HN' := Lib.hid hnl'
  clear hnl hnl'
  go_enter Try.func4, Try.ntmps4
  go_wp2_with fail
  refine (new_yes 30 _ (by omega) (by omega)).mono ?_
  rintro e w1 ⟨t, m, rfl, ht, hm, hT1, hk1⟩
  go_wp2_with fail
  refine (HF1.out _ (h1.kept0 hk1) ok1 (by rw [HN.out]; exact len1)).mono ?_
  cases hf : fewB l1 with
  | false =>
    clear hf
    rintro e w2 ⟨rfl, rfl⟩
    go_wp2_with fail
    refine (awake_any _).mono ?_
    rintro e w4 ⟨rfl, hk4⟩
    go_wp2_with fail
    go_ret
    exact ⟨rfl, Kept0.below (hk1.trans hk4)⟩
  | true =>
    clear hf
    rintro e w2 ⟨rfl, rfl⟩
    go_wp2_with fail
    refine (HF2.out _ (h2.kept0 hk1) ok2 (by rw [HN'.out]; exact len2)).mono ?_
    cases hf2 : fewB l2 with
    | false =>
      clear hf2
      rintro e w2 ⟨rfl, rfl⟩
      go_wp2_with fail
      refine (awake_any _).mono ?_
      rintro e w4 ⟨rfl, hk4⟩
      go_wp2_with fail
      go_ret
      exact ⟨rfl, Kept0.below (hk1.trans hk4)⟩
    | true =>
      clear hf2
      rintro e w2 ⟨rfl, rfl⟩
      go_wp2_with fail
      refine (refNew_any 30 _ (by omega) (by omega)).mono ?_
      rintro e w3 ⟨r, b, rfl, hr, hb, hR3, hk3⟩
      have hs1 := hk1.size
      have hNP : NewPair w.heap.size w3 t m r := ⟨b, 30, _, hT1.kept0 hk3, hR3, ht, hm, by omega, by omega⟩
      have k0 := hk1.trans hk3
      clear hT1 hk1 hR3 hk3 hr hb hs1 ht hm HF1 HF2
      go_wp2_with fail
      go_loopw [7, 8] (fun s7 i wr => ∃ k r : Nat, k ≤ n ∧ i = .int .i64 (k : Int) ∧ s7 = .pointer (some ⟨r, 0, none⟩) ∧ NewPair w.heap.size wr t m r ∧ Kept0 w wr) (fun _ i _ => n - (num i).toNat)
      case atStart => exact ⟨0, r, by omega, rfl, rfl, hNP, k0⟩
      case round =>
        clear hNP k0
        obtain ⟨k, r9, hk, rfl, rfl, hNP, hkr⟩ := hrel
        by_cases hlt : k < n
        · obtain ⟨o, ho⟩ : ∃ o, l1[k]? = some o := ⟨_, List.getElem?_eq_getElem (by rw [← HN.out]; exact hlt)⟩
          obtain ⟨b, off, ha, hO0, hI0⟩ := h1 k o ho
          have hO := hO0.kept0 hkr
          have HON := Lib.hid (ok1 k o ho)
          have HI0 := Lib.hid hI0
          have hn' := len1
          rw [← HN.out] at hn'
          have c0 := hO.ask
          have c1 := hO.n
          have c2 := hO.m
          have c3 := hO.l
          rw [ha]
          clear ho hO0 hO ha h1 ok1 len1 h2 ok2 len2 hI0
          go_wp2_with fail
          refine (does_new w wr t m r9 o hNP hkr HI0.out HON.out).mono ?_
          rintro e w8 ⟨r', rfl, hNP8, hk8⟩
          clear c0 c1 c2 c3 hNP hkr
          go_wp2_with fail
          go_roundw
          case rel => exact ⟨k + 1, r', by omega, by go_num, rfl, hNP8, hk8⟩
          case measure => simp [num]; omega
        · clear h1 ok1 len1
          obtain ⟨b8, N8, f8, hT8, hR8, e1, e2, e3, e4⟩ := hNP
          go_wp2_with fail
          clear hlt hk
          refine (copy_any t m N8 f8 _ hT8).mono ?_
          rintro e w8 ⟨c, mc, rfl, hc, hmc, hC8, hk8⟩
          have hsz := hkr.size
          have htl := hT8.lt
          have hml := hT8.set.lt
          have hrl := hR8.lt
          have hbl := hR8.ltb
          have hTr : Trio w.heap.size w8 t m r9 b8 N8 f8 c mc := ⟨hT8.kept0 hk8, hR8.kept0 hk8, ⟨N8, f8, hC8⟩, by omega, by omega⟩
          have k8 := hkr.trans hk8
          have hN8 := hT8.N2
          have HL8 := Lib.hid (list_small hN8 f8)
          have HC8 := Lib.hid hC8
          have HTr := Lib.hid hTr
          have HR8 := Lib.hid (hR8.kept0 hk8)
          have r0 := (hR8.kept0 hk8).c0
          clear hT8 hR8 hkr hk8 hC8 hTr hsz htl hml hrl hbl hc hmc
          go_wp2_with fail
          go_region_held3 (fun w' => Kept0 w8 w' ∧ w'.cell? ⟨r9, 0, none⟩ = some (.slice (some ⟨b8, 0, none⟩) N8 N8))
            (first | exact ⟨(Kept.refl _ w8).drew, r0⟩ | exact ⟨kx, kcell kx r0⟩)
            (first
              | (go_at_call 14; refine (list_any c mc N8 f8 _ (HC8.out.kept0 (Kept.refl _ w8).drew)).mono ?_; rintro e w5 ⟨a5, cap5, rfl, hI5, _, hk5⟩; have kx : Kept0 w8 w5 := (Kept.refl _ w8).drew.trans hk5)
              | (go_at_call 15; refine (refList_any r9 b8 N8 f8 _ (HR8.out.kept0 kx)).mono ?_; rintro e w6 ⟨a6, cap6, rfl, hI6, _, hk6⟩; have kx : Kept0 w8 w6 := kx.trans hk6)
              | (go_at_call 13; refine (ints_same _ _ _ _ _ _ (hI5.kept0 hk6) hI6 HL8.out).mono ?_; rintro e w7 ⟨rfl, hk7⟩; have kx : Kept0 w8 w7 := kx.trans hk7)
              | (go_at_call 16; refine (cols_any c mc N8 f8 _ (HC8.out.kept0 kx)).mono ?_; rintro e w9 ⟨rfl, rfl⟩))
          have hTr7 := HTr.out.kept0 kx
          have k7 := k8.trans kx
          clear hk5 hk6 hk7 hI5 hI6 k8 kx HTr HC8 HR8 r0
          go_wp2_with fail
          go_loopw [10] (fun i wr => ∃ k : Nat, k ≤ n' ∧ i = .int .i64 (k : Int) ∧ Trio w.heap.size wr t m r9 b8 N8 f8 c mc ∧ Kept0 w wr) (fun i _ => n' - (num i).toNat)
          case atStart => exact ⟨0, by omega, rfl, hTr7, k7⟩
          case round =>
            clear hTr7 k7
            obtain ⟨k, hk, rfl, hTr, hkr⟩ := hrel
            by_cases hlt : k < n'
            · obtain ⟨o, ho⟩ : ∃ o, l2[k]? = some o := ⟨_, List.getElem?_eq_getElem (by rw [← HN'.out]; exact hlt)⟩
              obtain ⟨bo, off, ha, hO0, hI0⟩ := h2 k o ho
              have hbo := World.block_lt_of_cell? w _ hO0.ask
              have hO := hO0.kept0 hkr
              have HI0 := Lib.hid (hI0.kept0 hkr)
              have HNL := Lib.hid (ok2 k o ho).l
              have hn' := len2
              rw [← HN'.out] at hn'
              have c0 := hO.ask
              have c1 := hO.n
              have c3 := hO.l
              rw [ha]
              obtain ⟨Nc, fc, hC⟩ := hTr.copy
              obtain ⟨g1, g2⟩ := hTr.n2
              have hol : bo < wr.heap.size := World.block_lt_of_cell? wr _ hO.ask
              simp only at hbo
              have HC := Lib.hid hC
              have HTr := Lib.hid hTr
              clear ho hO0 hO ha h2 ok2 len2 hI0 hC hTr
              by_cases p0 : o.ask = 0
              · have d0 : (o.ask == 0) = true := by rw [p0]; rfl
                clear p0
                go_wp2_with fail
                have hne : ¬ bo = mc := by omega
                go_region_held3 (fun w' => Kept (fun k => k = mc) wr w' ∧ w'.cell? ⟨bo, off + k * 4, none⟩ = some (.int .i64 o.ask) ∧ w'.cell? ⟨bo, off + k * 4 + 3, none⟩ = some (.slice o.la o.l.length o.lcap))
                  (first | exact ⟨(Kept.refl _ wr).drew, c0, c3⟩ | exact ⟨kx, (kx.cell hol hne).trans c0, (kx.cell hol hne).trans c3⟩)
                  (first
                    | (go_at_call 18; refine (put_u c mc Nc fc _ _ _ _ _ (HC.out.kept0 (Kept.refl _ wr).drew) (HI0.out.kept0 (Kept.refl _ wr).drew) HNL.out).mono ?_; rintro e w5 ⟨rfl, hC5, hk5⟩; have kx : Kept (fun k => k = mc) wr w5 := (Kept.refl _ wr).drew.trans hk5))
                have hTr5 := HTr.out.turn (kx.mono (fun _ _ e => Or.inr e)) hC5
                have kr5 : Kept0 w w5 := hkr.later kx (fun i hi e => by omega)
                clear c0 c1 c3 kx hk5
                go_wp2_with fail
                go_roundw
                case rel => exact ⟨k + 1, by omega, by go_num, hTr5, kr5⟩
                case measure => simp [num]; omega
              · have d0 : (o.ask == 0) = false := by simpa using p0
                clear p0
                by_cases p1 : o.ask = 1
                · have d1 : (o.ask == 1) = true := by rw [p1]; rfl
                  clear p1
                  go_wp2_with fail
                  have hne : ¬ bo = mc := by omega
                  go_region_held3 (fun w' => Kept (fun k => k = mc) wr w' ∧ w'.cell? ⟨bo, off + k * 4, none⟩ = some (.int .i64 o.ask) ∧ w'.cell? ⟨bo, off + k * 4 + 3, none⟩ = some (.slice o.la o.l.length o.lcap))
                    (first | exact ⟨(Kept.refl _ wr).drew, c0, c3⟩ | exact ⟨kx, (kx.cell hol hne).trans c0, (kx.cell hol hne).trans c3⟩)
                    (first
                      | (go_at_call 18; refine (put_u c mc Nc fc _ _ _ _ _ (HC.out.kept0 (Kept.refl _ wr).drew) (HI0.out.kept0 (Kept.refl _ wr).drew) HNL.out).mono ?_; rintro e w5 ⟨rfl, hC5, hk5⟩; have kx : Kept (fun k => k = mc) wr w5 := (Kept.refl _ wr).drew.trans hk5))
                  have hTr5 := HTr.out.turn (kx.mono (fun _ _ e => Or.inr e)) hC5
                  have kr5 : Kept0 w w5 := hkr.later kx (fun i hi e => by omega)
                  clear c0 c1 c3 kx hk5
                  go_wp2_with fail
                  go_roundw
                  case rel => exact ⟨k + 1, by omega, by go_num, hTr5, kr5⟩
                  case measure => simp [num]; omega
                · have d1 : (o.ask == 1) = false := by simpa using p1
                  clear p1
                  by_cases p2 : o.ask = 2
                  · have d2 : (o.ask == 2) = true := by rw [p2]; rfl
                    clear p2
                    go_wp2_with fail
                    refine (every_u c mc Nc fc _ _ HC.out).mono ?_
                    rintro e w5 ⟨rfl, hC5, hk5⟩
                    have hTr5 := HTr.out.turn (hk5.mono (fun _ _ e => Or.inr e)) hC5
                    have kr5 : Kept0 w w5 := hkr.later hk5 (fun i hi e => by omega)
                    clear c0 c1 c3
                    go_wp2_with fail
                    go_roundw
                    case rel => exact ⟨k + 1, by omega, by go_num, hTr5, kr5⟩
                    case measure => simp [num]; omega
                  · have d2 : (o.ask == 2) = false := by simpa using p2
                    clear p2
                    by_cases p3 : o.ask = 3
                    · have d3 : (o.ask == 3) = true := by rw [p3]; rfl
                      clear p3
                      go_wp2_with fail
                      refine (resize_u c mc Nc fc _ _ HC.out).mono ?_
                      rintro e w5 ⟨v5, N5, f5, rfl, hC5, hk5⟩
                      have hTr5 := HTr.out.turn hk5 hC5
                      have kr5 : Kept0 w w5 := hkr.later hk5 (fun i hi e => by omega)
                      clear c0 c1 c3
                      go_wp2_with fail
                      go_roundw
                      case rel => exact ⟨k + 1, by omega, by go_num, hTr5, kr5⟩
                      case measure => simp [num]; omega
                    · have d3 : (o.ask == 3) = false := by simpa using p3
                      clear p3
                      go_wp2_with fail
                      go_roundw
                      case rel => exact ⟨k + 1, by omega, by go_num, HTr.out, hkr⟩
                      case measure => simp [num]; omega
            · have HT8 := Lib.hid hTr.tabs
              have HR8 := Lib.hid hTr.ref
              have r0 := hTr.ref.c0
              clear h2 ok2 len2 hTr
              go_wp2_with fail
              clear hlt hk
              go_region_held3 (fun w' => Kept0 wr w' ∧ w'.cell? ⟨r9, 0, none⟩ = some (.slice (some ⟨b8, 0, none⟩) N8 N8))
                (first | exact ⟨(Kept.refl _ wr).drew, r0⟩ | exact ⟨kx, kcell kx r0⟩)
                (first
                  | (go_at_call 14; refine (list_any t m N8 f8 _ (HT8.out.kept0 (Kept.refl _ wr).drew)).mono ?_; rintro e w5 ⟨a5, cap5, rfl, hI5, _, hk5⟩; have kx : Kept0 wr w5 := (Kept.refl _ wr).drew.trans hk5)
                  | (go_at_call 15; refine (refList_any r9 b8 N8 f8 _ (HR8.out.kept0 kx)).mono ?_; rintro e w6 ⟨a6, cap6, rfl, hI6, _, hk6⟩; have kx : Kept0 wr w6 := kx.trans hk6)
                  | (go_at_call 13; refine (ints_same _ _ _ _ _ _ (hI5.kept0 hk6) hI6 HL8.out).mono ?_; rintro e w7 ⟨rfl, hk7⟩; have kx : Kept0 wr w7 := kx.trans hk7)
                  | (go_at_call 16; refine (cols_any t m N8 f8 _ (HT8.out.kept0 kx)).mono ?_; rintro e w9 ⟨rfl, rfl⟩)
                  | (go_at_call 9; refine (awake_any _).mono ?_; rintro e w10 ⟨rfl, hk10⟩; have kx : Kept0 wr w10 := kx.trans hk10))
              go_wp2_with fail
              go_ret
              exact ⟨rfl, Kept0.below (hkr.trans kx)⟩
end Go.Proofs.Ytkfphgcbpphbnaa
