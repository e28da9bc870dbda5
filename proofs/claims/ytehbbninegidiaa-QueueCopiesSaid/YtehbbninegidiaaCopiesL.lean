/-
  QueueCopies: a copy is the same, and goes its own way.
-/
import Derived.Test.YtehbbninegidiaaRgH
namespace Go.Proofs.Ytehbbninegidiaa
open Go.RowKit Go.Maps

set_option maxRecDepth 100000 in
set_option maxHeartbeats 8000000 in
theorem copies_in (most : Nat) (a1 a2 : Option Addr) (cap1 cap2 : Nat) (l1 l2 : List OpV) (h : most ≤ 4096) (w : World) (hl1 : OpsIn w a1 l1) (ok1 : OpsOk l1) (hn1 : l1.length ≤ 9223372036854775807) (hl2 : OpsIn w a2 l2) (ok2 : OpsOk l2) (hn2 : l2.length ≤ 9223372036854775807) :
    Calls Try.prog 5 #[.int .i64 (most : Int), .slice a1 l1.length cap1, .slice a2 l2.length cap2] w fun e w' => e = .returned (.bool true) ∧ Below w.heap.size w w' := by
  have HF1 := Lib.hid (few_any a1 cap1 l1)
  have HF2 := Lib.hid (few_any a2 cap2 l2)
  have HL1 := Lib.hid hl1
  have HL2 := Lib.hid hl2
  have OK1 := Lib.hid ok1
  have OK2 := Lib.hid ok2
  obtain ⟨n1, e1⟩ : ∃ n, n = l1.length := ⟨_, rfl⟩
  obtain ⟨n2, e2⟩ : ∃ n, n = l2.length := ⟨_, rfl⟩
  rw [← e1] at HF1 hn1 ⊢
  rw [← e2] at HF2 hn2 ⊢
  have HN1 := Lib.hid e1
  have HN2 := Lib.hid e2
  clear e1 e2 hl1 hl2 ok1 ok2
  go_enter Try.func5, Try.ntmps5
  go_wp2_with fail
  refine (new_yes most w h).mono ?_
  rintro e w1 ⟨b, g, rfl, hq, hb, hg, k1⟩
  have HQ := Lib.hid hq
  have HK := Lib.hid k1
  clear hq k1
  go_wp2_with fail
  refine (HF1.out _ (HL1.out.kept0 HK.out) OK1.out hn1).mono ?_
  cases hf : fewB l1 with
  | false =>
    clear hf HF1
    rintro e w2 ⟨rfl, rfl⟩
    go_wp2_with fail
    refine (awake_any _).mono ?_
    rintro e w4 ⟨rfl, hk4⟩
    go_wp2_with fail
    go_ret
    exact ⟨rfl, Kept0.below (HK.out.trans hk4)⟩
  | true =>
    have HFP1 := Lib.hid (few_parts hf)
    clear hf HF1
    rintro e w2 ⟨rfl, rfl⟩
    go_wp2_with fail
    refine (HF2.out _ (HL2.out.kept0 HK.out) OK2.out hn2).mono ?_
    cases hf : fewB l2 with
    | false =>
      clear hf HF2
      rintro e w2 ⟨rfl, rfl⟩
      go_wp2_with fail
      refine (awake_any _).mono ?_
      rintro e w4 ⟨rfl, hk4⟩
      go_wp2_with fail
      go_ret
      exact ⟨rfl, Kept0.below (HK.out.trans hk4)⟩
    | true =>
      have HFP2 := Lib.hid (few_parts hf)
      clear hf HF2
      rintro e w2 ⟨rfl, rfl⟩
      have HB : Hid (∃ xs over, Both w (w2.alloc (.cells #[.string ⟨#[]⟩, .int .i64 (most : Int), .bool false] 31)) b g w2.heap.size most xs over) := by
        have h1 := HQ.out.lt
        have h2 := HQ.out.ltg
        exact ⟨[], false, HQ.out.kept0 ((Kept.refl _ w2).alloc _), heap_new w2 _, ⟨hb, hg, HK.out.size⟩, by omega, HK.out.alloc _⟩
      obtain ⟨x, hx⟩ : ∃ x, x = w2.heap.size := ⟨_, rfl⟩
      clear HQ hb hg
      go_wp2_with fail
      rw [← hx] at HB ⊢
      clear hx HK
      go_loopw [10] (fun i wr => ∃ k : Nat, k ≤ n1 ∧ i = .int .i64 (k : Int) ∧ Hid (∃ xs over, Both w wr b g x most xs over)) (fun i _ => n1 - (num i).toNat)
      case atStart => exact ⟨0, by omega, rfl, HB⟩
      case round =>
        clear HB
        obtain ⟨k, hk, rfl, HB⟩ := hrel
        by_cases hlt : k < n1
        · obtain ⟨o, ho⟩ : ∃ o, l1[k]? = some o := ⟨_, List.getElem?_eq_getElem (by rw [← HN1.out]; exact hlt)⟩
          obtain ⟨bo, off, rfl, hO, hS⟩ := HL1.out k o ho
          obtain ⟨xs, over, hb⟩ := HB.out
          have hO2 := hO.kept0 hb.old
          have c0 := hO2.ask
          have c1 := hO2.l
          have c2 := hO2.n
          have HP := Lib.hid (does_any o hb hS (OK1.out k o ho) (HFP1.out.2.2 k o ho).2)
          obtain ⟨ol, hol⟩ : ∃ ol, ol = o.l.length := ⟨_, rfl⟩
          rw [← hol] at c1 HP
          clear hol hO2 hO hS hb HB ho
          go_wp2_with fail
          refine HP.out.mono ?_
          rintro e w5 ⟨rfl, hb5⟩
          have HB5 := Lib.hid hb5
          clear hb5 HP c0 c1 c2
          go_wp2_with fail
          go_roundw
          case rel => exact ⟨k + 1, by omega, by go_num, _, _, HB5.out⟩
          case measure => simp [num]; omega
        · obtain ⟨xs, over, hb⟩ := HB.out
          have d0 := hb.r.c0
          have d2 := hb.r.c2
          have HBB := Lib.hid hb
          clear hb HB
          go_wp2_with fail
          go_still_tail 10, (by kernel_rfl)
          repeat still_step
          change wpList _ _ _ _ _ wr.drew
          obtain ⟨W, hW⟩ : ∃ W, W = wr.drew := ⟨_, rfl⟩
          have kW : Kept0 wr W := by rw [hW]; exact (Kept.refl _ wr).drew
          have HBW : Hid (Both w W b g x most xs over) := by
            have := HBB.out
            exact ⟨this.q.kept0 kW, this.r.kept0 kW, this.nb, this.ne, this.old.trans kW⟩
          have hlW : b < W.heap.size ∧ g < W.heap.size ∧ x < W.heap.size := ⟨HBW.out.q.lt, HBW.out.q.ltg, HBW.out.r.lt⟩
          obtain ⟨y, hy⟩ : ∃ y, y = W.heap.size := ⟨_, rfl⟩
          obtain ⟨W9, hW9⟩ : ∃ W9, W9 = W.alloc (.cells #[.string (str xs), .int .i64 (most : Int), .bool over] 31) := ⟨_, rfl⟩
          have k9 : Kept0 W W9 := by rw [hW9]; exact (Kept.refl _ W).alloc _
          have hy9 : Rf W9 y most xs over := by rw [hW9, hy]; exact heap_new W _
          have hs9 : W9.heap.size = W.heap.size + 1 := by rw [hW9]; simp
          have HY := Lib.hid hy
          rw [← hW]
          clear hW kW HBB d0 d2
          go_wp2_with fail
          rw [← hy, ← hW9]
          rw [← hy] at hs9 hlW
          have HC := Lib.hid (copy_any (HBW.out.q.kept0 k9))
          clear hy hW9
          refine HC.out.mono ?_
          rintro e w5 ⟨c, gc, rfl, hqc, hc, hgc, k5⟩
          have HBC : Hid (∃ xs2 over2, Both W w5 c gc y most xs2 over2) :=
            ⟨xs, over, hqc, hy9.kept0 k5, by have := HY.out; omega, by omega, k9.trans k5⟩
          have HNE : Hid ((b ≠ c ∧ b ≠ gc ∧ b ≠ y) ∧ (g ≠ c ∧ g ≠ gc ∧ g ≠ y) ∧ (x ≠ c ∧ x ≠ gc ∧ x ≠ y)) := by
            refine ⟨by omega, by omega, by omega⟩
          clear HC hy9 hqc hc hgc k5 k9 hs9
          go_wp2_with fail
          go_loopw [13] (fun i wr => ∃ k : Nat, k ≤ n2 ∧ i = .int .i64 (k : Int) ∧ Hid (∃ xs2 over2, Both W wr c gc y most xs2 over2)) (fun i _ => n2 - (num i).toNat)
          case atStart => exact ⟨0, by omega, rfl, HBC⟩
          case round =>
            clear HBC
            obtain ⟨k, hk, rfl, HB⟩ := hrel
            by_cases hlt : k < n2
            · obtain ⟨o, ho⟩ : ∃ o, l2[k]? = some o := ⟨_, List.getElem?_eq_getElem (by rw [← HN2.out]; exact hlt)⟩
              obtain ⟨bo, off, rfl, hO, hS⟩ := (HL2.out.kept0 HBW.out.old) k o ho
              obtain ⟨xs2, over2, hb⟩ := HB.out
              have hO2 := hO.kept0 hb.old
              have c0 := hO2.ask
              have c1 := hO2.l
              have c2 := hO2.n
              have HP := Lib.hid (does_any o hb hS (OK2.out k o ho) (HFP2.out.2.2 k o ho).2)
              obtain ⟨ol, hol⟩ : ∃ ol, ol = o.l.length := ⟨_, rfl⟩
              rw [← hol] at c1 HP
              clear hol hO2 hO hS hb HB ho
              go_wp2_with fail
              refine HP.out.mono ?_
              rintro e w5 ⟨rfl, hb5⟩
              have HB5 := Lib.hid hb5
              clear hb5 HP c0 c1 c2
              go_wp2_with fail
              go_roundw
              case rel => exact ⟨k + 1, by omega, by go_num, _, _, HB5.out⟩
              case measure => simp [num]; omega
            · obtain ⟨xs2, over2, hb⟩ := HB.out
              obtain ⟨X, hX⟩ : ∃ X, X = wr := ⟨_, rfl⟩
              rw [← hX] at hb ⊢
              clear hX
              have kW := hb.old
              have hq1 := HBW.out.q.kept0 kW
              have hr1 := HBW.out.r.kept0 kW
              have hnq := HNE.out
              have hne1 := hb.ne
              have hne2 := HBW.out.ne
              have HV1 : Hid (∀ V, Kept0 X V → Calls Try.prog 14 #[ptr b] V fun e w' => e = .returned (.bool over) ∧ w' = V) := fun V k => over_any (hq1.kept0 k)
              have HD1 : Hid (∀ V, Kept0 X V → Calls Try.prog 16 #[ptr b] V fun e w' => e = .returned (.string (str xs)) ∧ Kept (fun i => i = b ∨ i = g) V w') := fun V k => (drain_any (hq1.kept0 k)).mono fun e w' ⟨h1, _, h3⟩ => ⟨h1, h3⟩
              have HV2 : Hid (∀ V, Kept (fun i => i = b ∨ i = g) X V → Calls Try.prog 14 #[ptr c] V fun e w' => e = .returned (.bool over2) ∧ w' = V) := fun V k => over_any (hb.q.kept k (by omega) (by omega))
              have HD2 : Hid (∀ V, Kept (fun i => i = b ∨ i = g) X V → Calls Try.prog 16 #[ptr c] V fun e w' => e = .returned (.string (str xs2)) ∧ Kept (fun i => i = c ∨ i = gc) V w') := fun V k => (drain_any (hb.q.kept k (by omega) (by omega))).mono fun e w' ⟨h1, _, h3⟩ => ⟨h1, h3⟩
              have x0 : ∀ w', Kept (fun i => i = b ∨ i = g ∨ i = c ∨ i = gc) X w' → w'.cell? ⟨x, 0, none⟩ = some (.string (str xs)) := fun w' k => kcellS k hr1.c0 (by omega)
              have x2 : ∀ w', Kept (fun i => i = b ∨ i = g ∨ i = c ∨ i = gc) X w' → w'.cell? ⟨x, 2, none⟩ = some (.bool over) := fun w' k => kcellS k hr1.c2 (by omega)
              have y0 : ∀ w', Kept (fun i => i = b ∨ i = g ∨ i = c ∨ i = gc) X w' → w'.cell? ⟨y, 0, none⟩ = some (.string (str xs2)) := fun w' k => kcellS k hb.r.c0 (by omega)
              have y2 : ∀ w', Kept (fun i => i = b ∨ i = g ∨ i = c ∨ i = gc) X w' → w'.cell? ⟨y, 2, none⟩ = some (.bool over2) := fun w' k => kcellS k hb.r.c2 (by omega)
              have HKX : Hid (∀ w', Kept (fun i => i = b ∨ i = g ∨ i = c ∨ i = gc) X w' → Below w.heap.size w w') := fun w' k => Kept0.below ((HBW.out.old.trans kW).later k (fun i hi e => by have := HBW.out.nb; have := hb.nb; have := HBW.out.old.size; omega))
              obtain ⟨S1, hS1⟩ : ∃ S1, S1 = str xs := ⟨_, rfl⟩
              obtain ⟨S2, hS2⟩ : ∃ S2, S2 = str xs2 := ⟨_, rfl⟩
              rw [← hS1] at HD1 x0
              rw [← hS2] at HD2 y0
              clear hS1 hS2 hb kW hq1 hr1 hnq hne1 hne2 HB hlW
              go_wp2_with fail
              go_region_held3 (fun w' => Kept (fun i => i = b ∨ i = g ∨ i = c ∨ i = gc) X w') (repeat (first | assumption | exact Kept.refl _ _ | refine Kept.drew ?_))
                (first
                  | (go_at_call 10; refine (awake_any _).mono ?_; rintro e w8 ⟨rfl, hk8⟩; have ke : Kept (fun i => i = b ∨ i = g ∨ i = c ∨ i = gc) X w8 := kd.trans (Kept0.to hk8))
                  | (go_at_call 16; refine (HD2.out _ kb).mono ?_; rintro e w7 ⟨rfl, hk7⟩; have kd : Kept (fun i => i = b ∨ i = g ∨ i = c ∨ i = gc) X w7 := kb'.trans (hk7.mono (fun _ _ e => by rcases e with e | e <;> simp [e])))
                  | (go_at_call 14; refine (HV2.out _ kb).mono ?_; rintro e w6 ⟨rfl, rfl⟩)
                  | (go_at_call 16; refine (HD1.out _ ((Kept.refl _ X).drew)).mono ?_; rintro e w5 ⟨rfl, hk5⟩; have kb : Kept (fun i => i = b ∨ i = g) X w5 := (Kept.refl _ X).drew.trans hk5; have kb' : Kept (fun i => i = b ∨ i = g ∨ i = c ∨ i = gc) X w5 := kb.mono (fun _ _ e => by rcases e with e | e <;> simp [e]))
                  | (go_at_call 14; refine (HV1.out _ (Kept.refl _ X).drew).mono ?_; rintro e w4 ⟨rfl, rfl⟩))
              go_wp2_with fail
              go_ret
              exact ⟨rfl, HKX.out _ ke⟩
set_option maxHeartbeats 4000000 in
theorem copies_calls (most : Int) (a1 a2 : Option Addr) (cap1 cap2 : Nat) (l1 l2 : List OpV) (w : World) (hl1 : OpsIn w a1 l1) (ok1 : OpsOk l1) (hn1 : l1.length ≤ 9223372036854775807) (hl2 : OpsIn w a2 l2) (ok2 : OpsOk l2) (hn2 : l2.length ≤ 9223372036854775807) :
    Calls Try.prog 5 #[.int .i64 most, .slice a1 l1.length cap1, .slice a2 l2.length cap2] w fun e w' => e = .returned (.bool true) ∧ Below w.heap.size w w' := by
  by_cases h : 0 ≤ most ∧ most ≤ 4096
  · obtain ⟨m, rfl⟩ := Int.eq_ofNat_of_zero_le h.1
    exact copies_in m a1 a2 cap1 cap2 l1 l2 (by omega) w hl1 ok1 hn1 hl2 ok2 hn2
  · have HN := Lib.hid (new_no most w h)
    clear hl1 ok1 hn1 hl2 ok2 hn2 h
    go_enter Try.func5, Try.ntmps5
    go_wp2_with fail
    refine HN.out.mono ?_
    rintro e w1 ⟨rfl, k1⟩
    have HK := Lib.hid k1
    clear k1
    go_wp2_with fail
    refine (awake_any _).mono ?_
    rintro e w4 ⟨rfl, hk4⟩
    go_wp2_with fail
    go_ret
    exact ⟨rfl, Kept0.below (HK.out.trans hk4)⟩
end Go.Proofs.Ytehbbninegidiaa
