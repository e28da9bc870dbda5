/-
  ParamsBounds: never more bytes than the bound, and what the numbers are then.
-/
import Derived.Test.YtadcnfenchemhaaDoorAwC
import Derived.Test.YtadcnfenchemhaaDoorBufC
import Derived.Test.YtadcnfenchemhaaDoorNumbersL
namespace Go.Proofs.YtadcnfenchemhaaDoor
open Go.RowKit Go.Maps

/-- A buffer in blocks that are newer than a world. -/
def Own (w0 w : World) (b most : Nat) (xs : List UInt8) (lost : Nat) : Prop := ∃ B, Bf w B b most xs lost ∧ (∀ i, B i → w0.heap.size ≤ i) ∧ Kept0 w0 w
theorem Own.keep {w0 w w' : World} {b most lost : Nat} {xs : List UInt8} (h : Own w0 w b most xs lost) (k : Kept0 w w') : Own w0 w' b most xs lost := by
  obtain ⟨B, h1, h2, h3⟩ := h
  exact ⟨B, h1.kept0 k, h2, h3.trans k⟩
theorem Own.push {w0 w w' : World} {b most lost lost' : Nat} {xs ys : List UInt8} (h : Own w0 w b most xs lost) (hp : ∀ B, Bf w B b most xs lost → BPost B b most ys lost' w w') : Own w0 w' b most ys lost' := by
  obtain ⟨B, h1, h2, h3⟩ := h
  obtain ⟨B', p1, p2, p3⟩ := hp B h1
  have := h3.size
  refine ⟨B', p1, fun i hi => ?_, h3.later p3 (fun i hi e => by have := h2 i e; omega)⟩
  rcases p2 i hi with e | e
  · exact h2 i e
  · omega
/-- What stands behind so many bytes: the first ones, and how many were lost. -/
theorem take_snoc {l : List UInt8} {k most : Nat} (hk : k < l.length) (hlt : k < most) : (l.take (min k most)) ++ [l.getD k 0] = l.take (min (k + 1) most) := by
  rw [show min k most = k by omega, show min (k + 1) most = k + 1 by omega, List.take_add_one, List.getD, List.getElem?_eq_getElem hk]
  rfl

theorem semis_step {l : List UInt8} {j : Nat} {c : UInt8} (h : l[j]? = some c) : semis (l.take (j + 1)) = semis (l.take j) + (if c = 59 then 1 else 0) := by
  unfold semis
  rw [List.take_add_one, h, List.countP_append]
  by_cases e : c = 59
  · simp [e]
  · simp [e]

set_option maxRecDepth 100000 in
set_option maxHeartbeats 4000000 in
theorem bounds_in (most : Nat) (s : ByteArray) (h1 : 1 ≤ most) (h2 : most ≤ 64) (hs : s.size ≤ 300) (w : World) : Calls Tryd.prog 5 #[.int .i64 (most : Int), .string s] w fun e w' => e = .returned (.bool true) ∧ Kept0 w w' := by
  have ds : decide ((300 : Int) < (s.size : Int)) = false := by simp; omega
  go_enter Tryd.func5, Tryd.ntmps5
  go_wp2_with fail
  refine (new_yes most w h1 h2).mono ?_
  rintro e w1 ⟨b, B, rfl, hb, hB, k1⟩
  have HO : Hid (Own w w1 b most (s.data.toList.take (min 0 most)) (0 - most)) := ⟨B, by simpa using hb, hB, k1⟩
  clear hb hB k1
  go_wp2_with fail
  go_loopw [7, 8] (fun s7 s8 wr => ∃ k : Nat, k ≤ s.size ∧ s8 = .int .i64 (k : Int) ∧ s7 = .int .i64 ((min k most : Nat) : Int) ∧ Hid (Own w wr b most (s.data.toList.take (min k most)) (k - most))) (fun _ s8 _ => s.size - (intOf s8).toNat)
  case atStart => exact ⟨0, by omega, rfl, by simp, HO⟩
  case round =>
    clear HO
    obtain ⟨k, hk, rfl, rfl, HO⟩ := hrel
    by_cases hlt : k < s.size
    · have dk : decide ((k : Int) < (s.size : Int)) = true := by simp; omega
      have hl : k < s.data.toList.length := by simpa using hlt
      obtain ⟨c, hcc⟩ : ∃ c, c = s[k]'hlt := ⟨_, rfl⟩
      have hd : (s[k]'hlt).toNat = c.toNat := by rw [hcc]
      have hgd : s.data.toList.getD k 0 = c := by rw [hcc, List.getD, List.getElem?_eq_getElem hl]; rfl
      have hlen : (s.data.toList.take (min k most)).length = min k most := by rw [List.length_take]; omega
      by_cases hm : k < most
      · have HP : Hid (Calls Tryd.prog 16 #[ptr b, .int .u8 (c.toNat : Int)] wr fun e w' => e = .returned (.bool true) ∧ Own w w' b most (s.data.toList.take (min (k + 1) most)) (k + 1 - most)) := by
          obtain ⟨B, b1, b2, b3⟩ := HO.out
          refine (push_yes c b1 (by rw [hlen]; omega) h2).mono ?_
          rintro e w' ⟨rfl, hp⟩
          rw [← take_snoc hl hm, hgd, show k + 1 - most = k - most by omega]
          obtain ⟨B', p1, p2, p3⟩ := hp
          have := b3.size
          exact ⟨rfl, B', p1, fun i hi => by rcases p2 i hi with e | e; · exact b2 i e
                                             · omega, b3.later p3 (fun i hi e => by have := b2 i e; omega)⟩
        have HM1 : Hid ((((min k most : Nat) : Int) + 1) = ((min (k + 1) most : Nat) : Int)) := by
          have : min (k + 1) most = min k most + 1 := by omega
          rw [this]; exact rfl
        obtain ⟨q, hq⟩ : ∃ q, q = min k most := ⟨_, rfl⟩
        have hq2 : q ≤ 300 := by omega
        rw [← hq] at HM1 ⊢
        clear hl hcc hgd hlen HO hq
        go_wp2_with fail
        refine HP.out.mono ?_
        rintro e w3 ⟨rfl, ho⟩
        have HO3 := Lib.hid ho
        clear ho HP
        go_wp2_with fail
        go_roundw
        case rel => exact ⟨k + 1, by omega, by go_num, by rw [HM1.out], HO3⟩
        case measure => simp [intOf]; omega
      · have HP : Hid (Calls Tryd.prog 16 #[ptr b, .int .u8 (c.toNat : Int)] wr fun e w' => e = .returned (.bool false) ∧ Own w w' b most (s.data.toList.take (min (k + 1) most)) (k + 1 - most)) := by
          obtain ⟨B, b1, b2, b3⟩ := HO.out
          refine (push_no c b1 (by rw [hlen]; omega) (by omega)).mono ?_
          rintro e w' ⟨rfl, hp⟩
          rw [show min (k + 1) most = min k most by omega, show k + 1 - most = k - most + 1 by omega]
          obtain ⟨B', p1, p2, p3⟩ := hp
          have := b3.size
          exact ⟨rfl, B', p1, fun i hi => by rcases p2 i hi with e | e; · exact b2 i e
                                             · omega, b3.later p3 (fun i hi e => by have := b2 i e; omega)⟩
        have HM1 : Hid (((min k most : Nat) : Int) = ((min (k + 1) most : Nat) : Int)) := by
          have : min (k + 1) most = min k most := by omega
          rw [this]; exact rfl
        obtain ⟨q, hq⟩ : ∃ q, q = min k most := ⟨_, rfl⟩
        rw [← hq] at HM1 ⊢
        clear hl hcc hgd hlen HO hq
        go_wp2_with fail
        refine HP.out.mono ?_
        rintro e w3 ⟨rfl, ho⟩
        have HO3 := Lib.hid ho
        clear ho HP
        go_wp2_with fail
        go_roundw
        case rel => exact ⟨k + 1, by omega, by go_num, by rw [HM1.out], HO3⟩
        case measure => simp [intOf]; omega
    · obtain rfl : k = s.size := by omega
      have dk : decide ((s.size : Int) < (s.size : Int)) = false := by simp
      obtain ⟨N, hN⟩ : ∃ N, N = min s.size most := ⟨_, rfl⟩
      obtain ⟨T, hT⟩ : ∃ T, T = s.data.toList.take N := ⟨_, rfl⟩
      have hTl : T.length = N := by rw [hT, List.length_take, hN]; simp
      obtain ⟨t, ht⟩ : ∃ t, t = str T := ⟨_, rfl⟩
      have hts : t.size = N := by rw [ht, str_size, hTl]
      have hex : s.extract 0 N = t := by rw [ht, hT]; exact extract_to s N
      rw [← hN, ← hT] at HO
      rw [← hN]
      have hmin : min (s.size : Int) (most : Int) = (N : Int) := by rw [hN]; omega
      have hNs : N ≤ s.size := by omega
      have HBY : Hid (Calls Tryd.prog 18 #[ptr b] wr fun e w' => e = .returned (.string t) ∧ Kept0 wr w') := by
        obtain ⟨B, b1, b2, b3⟩ := HO.out
        rw [ht]
        exact bytes_any b1
      have HLO : Hid (∀ w', Own w w' b most T (s.size - most) → Calls Tryd.prog 20 #[ptr b] w' fun e w'' => e = .returned (.int .i64 ((s.size : Int) - (N : Int))) ∧ Kept0 w' w'') := fun w' h => by
        obtain ⟨B, b1, b2, b3⟩ := h
        have := lost_any b1
        rwa [show ((s.size - most : Nat) : Int) = (s.size : Int) - (N : Int) by omega] at this
      have HNU : Hid (∀ w', Own w w' b most T (s.size - most) → Calls Tryd.prog 21 #[ptr b] w' fun e w'' => NumsAns (numV T) e w'' ∧ Kept0 w' w'') := fun w' h => by
        obtain ⟨B, b1, b2, b3⟩ := h
        exact bnums_any b1 (by rw [hTl]; omega)
      have HT := Lib.hid ht
      clear hN hT ht
      go_wp2_with fail
      refine HBY.out.mono ?_
      rintro e w2 ⟨rfl, k2⟩
      have HO2 : Hid (Own w w2 b most T (s.size - most)) := HO.out.keep k2
      clear HO HBY k2
      go_wp2_with fail
      refine (HLO.out w2 HO2.out).mono ?_
      rintro e w3 ⟨rfl, k3⟩
      have HO3 : Hid (Own w w3 b most T (s.size - most)) := HO2.out.keep k3
      clear HO2 HLO k3
      have d5 : ((s.size : Int) - (N : Int) == (s.size : Int) - (N : Int)) = true := by simp
      go_wp2_with fail
      go_loopw [10, 11] (fun s10 s11 wr => ∃ j : Nat, j ≤ N ∧ s11 = .int .i64 (j : Int) ∧ s10 = .int .i64 ((semis (T.take j) : Nat) : Int) ∧ wr = w3) (fun _ s11 _ => N - (intOf s11).toNat)
      case atStart => exact ⟨0, by omega, rfl, rfl, rfl⟩
      case round =>
        obtain ⟨j, hj, rfl, rfl, rfl⟩ := hrel
        by_cases hjt : j < N
        · have dj : decide ((j : Int) < (N : Int)) = true := by simp; omega
          have hjs : j < t.size := by omega
          obtain ⟨c, hcc⟩ : ∃ c, c = t[j]'hjs := ⟨_, rfl⟩
          have hd : (t[j]'hjs).toNat = c.toNat := by rw [hcc]
          have hTj : T[j]? = some c := by
            rw [hcc, List.getElem?_eq_getElem (by omega)]
            have := HT.out
            subst this
            exact rfl
          have hst := semis_step hTj
          have hle : semis (T.take j) ≤ 64 := by
            have := List.countP_le_length (p := (· == (59 : UInt8))) (l := T.take j)
            rw [List.length_take] at this
            unfold semis
            omega
          by_cases h59 : c = 59
          · rw [if_pos h59] at hst
            have d59 : ((c.toNat : Int) == 59) = true := by rw [h59]; rfl
            obtain ⟨q, hq⟩ : ∃ q, q = semis (T.take j) := ⟨_, rfl⟩
            rw [← hq] at hst hle ⊢
            have HST := Lib.hid hst
            clear hcc hTj hst hq h59
            go_wp2_with fail
            go_roundw
            case rel => exact ⟨j + 1, by omega, by go_num, by rw [HST.out]; go_num, trivial⟩
            case measure => simp [intOf]; omega
          · rw [if_neg h59] at hst
            have d59 : ((c.toNat : Int) == 59) = false := by
              simp
              intro e
              exact h59 (UInt8.toNat_inj.1 (by have : (59 : UInt8).toNat = 59 := rfl; omega))
            obtain ⟨q, hq⟩ : ∃ q, q = semis (T.take j) := ⟨_, rfl⟩
            rw [← hq] at hst hle ⊢
            have HST := Lib.hid hst
            clear hcc hTj hst hq h59
            go_wp2_with fail
            go_roundw
            case rel => exact ⟨j + 1, by omega, by go_num, by rw [HST.out]; go_num, trivial⟩
            case measure => simp [intOf]; omega
        · obtain rfl : j = N := by omega
          have dj : decide ((j : Int) < (j : Int)) = false := by simp
          rw [show T.take j = T by rw [← hTl]; exact List.take_length]
          obtain ⟨q, hq⟩ : ∃ q, q = semis T := ⟨_, rfl⟩
          have hle : q ≤ 64 := by
            have := List.countP_le_length (p := (· == (59 : UInt8))) (l := T)
            rw [hq]
            unfold semis
            omega
          rw [← hq]
          have HQ := Lib.hid hq
          clear hq
          go_wp2_with fail
          refine (HNU.out _ HO3.out).mono ?_
          rintro e w4 ⟨ha, k4⟩
          have KK : Hid (Kept0 w w4) := by
            obtain ⟨B, b1, b2, b3⟩ := HO3.out
            exact b3.trans k4
          clear HO3 HNU k4 hex
          cases hv : numV T with
          | none =>
            rw [hv] at ha
            obtain rfl : e = _ := ha
            clear hv
            go_wp2_with fail
            go_loopw [14] (fun s14 wr => s14 = .int .i64 0 ∧ wr = w4) (fun _ _ => 0)
            case atStart => exact ⟨rfl, rfl⟩
            case round =>
              obtain ⟨rfl, rfl⟩ := hrel
              go_wp2_with fail
              refine (awake_any _).mono ?_
              rintro e w5 ⟨rfl, k5⟩
              go_wp2_with fail
              go_ret
              exact ⟨rfl, KK.out.trans k5⟩
          | some l =>
            rw [hv] at ha
            obtain ⟨a, cap, rfl, hi⟩ := ha
            have HB := Lib.hid (numV_bounds hv)
            have HI := Lib.hid hi
            have hll : l.length ≤ 100 := by have := numV_len hv; omega
            clear hv hi
            go_wp2_with fail
            go_loopw [14] (fun s14 wr => ∃ i : Nat, i ≤ l.length ∧ s14 = .int .i64 (i : Int) ∧ wr = w4) (fun s14 _ => l.length - (intOf s14).toNat)
            case atStart => exact ⟨0, by omega, rfl, rfl⟩
            case round =>
              obtain ⟨i, hi, rfl, rfl⟩ := hrel
              by_cases hil : i < l.length
              · have di : decide ((i : Int) < (l.length : Int)) = true := by simp; omega
                obtain ⟨x, hx⟩ : ∃ x, l[i]? = some x := ⟨_, List.getElem?_eq_getElem hil⟩
                have hxb : -1 ≤ x ∧ x ≤ 9999 := by
                  rcases HB.out with ⟨_, e⟩ | ⟨_, _, e⟩
                  · rw [e] at hx; simp at hx
                  · exact e x (List.mem_of_getElem? hx)
                obtain ⟨bb, off, rfl, hc⟩ := HI.out i x hx
                have dx1 : decide (x < -1) = false := by simp; omega
                have dx2 : decide ((9999 : Int) < x) = false := by simp; omega
                clear hx hxb
                go_wp2_with fail
                go_roundw
                case rel => exact ⟨i + 1, by omega, by go_num, trivial⟩
                case measure => simp [intOf]; omega
              · obtain rfl : i = l.length := by omega
                have di : decide ((l.length : Int) < (l.length : Int)) = false := by simp
                rcases HB.out with ⟨e1, e2⟩ | ⟨e1, e2, _⟩
                · obtain rfl : l = [] := e2
                  have hj0 : j = 0 := by rw [← hTl, e1]; rfl
                  subst hj0
                  clear e1 HI HB
                  go_wp2_with fail
                  refine (awake_any _).mono ?_
                  rintro e w5 ⟨rfl, k5⟩
                  go_wp2_with fail
                  go_ret
                  exact ⟨rfl, KK.out.trans k5⟩
                · have hj0 : 0 < j := by
                    rw [← hTl]
                    exact List.length_pos_iff.2 e1
                  have dj1 : decide ((0 : Int) < (j : Int)) = true := by simp; omega
                  have dj2 : ((j : Int) == 0) = false := by simp; omega
                  have dl : ((l.length : Int) == (q : Int) + 1) = true := by rw [e2, ← HQ.out]; simp
                  have dl0 : ((l.length : Int) == 0) = false := by rw [e2]; simp; omega
                  clear e1 e2 HB
                  go_wp2_with fail
                  refine (awake_any _).mono ?_
                  rintro e w5 ⟨rfl, k5⟩
                  go_wp2_with fail
                  go_ret
                  exact ⟨rfl, KK.out.trans k5⟩

theorem bounds_out (most : Int) (s : ByteArray) (h : ¬ (1 ≤ most ∧ most ≤ 64)) (w : World) : Calls Tryd.prog 5 #[.int .i64 most, .string s] w fun e w' => e = .returned (.bool true) ∧ Kept0 w w' := by
  have HN := Lib.hid (new_no most w h)
  clear h
  go_enter Tryd.func5, Tryd.ntmps5
  go_wp2_with fail
  refine HN.out.mono ?_
  rintro e w1 ⟨rfl, k1⟩
  go_wp2_with fail
  refine (awake_any w1).mono ?_
  rintro e w2 ⟨rfl, k2⟩
  go_wp2_with fail
  go_ret
  exact ⟨rfl, k1.trans k2⟩
theorem bounds_long (most : Nat) (s : ByteArray) (h1 : 1 ≤ most) (h2 : most ≤ 64) (hs : 300 < s.size) (w : World) : Calls Tryd.prog 5 #[.int .i64 (most : Int), .string s] w fun e w' => e = .returned (.bool true) ∧ Kept0 w w' := by
  have ds : decide ((300 : Int) < (s.size : Int)) = true := by simp; omega
  have HN := Lib.hid (new_yes most w h1 h2)
  clear hs h1 h2
  go_enter Tryd.func5, Tryd.ntmps5
  go_wp2_with fail
  refine HN.out.mono ?_
  rintro e w1 ⟨b, B, rfl, _, _, k1⟩
  go_wp2_with fail
  refine (awake_any w1).mono ?_
  rintro e w2 ⟨rfl, k2⟩
  go_wp2_with fail
  go_ret
  exact ⟨rfl, k1.trans k2⟩
theorem bounds_calls (most : Int) (s : ByteArray) (w : World) : Calls Tryd.prog 5 #[.int .i64 most, .string s] w fun e w' => e = .returned (.bool true) ∧ Below w.heap.size w w' := by
  by_cases h : 1 ≤ most ∧ most ≤ 64
  · obtain ⟨m, rfl⟩ := Int.eq_ofNat_of_zero_le (show 0 ≤ most by omega)
    by_cases hs : s.size ≤ 300
    · exact (bounds_in m s (by omega) (by omega) hs w).mono fun e w' ⟨h1, h2⟩ => ⟨h1, Kept0.below h2⟩
    · exact (bounds_long m s (by omega) (by omega) (by omega) w).mono fun e w' ⟨h1, h2⟩ => ⟨h1, Kept0.below h2⟩
  · exact (bounds_out most s h w).mono fun e w' ⟨h1, h2⟩ => ⟨h1, Kept0.below h2⟩
end Go.Proofs.YtadcnfenchemhaaDoor
