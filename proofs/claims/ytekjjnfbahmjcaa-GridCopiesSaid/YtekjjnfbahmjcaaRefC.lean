/-
  The answer of the document: Fill and Slide.
-/
import Derived.Test.YtekjjnfbahmjcaaRefB
namespace Go.Proofs.Ytekjjnfbahmjcaa
open Go.RowKit

/-- Those from o on, m of them, are F's. -/
def partF (f F : Nat → Int) (o m : Nat) : Nat → Int := fun k => if o ≤ k ∧ k < o + m then F k else f k

theorem partF_step (f F : Nat → Int) (o m k : Nat) : upd (partF f F o m) (o + m) (F (o + m)) k = partF f F o (m + 1) k := by
  unfold upd partF
  by_cases h : k = o + m
  · subst h; rw [if_pos rfl, if_pos (by omega)]
  · rw [if_neg h]
    by_cases h2 : o ≤ k ∧ k < o + m
    · rw [if_pos h2, if_pos (by omega)]
    · rw [if_neg h2, if_neg (by omega)]

theorem moveF_bnd (f : Nat → Int) (o L : Nat) (n x : Int) (k : Nat) : moveF f o L (bnd n L) x k = moveF f o L n x k := by
  unfold moveF
  by_cases h1 : o ≤ k ∧ k < o + L
  · rw [if_pos h1, if_pos h1]
    unfold bnd
    by_cases h2 : -(L : Int) ≤ n ∧ n ≤ L
    · rw [show max (-(L : Int)) (min n L) = n by omega]
    · rw [if_neg (by omega), if_neg (by omega)]
  · rw [if_neg h1, if_neg h1]

theorem wrap_idx64 {R C : Nat} {r c : Int} (h : There R C r c) (hR : R ≤ 255) (hC : C ≤ 255) : wrap64 (wrap64 (r * (C : Int)) + c) = (idx C r c : Int) := by
  have := wrap_idx h hR hC
  rwa [IntWalk.i64_left, IntWalk.i64_left] at this

set_option maxHeartbeats 1000000 in
theorem fillR_in (g t cap R C : Nat) (f : Nat → Int) (r c r' c' x : Int) (w : World) (hg : RefAt w g t cap R C f) (h1 : There R C r c) (h2 : There R C r' c') (hle : idx C r c ≤ idx C r' c') :
    Calls Try.prog 36 #[.pointer (some ⟨g, 0, none⟩), .agg #[.int .i64 r, .int .i64 c], .agg #[.int .i64 r', .int .i64 c'], .int .i64 x] w fun e w' =>
      e = .returned (.int .i64 0) ∧ RefAt w' g t cap R C (fillF f (idx C r c) (idx C r' c' + 1 - idx C r c) x) ∧ Kept (· = t) w w' := by
  have hl1 := idx_lt h1
  have hl2 := idx_lt h2
  have hRC : R * C ≤ 65025 := Nat.mul_le_mul hg.R2 hg.C2
  have HB1 := Lib.hid (thereB_yes h1)
  have HB2 := Lib.hid (thereB_yes h2)
  have HW1 := Lib.hid (wrap_idx64 h1 hg.R2 hg.C2)
  have HW2 := Lib.hid (wrap_idx64 h2 hg.R2 hg.C2)
  obtain ⟨N, hN⟩ : ∃ N, N = R * C := ⟨_, rfl⟩
  rw [← hN] at hl1 hl2 hRC
  have HN := Lib.hid hN
  clear h1 h2 hN
  have hgl := hg.lt
  have htl := hg.row.lt
  have k0 : Kept0 w ((w.alloc (.cells #[.int .i64 r, .int .i64 c] 39)).alloc (.cells #[.int .i64 r', .int .i64 c'] 39)) := ((Kept.refl _ w).alloc _).alloc _
  go_enter Try.func36, Try.ntmps36
  go_wp2_with fail
  refine (thereR g R C _ _ _ (kcell k0 hg.c0) (kcell k0 hg.c1)).mono ?_
  rw [HB1.out]
  rintro e w1 ⟨rfl, rfl⟩
  go_wp2_with fail
  refine (thereR g R C _ _ _ (kcell k0 hg.c0) (kcell k0 hg.c1)).mono ?_
  rw [HB2.out]
  rintro e w1 ⟨rfl, rfl⟩
  have b0 : ((w.alloc (.cells #[.int .i64 r, .int .i64 c] 39)).alloc (.cells #[.int .i64 r', .int .i64 c'] 39)).cell? ⟨w.heap.size, 0, none⟩ = some (.int .i64 r) := by simp [go_sem]
  have b1 : ((w.alloc (.cells #[.int .i64 r, .int .i64 c] 39)).alloc (.cells #[.int .i64 r', .int .i64 c'] 39)).cell? ⟨w.heap.size, 1, none⟩ = some (.int .i64 c) := by simp [go_sem]
  have b2 : ((w.alloc (.cells #[.int .i64 r, .int .i64 c] 39)).alloc (.cells #[.int .i64 r', .int .i64 c'] 39)).cell? ⟨w.heap.size + 1, 0, none⟩ = some (.int .i64 r') := by simp [go_sem]
  have b3 : ((w.alloc (.cells #[.int .i64 r, .int .i64 c] 39)).alloc (.cells #[.int .i64 r', .int .i64 c'] 39)).cell? ⟨w.heap.size + 1, 1, none⟩ = some (.int .i64 c') := by simp [go_sem]
  obtain ⟨w2, hw2⟩ : ∃ w2, w2 = (w.alloc (.cells #[.int .i64 r, .int .i64 c] 39)).alloc (.cells #[.int .i64 r', .int .i64 c'] 39) := ⟨_, rfl⟩
  rw [← hw2] at b0 b1 b2 b3 k0 ⊢
  clear hw2
  have c1 := kcell k0 hg.c1
  go_wp2_with fail
  go_quiet (fail)
  rw [HW1.out]
  go_wp2_with fail
  go_quiet (fail)
  rw [HW2.out]
  generalize ho : idx C r c = o at *
  generalize hp : idx C r' c' = p at *
  have HO := Lib.hid ho
  have HP := Lib.hid hp
  clear ho hp
  have hd : decide (p < o) = false := by simp; omega
  go_wp2_with fail
  go_loopw [11] (fun i wr => ∃ k : Nat, o ≤ k ∧ k ≤ p + 1 ∧ i = .int .i64 k ∧ RefAt wr g t cap R C (fillF f o (k - o) x) ∧ Kept (· = t) w wr) (fun i _ => p + 1 - (intOf i).toNat)
  case atStart =>
    have hkd : Kept0 w ((w2.drewN nq)) := k0.drewN _
    refine ⟨o, Nat.le_refl _, by omega, rfl, (hg.congr (fun j _ => by simp [fillF]; omega)).kept (k0.drewN _) (fun e => e) (fun e => e), Kept0.to (k0.drewN _)⟩
  case round =>
    obtain ⟨k, hk1, hk2, rfl, hr, hkp⟩ := hrel
    by_cases hlt : k ≤ p
    · have c2 := hr.c2
      rw [← HN.out] at c2
      have hc := hr.row.cell (k := k) (by rw [← HN.out]; omega)
      have hf := hr.row.frozen k
      have m1 : ¬ g = t := hg.ne
      have m2 : ¬ t = g := fun e => hg.ne e.symm
      go_wp2_with fail
      go_roundw
      case rel =>
        have ks := Kept.set1 wr t k (.int .i64 x)
        refine ⟨k + 1, by omega, by omega, by go_num, hr.withRow ks ((hr.row.set k x).congr (fun j _ => ?_)), hkp.trans ks⟩
        unfold upd fillF
        by_cases e : j = k
        · subst e; rw [if_pos rfl, if_pos (by omega)]
        · rw [if_neg e]
          by_cases e2 : o ≤ j ∧ j < o + (k - o)
          · rw [if_pos e2, if_pos (by omega)]
          · rw [if_neg e2, if_neg (by omega)]
      case measure => simp [intOf]; omega
    · go_wp2_with fail
      go_ret
      obtain rfl : k = p + 1 := by omega
      rw [HO.out, HP.out]
      exact ⟨rfl, hr, hkp⟩

set_option maxHeartbeats 1000000 in
theorem fillR_out (g t cap R C : Nat) (f : Nat → Int) (r c r' c' x : Int) (w : World) (hg : RefAt w g t cap R C f) (h : ¬ There R C r c ∨ ¬ There R C r' c') :
    Calls Try.prog 36 #[.pointer (some ⟨g, 0, none⟩), .agg #[.int .i64 r, .int .i64 c], .agg #[.int .i64 r', .int .i64 c'], .int .i64 x] w fun e w' => e = .returned (.int .i64 11) ∧ Kept0 w w' := by
  have k0 : Kept0 w ((w.alloc (.cells #[.int .i64 r, .int .i64 c] 39)).alloc (.cells #[.int .i64 r', .int .i64 c'] 39)) := ((Kept.refl _ w).alloc _).alloc _
  by_cases h1 : There R C r c
  · have HB1 := Lib.hid (thereB_yes h1)
    have HB2 := Lib.hid (thereB_no (h.resolve_left (fun n => n h1)))
    clear h h1
    go_enter Try.func36, Try.ntmps36
    go_wp2_with fail
    refine (thereR g R C _ _ _ (kcell k0 hg.c0) (kcell k0 hg.c1)).mono ?_
    rw [HB1.out]
    rintro e w1 ⟨rfl, rfl⟩
    go_wp2_with fail
    refine (thereR g R C _ _ _ (kcell k0 hg.c0) (kcell k0 hg.c1)).mono ?_
    rw [HB2.out]
    rintro e w1 ⟨rfl, rfl⟩
    go_wp2_with fail
    go_ret
    exact ⟨rfl, k0⟩
  · have HB1 := Lib.hid (thereB_no h1)
    clear h h1
    go_enter Try.func36, Try.ntmps36
    go_wp2_with fail
    refine (thereR g R C _ _ _ (kcell k0 hg.c0) (kcell k0 hg.c1)).mono ?_
    rw [HB1.out]
    rintro e w1 ⟨rfl, rfl⟩
    go_wp2_with fail
    go_ret
    exact ⟨rfl, k0⟩

set_option maxHeartbeats 1000000 in
theorem fillR_arg (g t cap R C : Nat) (f : Nat → Int) (r c r' c' x : Int) (w : World) (hg : RefAt w g t cap R C f) (h1 : There R C r c) (h2 : There R C r' c') (hle : idx C r' c' < idx C r c) :
    Calls Try.prog 36 #[.pointer (some ⟨g, 0, none⟩), .agg #[.int .i64 r, .int .i64 c], .agg #[.int .i64 r', .int .i64 c'], .int .i64 x] w fun e w' => e = .returned (.int .i64 1) ∧ Kept0 w w' := by
  have HB1 := Lib.hid (thereB_yes h1)
  have HB2 := Lib.hid (thereB_yes h2)
  have HW1 := Lib.hid (wrap_idx64 h1 hg.R2 hg.C2)
  have HW2 := Lib.hid (wrap_idx64 h2 hg.R2 hg.C2)
  clear h1 h2
  have k0 : Kept0 w ((w.alloc (.cells #[.int .i64 r, .int .i64 c] 39)).alloc (.cells #[.int .i64 r', .int .i64 c'] 39)) := ((Kept.refl _ w).alloc _).alloc _
  go_enter Try.func36, Try.ntmps36
  go_wp2_with fail
  refine (thereR g R C _ _ _ (kcell k0 hg.c0) (kcell k0 hg.c1)).mono ?_
  rw [HB1.out]
  rintro e w1 ⟨rfl, rfl⟩
  go_wp2_with fail
  refine (thereR g R C _ _ _ (kcell k0 hg.c0) (kcell k0 hg.c1)).mono ?_
  rw [HB2.out]
  rintro e w1 ⟨rfl, rfl⟩
  have b0 : ((w.alloc (.cells #[.int .i64 r, .int .i64 c] 39)).alloc (.cells #[.int .i64 r', .int .i64 c'] 39)).cell? ⟨w.heap.size, 0, none⟩ = some (.int .i64 r) := by simp [go_sem]
  have b1 : ((w.alloc (.cells #[.int .i64 r, .int .i64 c] 39)).alloc (.cells #[.int .i64 r', .int .i64 c'] 39)).cell? ⟨w.heap.size, 1, none⟩ = some (.int .i64 c) := by simp [go_sem]
  have b2 : ((w.alloc (.cells #[.int .i64 r, .int .i64 c] 39)).alloc (.cells #[.int .i64 r', .int .i64 c'] 39)).cell? ⟨w.heap.size + 1, 0, none⟩ = some (.int .i64 r') := by simp [go_sem]
  have b3 : ((w.alloc (.cells #[.int .i64 r, .int .i64 c] 39)).alloc (.cells #[.int .i64 r', .int .i64 c'] 39)).cell? ⟨w.heap.size + 1, 1, none⟩ = some (.int .i64 c') := by simp [go_sem]
  obtain ⟨w2, hw2⟩ : ∃ w2, w2 = (w.alloc (.cells #[.int .i64 r, .int .i64 c] 39)).alloc (.cells #[.int .i64 r', .int .i64 c'] 39) := ⟨_, rfl⟩
  rw [← hw2] at b0 b1 b2 b3 k0 ⊢
  clear hw2
  have c1 := kcell k0 hg.c1
  go_wp2_with fail
  go_quiet (fail)
  rw [HW1.out]
  go_wp2_with fail
  go_quiet (fail)
  rw [HW2.out]
  have hd : decide (idx C r' c' < idx C r c) = true := by simp; omega
  go_wp2_with fail
  go_ret
  exact ⟨rfl, k0.drewN _⟩

theorem slide_val {C : Nat} {r c c' n : Int} (f : Nat → Int) (x : Int) {d : Nat} (p1 : 0 ≤ c) (h : c + d ≤ c') :
    (n ≤ c' - (c + d) ∧ c - (c + d) ≤ n → moveF f (idx C r c) (idx C r c' + 1 - idx C r c) n x (idx C r c + d) = f (idx C r (c + d + n))) ∧
    (¬ (n ≤ c' - (c + d) ∧ c - (c + d) ≤ n) → moveF f (idx C r c) (idx C r c' + 1 - idx C r c) n x (idx C r c + d) = x) := by
  have hL : idx C r c' + 1 - idx C r c = (c' - c).toNat + 1 := by simp only [idx]; omega
  rw [hL]
  unfold moveF
  rw [if_pos (by omega)]
  constructor
  · intro h5
    rw [if_pos (by omega)]
    congr 1
    simp only [idx]
    omega
  · intro h5
    rw [if_neg (by omega)]

set_option maxHeartbeats 1000000 in
theorem slideR_in (g t cap R C : Nat) (f : Nat → Int) (r c c' n x : Int) (w : World) (hg : RefAt w g t cap R C f) (h1 : There R C r c) (h2 : There R C r c') (hle : c ≤ c') (hn : -9223372036854775808 ≤ n ∧ n ≤ 9223372036854775807) :
    Calls Try.prog 38 #[.pointer (some ⟨g, 0, none⟩), .int .i64 r, .int .i64 c, .int .i64 c', .int .i64 n, .int .i64 x] w fun e w' =>
      e = .returned (.int .i64 0) ∧ RefAt w' g t cap R C (moveF f (idx C r c) (idx C r c' + 1 - idx C r c) n x) ∧ Kept (· = t) w w' := by
  have HB1 := Lib.hid (thereB_yes h1)
  have HB2 := Lib.hid (thereB_yes h2)
  have hC2 := hg.C2
  have hR2 := hg.R2
  have hgl := hg.lt
  have htl := hg.row.lt
  obtain ⟨r1, r2, p1, p2⟩ := h1
  obtain ⟨_, _, p3, p4⟩ := h2
  have hidx : ∀ d : Nat, c + d ≤ c' → Hid (idx C r (c + d) = idx C r c + d) := fun d hd => by
    show idx C r (c + d) = idx C r c + d
    simp only [idx]; omega
  have HL : Hid (idx C r c' + 1 - idx C r c = (c' - c).toNat + 1) := by
    show idx C r c' + 1 - idx C r c = (c' - c).toNat + 1
    simp only [idx]; omega
  have hd : decide (c' < c) = false := by simp; omega
  go_enter Try.func38, Try.ntmps38
  go_wp2_with fail
  refine (thereR g R C _ _ _ hg.c0 hg.c1).mono ?_
  rw [HB1.out]
  rintro e w1 ⟨rfl, rfl⟩
  go_wp2_with fail
  refine (thereR g R C _ _ _ hg.c0 hg.c1).mono ?_
  rw [HB2.out]
  rintro e w1 ⟨rfl, rfl⟩
  go_wp2_with fail
  refine (copyR g t cap R C f _ hg).mono ?_
  rintro e w1 ⟨g1, t1, cap1, rfl, hg1, ht1, hR1, hk1⟩
  have hG1 := hg.kept hk1 (fun e => e) (fun e => e)
  go_wp2_with fail
  go_loopw [14, 15] (fun i s15 wr => ∃ d : Nat, c + d ≤ c' + 1 ∧ i = .int .i64 (c + d) ∧ RefAt wr g t cap R C (partF f (moveF f (idx C r c) (idx C r c' + 1 - idx C r c) n x) (idx C r c) d) ∧ RefAt wr g1 t1 cap1 R C f ∧ Kept (· = t) w wr) (fun i _ _ => (c' + 1 - intOf i).toNat)
  case atStart => exact ⟨0, by omega, by simp, hG1.congr (fun k _ => by simp [partF]; omega), hR1, Kept0.to hk1⟩
  case round =>
    obtain ⟨d, hd1, rfl, hr, hold, hkp⟩ := hrel
    by_cases hlt : c + d ≤ c'
    · by_cases h5 : n ≤ c' - (c + d) ∧ c - (c + d) ≤ n
      · obtain ⟨h6, h7⟩ := h5
        have HV := Lib.hid ((slide_val (C := C) (r := r) f x p1 hlt).1 ⟨h6, h7⟩)
        go_wp2_with fail
        refine (getR g1 t1 cap1 R C f _ _ _ hold ⟨r1, r2, by omega, by omega⟩).mono ?_
        rw [← HV.out]
        rintro e w3 ⟨rfl, hk3⟩
        replace hr := hr.kept hk3 (fun e => e) (fun e => e)
        replace hold := hold.kept hk3 (fun e => e) (fun e => e)
        have hkp3 : Kept (· = t) w w3 := hkp.later hk3 (fun _ _ e => e.elim)
        clear hk3
        go_wp2_with fail
        refine (setR_in g t cap R C _ _ _ _ _ hr ⟨r1, r2, by omega, by omega⟩).mono ?_
        rintro e w4 ⟨rfl, hr4, hk4⟩
        have hold4 := hold.kept hk4 (by omega) (by omega)
        go_wp2_with fail
        go_roundw
        case rel =>
          refine ⟨d + 1, by omega, by congr 1; omega, hr4.congr (fun j _ => ?_), hold4, hkp3.trans hk4⟩
          rw [(hidx d hlt).out]
          exact partF_step f _ (idx C r c) d j
        case measure => simp [intOf]; omega
      · have HV := Lib.hid ((slide_val (C := C) (r := r) (n := n) f x p1 hlt).2 h5)
        have hor : ¬ n ≤ c' - (c + d) ∨ ¬ c - (c + d) ≤ n := by omega
        rcases hor with h6 | h6
        all_goals
          clear h5
          try (have h7 : n ≤ c' - (c + d) := by omega)
          go_wp2_with fail
          refine (setR_in g t cap R C _ _ _ _ _ hr ⟨r1, r2, by omega, by omega⟩).mono ?_
          rintro e w4 ⟨rfl, hr4, hk4⟩
          have hold4 := hold.kept hk4 (by omega) (by omega)
          go_wp2_with fail
          go_roundw
          case rel =>
            have hfin : RefAt w4 g t cap R C (partF f (moveF f (idx C r c) (idx C r c' + 1 - idx C r c) n x) (idx C r c) (d + 1)) := hr4.congr (fun j _ => by
              rw [(hidx d hlt).out]
              have h9 := partF_step f (moveF f (idx C r c) (idx C r c' + 1 - idx C r c) n x) (idx C r c) d j
              rw [HV.out] at h9
              exact h9)
            exact ⟨d + 1, by omega, by congr 1; omega, hfin, hold4, hkp.trans hk4⟩
          case measure => simp [intOf]; omega
    · go_wp2_with fail
      go_ret
      refine ⟨rfl, hr.congr (fun j _ => ?_), hkp⟩
      have hL := HL.out
      unfold partF
      by_cases e : idx C r c ≤ j ∧ j < idx C r c + d
      · rw [if_pos e]
      · rw [if_neg e]
        unfold moveF
        rw [if_neg (by omega)]
end Go.Proofs.Ytekjjnfbahmjcaa
