/-
  The answer of the document: Roll.
-/
import Derived.Test.YtekjjnfbahmjcaaRefD
namespace Go.Proofs.Ytekjjnfbahmjcaa
open Go.RowKit

set_option maxHeartbeats 2000000 in
theorem rollR_in (g t cap R C : Nat) (f : Nat → Int) (r r' n x : Int) (w : World) (hg : RefAt w g t cap R C f) (h1 : 0 ≤ r ∧ r < R) (h2 : 0 ≤ r' ∧ r' < R) (hle : r ≤ r') (hn : -9223372036854775808 ≤ n ∧ n ≤ 9223372036854775807) :
    Calls Try.prog 37 #[.pointer (some ⟨g, 0, none⟩), .int .i64 r, .int .i64 r', .int .i64 n, .int .i64 x] w fun e w' =>
      e = .returned (.int .i64 0) ∧ RefAt w' g t cap R C (moveF f (r.toNat * C) ((r' - r + 1).toNat * C) (n * C) x) ∧ Kept (· = t) w w' := by
  have hC1 := hg.C1
  have hC2 := hg.C2
  have hR2 := hg.R2
  have HB1 := Lib.hid (thereB_yes (R := R) (C := C) (r := r) (c := 0) ⟨h1.1, h1.2, by omega, by omega⟩)
  have HB2 := Lib.hid (thereB_yes (R := R) (C := C) (r := r') (c := 0) ⟨h2.1, h2.2, by omega, by omega⟩)
  obtain ⟨r1, r2⟩ := h1
  obtain ⟨r3, r4⟩ := h2
  have hgl := hg.lt
  have htl := hg.row.lt
  have hd : decide (r' < r) = false := by simp; omega
  obtain ⟨F, hF⟩ : ∃ F, F = moveF f (r.toNat * C) ((r' - r + 1).toNat * C) (n * C) x := ⟨_, rfl⟩
  rw [← hF]
  have HF := Lib.hid hF
  clear hF
  obtain ⟨o, ho⟩ : ∃ o, o = r.toNat * C := ⟨_, rfl⟩
  have HO := Lib.hid ho
  clear ho
  go_enter Try.func37, Try.ntmps37
  go_wp2_with fail
  refine (thereR g R C _ _ _ hg.c0 hg.c1).mono ?_
  rw [HB1.out]
  rintro e w1 ⟨rfl, rfl⟩
  go_wp2_with fail
  refine (thereR g R C _ _ _ hg.c0 hg.c1).mono ?_
  rw [HB2.out]
  rintro e w1 ⟨rfl, rfl⟩
  go_wp2_with fail
  refine (copyR g t cap R C f _ hg).mono ?_
  rintro e w1 ⟨g1, t1, cap1, rfl, hg1, ht1, hR1, hk1⟩
  have hG1 := hg.kept hk1 (fun e => e) (fun e => e)
  go_wp2_with fail
  go_loopw [12, 13, 14] (fun i s13 s14 wr => ∃ d : Nat, r + d ≤ r' + 1 ∧ i = .int .i64 (r + d) ∧ RefAt wr g t cap R C (partF f F o (d * C)) ∧ RefAt wr g1 t1 cap1 R C f ∧ Kept (· = t) w wr) (fun i _ _ _ => (r' + 1 - intOf i).toNat)
  case atStart => exact ⟨0, by omega, by simp, hG1.congr (fun k _ => by simp [partF]; omega), hR1, Kept0.to hk1⟩
  case round =>
    obtain ⟨d, hd1, rfl, hr, hold, hkp⟩ := hrel
    by_cases hlt : r + d ≤ r'
    · go_wp2_with fail
      go_loopw [13, 14] (fun i s14 wq => ∃ e : Nat, e ≤ C ∧ i = .int .i64 (e : Int) ∧ RefAt wq g t cap R C (partF f F o (d * C + e)) ∧ RefAt wq g1 t1 cap1 R C f ∧ Kept (· = t) w wq) (fun i _ _ => C - (intOf i).toNat)
      case atStart => exact ⟨0, by omega, rfl, hr, hold, hkp⟩
      case round =>
        obtain ⟨e, he, rfl, hq, holdq, hkq⟩ := hrel
        have c1 := hq.c1
        by_cases hlt2 : e < C
        · have HI : Hid (idx C (r + d) (e : Int) = o + (d * C + e)) := by
            show idx C (r + d) (e : Int) = o + (d * C + e)
            rw [HO.out]
            simp only [idx]
            rw [show (r + (d : Int)).toNat = r.toNat + d by omega, Nat.add_mul]
            omega
          by_cases h5 : n ≤ r' - (r + d) ∧ r - (r + d) ≤ n
          · have HV : Hid (F (o + (d * C + e)) = f (idx C (r + d + n) e)) := by
              show F (o + (d * C + e)) = f (idx C (r + d + n) e)
              rw [HF.out, HO.out]
              exact (roll_val f x r1 hlt hlt2).1 h5
            obtain ⟨h6, h7⟩ := h5
            go_wp2_with fail
            refine (getR g1 t1 cap1 R C f _ _ _ holdq ⟨by omega, by omega, by omega, by omega⟩).mono ?_
            rw [← HV.out]
            rintro e9 w3 ⟨rfl, hk3⟩
            replace hq := hq.kept hk3 (fun e => e) (fun e => e)
            replace holdq := holdq.kept hk3 (fun e => e) (fun e => e)
            have hkq3 : Kept (· = t) w w3 := hkq.later hk3 (fun _ _ e => e.elim)
            clear hk3 c1
            go_wp2_with fail
            refine (setR_in g t cap R C _ _ _ _ _ hq ⟨by omega, by omega, by omega, by omega⟩).mono ?_
            rintro e9 w4 ⟨rfl, hr4, hk4⟩
            have hold4 := holdq.kept hk4 (by omega) (by omega)
            go_wp2_with fail
            go_roundw
            case rel =>
              have hfin : RefAt w4 g t cap R C (partF f F o (d * C + (e + 1))) := hr4.congr (fun j _ => by
                rw [HI.out]
                exact partF_step f F o (d * C + e) j)
              exact ⟨e + 1, by omega, by go_num, hfin, hold4, hkq3.trans hk4⟩
            case measure => simp [intOf]; omega
          · have HV : Hid (F (o + (d * C + e)) = x) := by
              show F (o + (d * C + e)) = x
              rw [HF.out, HO.out]
              exact (roll_val f x r1 hlt hlt2).2 h5
            have hor : ¬ n ≤ r' - (r + d) ∨ ¬ r - (r + d) ≤ n := by omega
            rcases hor with h6 | h6
            all_goals
              clear h5
              try (have h7 : n ≤ r' - (r + d) := by omega)
              go_wp2_with fail
              refine (setR_in g t cap R C _ _ _ _ _ hq ⟨by omega, by omega, by omega, by omega⟩).mono ?_
              rintro e9 w4 ⟨rfl, hr4, hk4⟩
              have hold4 := holdq.kept hk4 (by omega) (by omega)
              go_wp2_with fail
              go_roundw
              case rel =>
                have hfin : RefAt w4 g t cap R C (partF f F o (d * C + (e + 1))) := hr4.congr (fun j _ => by
                  rw [HI.out]
                  have h9 := partF_step f F o (d * C + e) j
                  rw [HV.out] at h9
                  exact h9)
                exact ⟨e + 1, by omega, by go_num, hfin, hold4, hkq.trans hk4⟩
              case measure => simp [intOf]; omega
        · obtain rfl : e = C := by omega
          go_wp2_with fail
          go_roundw
          case rel =>
            refine ⟨d + 1, by omega, by congr 1; omega, ?_, holdq, hkq⟩
            rw [Nat.add_mul, Nat.one_mul]
            exact hq
          case measure => simp [intOf]; omega
    · go_wp2_with fail
      go_ret
      have hdd : (r' - r + 1).toNat = d := by omega
      refine ⟨rfl, hr.congr (fun j _ => ?_), hkp⟩
      unfold partF
      by_cases e : o ≤ j ∧ j < o + d * C
      · rw [if_pos e]
      · rw [if_neg e, HF.out]
        unfold moveF
        rw [hdd, ← HO.out, if_neg e]
end Go.Proofs.Ytekjjnfbahmjcaa
