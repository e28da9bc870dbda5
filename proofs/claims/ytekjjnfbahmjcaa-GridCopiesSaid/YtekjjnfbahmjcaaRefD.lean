/-
  The answer of the document: the errors of Slide and Roll, and what a Roll puts to a place.
-/
import Derived.Test.YtekjjnfbahmjcaaRefC
namespace Go.Proofs.Ytekjjnfbahmjcaa
open Go.RowKit

theorem slideR_out (g t cap R C : Nat) (f : Nat → Int) (r c c' n x : Int) (w : World) (hg : RefAt w g t cap R C f) (h : ¬ There R C r c ∨ ¬ There R C r c') :
    Calls Try.prog 38 #[.pointer (some ⟨g, 0, none⟩), .int .i64 r, .int .i64 c, .int .i64 c', .int .i64 n, .int .i64 x] w fun e w' => e = .returned (.int .i64 11) ∧ Kept0 w w' := by
  by_cases h1 : There R C r c
  · have HB1 := Lib.hid (thereB_yes h1)
    have HB2 := Lib.hid (thereB_no (h.resolve_left (fun n => n h1)))
    clear h h1
    go_enter Try.func38, Try.ntmps38
    go_wp2_with fail
    refine (thereR g R C _ _ _ hg.c0 hg.c1).mono ?_
    rw [HB1.out]
    rintro e w1 ⟨rfl, rfl⟩
    go_wp2_with fail
    refine (thereR g R C _ _ _ hg.c0 hg.c1).mono ?_
    rw [HB2.out]
    rintro e w1 ⟨rfl, rfl⟩
    go_wp2_with fail
    go_ret
    exact ⟨rfl, Kept.refl _ _⟩
  · have HB1 := Lib.hid (thereB_no h1)
    clear h h1
    go_enter Try.func38, Try.ntmps38
    go_wp2_with fail
    refine (thereR g R C _ _ _ hg.c0 hg.c1).mono ?_
    rw [HB1.out]
    rintro e w1 ⟨rfl, rfl⟩
    go_wp2_with fail
    go_ret
    exact ⟨rfl, Kept.refl _ _⟩

theorem slideR_arg (g t cap R C : Nat) (f : Nat → Int) (r c c' n x : Int) (w : World) (hg : RefAt w g t cap R C f) (h1 : There R C r c) (h2 : There R C r c') (hlt : c' < c) :
    Calls Try.prog 38 #[.pointer (some ⟨g, 0, none⟩), .int .i64 r, .int .i64 c, .int .i64 c', .int .i64 n, .int .i64 x] w fun e w' => e = .returned (.int .i64 1) ∧ Kept0 w w' := by
  have HB1 := Lib.hid (thereB_yes h1)
  have HB2 := Lib.hid (thereB_yes h2)
  clear h1 h2
  go_enter Try.func38, Try.ntmps38
  go_wp2_with fail
  refine (thereR g R C _ _ _ hg.c0 hg.c1).mono ?_
  rw [HB1.out]
  rintro e w1 ⟨rfl, rfl⟩
  go_wp2_with fail
  refine (thereR g R C _ _ _ hg.c0 hg.c1).mono ?_
  rw [HB2.out]
  rintro e w1 ⟨rfl, rfl⟩
  go_wp2_with fail
  go_ret
  exact ⟨rfl, Kept.refl _ _⟩

theorem rollR_out (g t cap R C : Nat) (f : Nat → Int) (r r' n x : Int) (w : World) (hg : RefAt w g t cap R C f) (h : ¬ (0 ≤ r ∧ r < R) ∨ ¬ (0 ≤ r' ∧ r' < R)) :
    Calls Try.prog 37 #[.pointer (some ⟨g, 0, none⟩), .int .i64 r, .int .i64 r', .int .i64 n, .int .i64 x] w fun e w' => e = .returned (.int .i64 11) ∧ Kept0 w w' := by
  have hC1 := hg.C1
  by_cases h1 : 0 ≤ r ∧ r < R
  · have HB1 := Lib.hid (thereB_yes (R := R) (C := C) (r := r) (c := 0) ⟨h1.1, h1.2, by omega, by omega⟩)
    have HB2 := Lib.hid (thereB_no (R := R) (C := C) (r := r') (c := 0) (fun e => (h.resolve_left (fun n => n h1)) ⟨e.1, e.2.1⟩))
    clear h h1
    go_enter Try.func37, Try.ntmps37
    go_wp2_with fail
    refine (thereR g R C _ _ _ hg.c0 hg.c1).mono ?_
    rw [HB1.out]
    rintro e w1 ⟨rfl, rfl⟩
    go_wp2_with fail
    refine (thereR g R C _ _ _ hg.c0 hg.c1).mono ?_
    rw [HB2.out]
    rintro e w1 ⟨rfl, rfl⟩
    go_wp2_with fail
    go_ret
    exact ⟨rfl, Kept.refl _ _⟩
  · have HB1 := Lib.hid (thereB_no (R := R) (C := C) (r := r) (c := 0) (fun e => h1 ⟨e.1, e.2.1⟩))
    clear h h1
    go_enter Try.func37, Try.ntmps37
    go_wp2_with fail
    refine (thereR g R C _ _ _ hg.c0 hg.c1).mono ?_
    rw [HB1.out]
    rintro e w1 ⟨rfl, rfl⟩
    go_wp2_with fail
    go_ret
    exact ⟨rfl, Kept.refl _ _⟩

theorem rollR_arg (g t cap R C : Nat) (f : Nat → Int) (r r' n x : Int) (w : World) (hg : RefAt w g t cap R C f) (h1 : 0 ≤ r ∧ r < R) (h2 : 0 ≤ r' ∧ r' < R) (hlt : r' < r) :
    Calls Try.prog 37 #[.pointer (some ⟨g, 0, none⟩), .int .i64 r, .int .i64 r', .int .i64 n, .int .i64 x] w fun e w' => e = .returned (.int .i64 1) ∧ Kept0 w w' := by
  have hC1 := hg.C1
  have HB1 := Lib.hid (thereB_yes (R := R) (C := C) (r := r) (c := 0) ⟨h1.1, h1.2, by omega, by omega⟩)
  have HB2 := Lib.hid (thereB_yes (R := R) (C := C) (r := r') (c := 0) ⟨h2.1, h2.2, by omega, by omega⟩)
  clear h1 h2
  go_enter Try.func37, Try.ntmps37
  go_wp2_with fail
  refine (thereR g R C _ _ _ hg.c0 hg.c1).mono ?_
  rw [HB1.out]
  rintro e w1 ⟨rfl, rfl⟩
  go_wp2_with fail
  refine (thereR g R C _ _ _ hg.c0 hg.c1).mono ?_
  rw [HB2.out]
  rintro e w1 ⟨rfl, rfl⟩
  go_wp2_with fail
  go_ret
  exact ⟨rfl, Kept.refl _ _⟩

/-- What a Roll puts to a place. -/
theorem roll_val {C : Nat} {r r' n : Int} (f : Nat → Int) (x : Int) {d e : Nat} (h0 : 0 ≤ r) (h : r + d ≤ r') (he : e < C) :
    (n ≤ r' - (r + d) ∧ r - (r + d) ≤ n → moveF f (r.toNat * C) ((r' - r + 1).toNat * C) (n * C) x (r.toNat * C + (d * C + e)) = f (idx C (r + d + n) e)) ∧
    (¬ (n ≤ r' - (r + d) ∧ r - (r + d) ≤ n) → moveF f (r.toNat * C) ((r' - r + 1).toNat * C) (n * C) x (r.toNat * C + (d * C + e)) = x) := by
  obtain ⟨a, rfl⟩ := Int.eq_ofNat_of_zero_le h0
  obtain ⟨m, hm⟩ : ∃ m : Nat, r' = a + m := ⟨(r' - a).toNat, by omega⟩
  subst hm
  have e1 : (((a : Int) + (m : Int)) - (a : Int) + 1).toNat = m + 1 := by omega
  rw [e1]
  simp only [Int.toNat_natCast]
  have hd : d ≤ m := by omega
  have h2 : (d + 1) * C ≤ (m + 1) * C := Nat.mul_le_mul_right _ (by omega)
  rw [Nat.add_mul d 1] at h2
  unfold moveF
  rw [if_pos (by omega)]
  have e2 : ((a * C + (d * C + e) : Nat) : Int) + n * C = (a * C : Int) + ((d : Int) + n) * C + e := by
    rw [Int.add_mul]
    push_cast
    omega
  rw [e2]
  constructor
  · rintro ⟨h3, h4⟩
    have h5 : 0 ≤ (d : Int) + n := by omega
    have h6 : (d : Int) + n ≤ m := by omega
    have h7 : 0 ≤ ((d : Int) + n) * C := Int.mul_nonneg h5 (by omega)
    have h8 : ((d : Int) + n + 1) * C ≤ ((m : Int) + 1) * C := Int.mul_le_mul_of_nonneg_right (by omega) (by omega)
    rw [Int.add_mul _ 1] at h8
    have h9 : (((m + 1) * C : Nat) : Int) = ((m : Int) + 1) * C := by push_cast; rfl
    rw [if_pos (by push_cast at *; omega)]
    congr 1
    obtain ⟨b, hb⟩ := Int.eq_ofNat_of_zero_le h5
    rw [show (a : Int) + (d : Int) + n = ((a + b : Nat) : Int) by push_cast; omega, hb]
    simp only [idx, Int.toNat_natCast]
    rw [Nat.add_mul]
    have : (a : Int) * C + (b : Int) * C + e = ((a * C + b * C + e : Nat) : Int) := by push_cast; rfl
    rw [this]
    exact Int.toNat_natCast _
  · intro h3
    have hor : (d : Int) + n < 0 ∨ (m : Int) < (d : Int) + n := by omega
    have h9 : (((m + 1) * C : Nat) : Int) = ((m : Int) + 1) * C := by push_cast; rfl
    rcases hor with h4 | h4
    · have h8 : ((d : Int) + n + 1) * C ≤ 0 * C := Int.mul_le_mul_of_nonneg_right (by omega) (by omega)
      rw [Int.add_mul _ 1] at h8
      rw [if_neg (by push_cast at *; omega)]
    · have h8 : ((m : Int) + 1) * C ≤ ((d : Int) + n) * C := Int.mul_le_mul_of_nonneg_right (by omega) (by omega)
      rw [if_neg (by push_cast at *; omega)]
end Go.Proofs.Ytekjjnfbahmjcaa
