/-
  What each call answers, in the same words for a grid and for the answer of the document.
-/
import Derived.Test.YtekjjnfbahmjcaaRefF
namespace Go.Proofs.Ytekjjnfbahmjcaa
open Go.RowKit

/-! What each call answers, and what is where behind it: the same words for a grid and for the document's answer. -/

def setE (R C : Nat) (r c : Int) : Int := if thereB R C r c then 0 else 11
def setG (f : Nat → Int) (R C : Nat) (r c x : Int) : Nat → Int := if thereB R C r c then upd f (idx C r c) x else f
def fillE (R C : Nat) (r c r' c' : Int) : Int := if thereB R C r c && thereB R C r' c' then (if idx C r c ≤ idx C r' c' then 0 else 1) else 11
def fillG (f : Nat → Int) (R C : Nat) (r c r' c' x : Int) : Nat → Int :=
  if (thereB R C r c && thereB R C r' c') && decide (idx C r c ≤ idx C r' c') then fillF f (idx C r c) (idx C r' c' + 1 - idx C r c) x else f
def slideG (f : Nat → Int) (R C : Nat) (r c c' n x : Int) : Nat → Int :=
  if (thereB R C r c && thereB R C r c') && decide (idx C r c ≤ idx C r c') then moveF f (idx C r c) (idx C r c' + 1 - idx C r c) n x else f
def rowB (R : Nat) (r : Int) : Bool := decide (0 ≤ r ∧ r < R)
def rollE (R : Nat) (r r' : Int) : Int := if rowB R r && rowB R r' then (if r ≤ r' then 0 else 1) else 11
def rollG (f : Nat → Int) (R C : Nat) (r r' n x : Int) : Nat → Int :=
  if (rowB R r && rowB R r') && decide (r ≤ r') then moveF f (r.toNat * C) ((r' - r + 1).toNat * C) (n * C) x else f

theorem there_of {R C : Nat} {r c : Int} (h : thereB R C r c = true) : There R C r c := by
  have h' : 0 ≤ r ∧ r < R ∧ 0 ≤ c ∧ c < C := of_decide_eq_true h
  exact h'
theorem there_not {R C : Nat} {r c : Int} (h : thereB R C r c = false) : ¬ There R C r c := by
  have h' : ¬ (0 ≤ r ∧ r < R ∧ 0 ≤ c ∧ c < C) := of_decide_eq_false h
  exact h'

theorem set_u (g t cap R C : Nat) (f : Nat → Int) (r c x : Int) (w : World) (hg : GridAt w g t cap R C f) :
    Calls Try.prog 24 #[.pointer (some ⟨g, 0, none⟩), .agg #[.int .i64 r, .int .i64 c], .int .i64 x] w fun e w' => e = .returned (.int .i64 (setE R C r c)) ∧ GridAt w' g t cap R C (setG f R C r c x) ∧ Kept (· = t) w w' := by
  unfold setE setG
  cases h : thereB R C r c with
  | true => exact (set_in g t cap R C f r c x w hg (there_of h)).mono fun e w' h => h
  | false => exact (set_out g R C r c x w hg.c0 hg.c1 (there_not h)).mono fun e w' ⟨h1, h2⟩ => ⟨h1, hg.kept h2 (fun e => e) (fun e => e), h2.to⟩

theorem setR_u (g t cap R C : Nat) (f : Nat → Int) (r c x : Int) (w : World) (hg : RefAt w g t cap R C f) :
    Calls Try.prog 35 #[.pointer (some ⟨g, 0, none⟩), .int .i64 r, .int .i64 c, .int .i64 x] w fun e w' => e = .returned (.int .i64 (setE R C r c)) ∧ RefAt w' g t cap R C (setG f R C r c x) ∧ Kept (· = t) w w' := by
  unfold setE setG
  cases h : thereB R C r c with
  | true => exact (setR_in g t cap R C f r c x w hg (there_of h)).mono fun e w' h => h
  | false => exact (setR_out g t cap R C f r c x w hg (there_not h)).mono fun e w' ⟨h1, h2⟩ => ⟨h1, hg.kept h2 (fun e => e) (fun e => e), h2.to⟩

theorem both_no {a b : Bool} (h : (a && b) = false) : a = false ∨ b = false := by cases a <;> cases b <;> simp_all

theorem fill_u (g t cap R C : Nat) (f : Nat → Int) (r c r' c' x : Int) (w : World) (hg : GridAt w g t cap R C f) :
    Calls Try.prog 30 #[.pointer (some ⟨g, 0, none⟩), .agg #[.int .i64 r, .int .i64 c], .agg #[.int .i64 r', .int .i64 c'], .int .i64 x] w fun e w' => e = .returned (.int .i64 (fillE R C r c r' c')) ∧ GridAt w' g t cap R C (fillG f R C r c r' c' x) ∧ Kept (· = t) w w' := by
  unfold fillE fillG
  cases h : (thereB R C r c && thereB R C r' c') with
  | true =>
    obtain ⟨h1, h2⟩ := (Bool.and_eq_true _ _).mp h
    by_cases hle : idx C r c ≤ idx C r' c'
    · simp only [hle, decide_true, Bool.and_true, if_true]
      exact fill_in g t cap R C f r c r' c' x w hg (there_of h1) (there_of h2) hle
    · simp only [hle, decide_false, Bool.and_false, if_true, if_false]
      exact (fill_arg g t cap R C f r c r' c' x w hg (there_of h1) (there_of h2) (by omega)).mono fun e w' ⟨h1, h2⟩ => ⟨h1, by simpa using hg.kept h2 (fun e => e) (fun e => e), h2.to⟩
  | false =>
    refine (fill_out g R C r c r' c' x w hg.c0 hg.c1 ?_).mono fun e w' ⟨h1, h2⟩ => ⟨h1, by simpa using hg.kept h2 (fun e => e) (fun e => e), h2.to⟩
    exact (both_no h).imp there_not there_not

theorem fillR_u (g t cap R C : Nat) (f : Nat → Int) (r c r' c' x : Int) (w : World) (hg : RefAt w g t cap R C f) :
    Calls Try.prog 36 #[.pointer (some ⟨g, 0, none⟩), .agg #[.int .i64 r, .int .i64 c], .agg #[.int .i64 r', .int .i64 c'], .int .i64 x] w fun e w' => e = .returned (.int .i64 (fillE R C r c r' c')) ∧ RefAt w' g t cap R C (fillG f R C r c r' c' x) ∧ Kept (· = t) w w' := by
  unfold fillE fillG
  cases h : (thereB R C r c && thereB R C r' c') with
  | true =>
    obtain ⟨h1, h2⟩ := (Bool.and_eq_true _ _).mp h
    by_cases hle : idx C r c ≤ idx C r' c'
    · simp only [hle, decide_true, Bool.and_true, if_true]
      exact fillR_in g t cap R C f r c r' c' x w hg (there_of h1) (there_of h2) hle
    · simp only [hle, decide_false, Bool.and_false, if_true, if_false]
      exact (fillR_arg g t cap R C f r c r' c' x w hg (there_of h1) (there_of h2) (by omega)).mono fun e w' ⟨h1, h2⟩ => ⟨h1, by simpa using hg.kept h2 (fun e => e) (fun e => e), h2.to⟩
  | false =>
    refine (fillR_out g t cap R C f r c r' c' x w hg ?_).mono fun e w' ⟨h1, h2⟩ => ⟨h1, by simpa using hg.kept h2 (fun e => e) (fun e => e), h2.to⟩
    exact (both_no h).imp there_not there_not

theorem slide_u (g t cap R C : Nat) (f : Nat → Int) (r c c' n x : Int) (w : World) (hg : GridAt w g t cap R C f) :
    Calls Try.prog 31 #[.pointer (some ⟨g, 0, none⟩), .int .i64 r, .int .i64 c, .int .i64 c', .int .i64 n, .int .i64 x] w fun e w' => e = .returned (.int .i64 (fillE R C r c r c')) ∧ GridAt w' g t cap R C (slideG f R C r c c' n x) ∧ Kept (· = t) w w' := by
  unfold fillE slideG
  cases h : (thereB R C r c && thereB R C r c') with
  | true =>
    obtain ⟨h1, h2⟩ := (Bool.and_eq_true _ _).mp h
    by_cases hle : idx C r c ≤ idx C r c'
    · simp only [hle, decide_true, Bool.and_true, if_true]
      exact (slide_in g t cap R C f r c c' n x w hg (there_of h1) (there_of h2) hle).mono fun e w' ⟨h1, h2, h3⟩ => ⟨h1, h2.congr (fun k _ => moveF_bnd f _ _ n x k), h3⟩
    · simp only [hle, decide_false, Bool.and_false, if_true, if_false]
      exact (slide_arg g t cap R C f r c c' n x w hg (there_of h1) (there_of h2) (by omega)).mono fun e w' ⟨h1, h2⟩ => ⟨h1, by simpa using hg.kept h2 (fun e => e) (fun e => e), h2.to⟩
  | false =>
    refine (slide_out g R C r c c' n x w hg.c0 hg.c1 ?_).mono fun e w' ⟨h1, h2⟩ => ⟨h1, by simpa using hg.kept h2 (fun e => e) (fun e => e), h2.to⟩
    exact (both_no h).imp there_not there_not

theorem idx_le {R C : Nat} {r c c' : Int} (h1 : There R C r c) (h2 : There R C r c') : idx C r c ≤ idx C r c' ↔ c ≤ c' := by
  obtain ⟨_, _, h3, _⟩ := h1
  obtain ⟨_, _, h4, _⟩ := h2
  simp only [idx]
  omega

theorem slideR_u (g t cap R C : Nat) (f : Nat → Int) (r c c' n x : Int) (w : World) (hg : RefAt w g t cap R C f) (hn : -9223372036854775808 ≤ n ∧ n ≤ 9223372036854775807) :
    Calls Try.prog 38 #[.pointer (some ⟨g, 0, none⟩), .int .i64 r, .int .i64 c, .int .i64 c', .int .i64 n, .int .i64 x] w fun e w' => e = .returned (.int .i64 (fillE R C r c r c')) ∧ RefAt w' g t cap R C (slideG f R C r c c' n x) ∧ Kept (· = t) w w' := by
  unfold fillE slideG
  cases h : (thereB R C r c && thereB R C r c') with
  | true =>
    obtain ⟨h1, h2⟩ := (Bool.and_eq_true _ _).mp h
    by_cases hle : idx C r c ≤ idx C r c'
    · simp only [hle, decide_true, Bool.and_true, if_true]
      exact slideR_in g t cap R C f r c c' n x w hg (there_of h1) (there_of h2) ((idx_le (there_of h1) (there_of h2)).1 hle) hn
    · simp only [hle, decide_false, Bool.and_false, if_true, if_false]
      have hlt : c' < c := by
        have := idx_le (there_of h1) (there_of h2)
        omega
      exact (slideR_arg g t cap R C f r c c' n x w hg (there_of h1) (there_of h2) hlt).mono fun e w' ⟨h1, h2⟩ => ⟨h1, by simpa using hg.kept h2 (fun e => e) (fun e => e), h2.to⟩
  | false =>
    refine (slideR_out g t cap R C f r c c' n x w hg ?_).mono fun e w' ⟨h1, h2⟩ => ⟨h1, by simpa using hg.kept h2 (fun e => e) (fun e => e), h2.to⟩
    exact (both_no h).imp there_not there_not

theorem row_of {R : Nat} {r : Int} (h : rowB R r = true) : 0 ≤ r ∧ r < R := of_decide_eq_true h
theorem row_not {R : Nat} {r : Int} (h : rowB R r = false) : ¬ (0 ≤ r ∧ r < R) := of_decide_eq_false h

theorem moveF_rows (f : Nat → Int) (o C : Nat) (m : Int) (hm : 0 ≤ m) (n x : Int) (k : Nat) : moveF f o (m.toNat * C) (bnd n m * C) x k = moveF f o (m.toNat * C) (n * C) x k := by
  unfold moveF
  by_cases h1 : o ≤ k ∧ k < o + m.toNat * C
  · rw [if_pos h1, if_pos h1]
    unfold bnd
    by_cases h2 : -m ≤ n ∧ n ≤ m
    · rw [show max (-m) (min n m) = n by omega]
    · have e : ((m.toNat * C : Nat) : Int) = m * C := by rw [Int.natCast_mul, Int.toNat_of_nonneg hm]
      by_cases h3 : n < -m
      · rw [show max (-m) (min n m) = -m by omega]
        have h4 : n * C ≤ -m * C := Int.mul_le_mul_of_nonneg_right (by omega) (by omega)
        have h5 : -m * (C : Int) = -(m * C) := Int.neg_mul _ _
        rw [if_neg (by omega), if_neg (by omega)]
      · rw [show max (-m) (min n m) = m by omega]
        have h4 : m * C ≤ n * C := Int.mul_le_mul_of_nonneg_right (by omega) (by omega)
        rw [if_neg (by omega), if_neg (by omega)]
  · rw [if_neg h1, if_neg h1]

theorem roll_u (g t cap R C : Nat) (f : Nat → Int) (r r' n x : Int) (w : World) (hg : GridAt w g t cap R C f) :
    Calls Try.prog 29 #[.pointer (some ⟨g, 0, none⟩), .int .i64 r, .int .i64 r', .int .i64 n, .int .i64 x] w fun e w' => e = .returned (.int .i64 (rollE R r r')) ∧ GridAt w' g t cap R C (rollG f R C r r' n x) ∧ Kept (· = t) w w' := by
  unfold rollE rollG
  cases h : (rowB R r && rowB R r') with
  | true =>
    obtain ⟨h1, h2⟩ := (Bool.and_eq_true _ _).mp h
    by_cases hle : r ≤ r'
    · simp only [hle, decide_true, Bool.and_true, if_true]
      exact (roll_in g t cap R C f r r' n x w hg (row_of h1).1 (row_of h1).2 (row_of h2).1 (row_of h2).2 hle).mono fun e w' ⟨h1, h2, h3⟩ => ⟨h1, h2.congr (fun k _ => moveF_rows f _ C (r' - r + 1) (by omega) n x k), h3⟩
    · simp only [hle, decide_false, Bool.and_false, if_true, if_false]
      exact (roll_arg g t cap R C f r r' n x w hg (row_of h1).1 (row_of h1).2 (row_of h2).1 (row_of h2).2 (by omega)).mono fun e w' ⟨h1, h2⟩ => ⟨h1, by simpa using hg.kept h2 (fun e => e) (fun e => e), h2.to⟩
  | false =>
    refine (roll_out g t cap R C f r r' n x w hg ?_).mono fun e w' ⟨h1, h2⟩ => ⟨h1, by simpa using hg.kept h2 (fun e => e) (fun e => e), h2.to⟩
    exact (both_no h).imp row_not row_not

theorem rollR_u (g t cap R C : Nat) (f : Nat → Int) (r r' n x : Int) (w : World) (hg : RefAt w g t cap R C f) (hn : -9223372036854775808 ≤ n ∧ n ≤ 9223372036854775807) :
    Calls Try.prog 37 #[.pointer (some ⟨g, 0, none⟩), .int .i64 r, .int .i64 r', .int .i64 n, .int .i64 x] w fun e w' => e = .returned (.int .i64 (rollE R r r')) ∧ RefAt w' g t cap R C (rollG f R C r r' n x) ∧ Kept (· = t) w w' := by
  unfold rollE rollG
  cases h : (rowB R r && rowB R r') with
  | true =>
    obtain ⟨h1, h2⟩ := (Bool.and_eq_true _ _).mp h
    by_cases hle : r ≤ r'
    · simp only [hle, decide_true, Bool.and_true, if_true]
      exact rollR_in g t cap R C f r r' n x w hg (row_of h1) (row_of h2) hle hn
    · simp only [hle, decide_false, Bool.and_false, if_true, if_false]
      exact (rollR_arg g t cap R C f r r' n x w hg (row_of h1) (row_of h2) (by omega)).mono fun e w' ⟨h1, h2⟩ => ⟨h1, by simpa using hg.kept h2 (fun e => e) (fun e => e), h2.to⟩
  | false =>
    refine (rollR_out g t cap R C f r r' n x w hg ?_).mono fun e w' ⟨h1, h2⟩ => ⟨h1, by simpa using hg.kept h2 (fun e => e) (fun e => e), h2.to⟩
    exact (both_no h).imp row_not row_not

/-- What At answers. -/
def atX (f : Nat → Int) (R C : Nat) (r c : Int) : Int := if thereB R C r c then f (idx C r c) else 0
theorem at_u (g t cap R C : Nat) (f : Nat → Int) (r c : Int) (w : World) (hg : GridAt w g t cap R C f) :
    Calls Try.prog 27 #[.pointer (some ⟨g, 0, none⟩), .agg #[.int .i64 r, .int .i64 c]] w fun e w' => e = .returned (.tuple #[.int .i64 (atX f R C r c), .int .i64 (setE R C r c)]) ∧ Kept0 w w' := by
  unfold atX setE
  cases h : thereB R C r c with
  | true => exact at_in g t cap R C f r c w hg (there_of h)
  | false => exact at_out g R C r c w hg.c0 hg.c1 (there_not h)
end Go.Proofs.Ytekjjnfbahmjcaa
