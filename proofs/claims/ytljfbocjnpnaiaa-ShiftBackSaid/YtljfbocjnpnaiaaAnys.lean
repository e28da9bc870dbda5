/-
  What Up, Lines and Chars of package shift come to, over all that they may be called with.
-/
import Derived.Test.YtljfbocjnpnaiaaShifts
namespace Go.Proofs.Ytljfbocjnpnaiaa
open Go.RowKit

theorem moveF_bnd (f : Nat → Cel) (o L : Nat) (n : Int) (x : Cel) (k : Nat) : moveF f o L (bnd n L) x k = moveF f o L n x k := by
  unfold moveF bnd
  by_cases h : o ≤ k ∧ k < o + L
  · rw [if_pos h, if_pos h]
    by_cases h1 : (o : Int) ≤ k + n ∧ (k : Int) + n < o + L
    · rw [if_pos h1, if_pos (by omega)]
      congr 2; omega
    · rw [if_neg h1, if_neg (by omega)]
  · rw [if_neg h, if_neg h]

theorem mul_bnd {m C : Nat} {n : Int} (hC : 1 ≤ C) : bnd (bnd n m * C) ((m * C : Nat) : Int) = bnd (n * C) ((m * C : Nat) : Int) := by
  have hm : (0 : Int) ≤ (m : Int) * C := Int.mul_nonneg (by omega) (by omega)
  rw [Int.natCast_mul]
  by_cases h1 : n ≤ m
  · by_cases h2 : -(m : Int) ≤ n
    · rw [show bnd n m = n by unfold bnd; omega]
    · rw [show bnd n m = -(m : Int) by unfold bnd; omega]
      have h3 : n * C ≤ -(m : Int) * C := Int.mul_le_mul_of_nonneg_right (by omega) (by omega)
      rw [Int.neg_mul] at h3 ⊢
      unfold bnd; omega
  · rw [show bnd n m = (m : Int) by unfold bnd; omega]
    have h3 : (m : Int) * C ≤ n * C := Int.mul_le_mul_of_nonneg_right (by omega) (by omega)
    unfold bnd; omega

theorem moveF_bndC (f : Nat → Cel) (o m C : Nat) (n : Int) (x : Cel) (k : Nat) (hC : 1 ≤ C) : moveF f o (m * C) (bnd n m * C) x k = moveF f o (m * C) (n * C) x k := by
  rw [← moveF_bnd, mul_bnd hC, moveF_bnd]

/-- All lines by n. -/
def upF (R C : Nat) (f : Nat → Cel) (n : Int) (x : Cel) : Nat → Cel := moveF f 0 (R * C) (n * C) x
def linesE (R : Nat) (r : Int) : Int := if 0 ≤ r ∧ r < R then 0 else 11
/-- Lines at a row, n of them. -/
def linesF (R C : Nat) (f : Nat → Cel) (r n : Int) (x : Cel) (b : Bool) : Nat → Cel :=
  if (0 ≤ r ∧ r < R) ∧ (b = true → cnt f (r.toNat * C) ((R - r.toNat) * C) = 0) then moveF f (r.toNat * C) ((R - r.toNat) * C) (opp n * C) x else f
def charsE (R C : Nat) (r c : Int) : Int := if 0 ≤ r ∧ r < R ∧ 0 ≤ c ∧ c < C then 0 else 11
/-- The last column that is moved. -/
def lastC (C : Nat) (f : Nat → Cel) (r c : Nat) (b : Bool) : Nat := if b = true then hi (gd C f r) (C - 1 - c) c else C - 1
/-- Cells at a place, n of them. -/
def charsF (R C : Nat) (f : Nat → Cel) (r c n : Int) (x : Cel) (b : Bool) : Nat → Cel :=
  if (0 ≤ r ∧ r < R ∧ 0 ≤ c ∧ c < C) ∧ ¬ (b = true ∧ gd C f r.toNat c.toNat = true) then moveF f (idx C r c) (lastC C f r.toNat c.toNat b + 1 - c.toNat) (opp n) x else f

theorem up_any (g t cap R C : Nat) (f : Nat → Cel) (n : Int) (x : Cel) (w : World) (hg : GridAt w g t cap R C f) :
    Calls Try.prog 18 #[.pointer (some ⟨g, 0, none⟩), .int .i64 n, x.v] w fun e w' => e = .returned (.int .i64 0) ∧ GridAt w' g t cap R C (upF R C f n x) ∧ Kept (· = t) w w' := by
  have hR1 := hg.R1
  have hR2 := hg.R2
  have hl := hg.row.lt
  refine up_core (· = t) _ _ (R : Int) (C : Int) n 0 x w (fun k e => by omega) ⟨by omega, by omega⟩ (fun w' k => size_any g R C w' (kcell k hg.c0) (kcell k hg.c1)) (fun w' k => ?_)
  refine (roll_in g t cap R C f 0 ((R : Int) - 1) n x w' (hg.kept k (fun e => e) (fun e => e)) (by omega) (by omega) (by omega) (by omega) (by omega)).mono ?_
  rintro e w2 ⟨rfl, h2, k2⟩
  refine ⟨rfl, ⟨h2.congr (fun j hj => ?_), (Kept0.to k).trans k2⟩, k2⟩
  have e1 : ((R : Int) - 1 - 0 + 1) = (R : Int) := by omega
  rw [e1]
  simp only [Int.toNat_natCast, Int.toNat_zero, Nat.zero_mul]
  exact moveF_bndC f 0 R C n x j hg.C1

theorem lines_any (g t cap R C : Nat) (f : Nat → Cel) (r n : Int) (x : Cel) (b : Bool) (w : World) (hg : GridAt w g t cap R C f) (hn : n ≤ 9223372036854775807) :
    Calls Try.prog 14 #[.pointer (some ⟨g, 0, none⟩), .int .i64 r, .int .i64 n, x.v, .bool b] w fun e w' => e = .returned (.int .i64 (linesE R r)) ∧ GridAt w' g t cap R C (linesF R C f r n x b) ∧ Kept (· = t) w w' := by
  have hR1 := hg.R1
  have hR2 := hg.R2
  have hl := hg.row.lt
  by_cases hr : 0 ≤ r ∧ r < R
  · rw [show linesE R r = 0 from if_pos hr]
    by_cases hb : b = true → cnt f (r.toNat * C) ((R - r.toNat) * C) = 0
    · rw [show linesF R C f r n x b = moveF f (r.toNat * C) ((R - r.toNat) * C) (opp n * C) x from if_pos ⟨hr, hb⟩]
      refine lines_core (· = t) _ _ (R : Int) (C : Int) r n 0 x b w (fun k e => by omega) ⟨by omega, by omega⟩ hn (fun e w' k => ?_) (fun w' k => size_any g R C w' (kcell k hg.c0) (kcell k hg.c1)) (fun w' k => ?_)
      · have := guarded_ok g t cap R C f r.toNat w' (hg.kept k (fun e => e) (fun e => e)) (by omega)
        rw [hb e, Int.toNat_of_nonneg hr.1] at this
        exact this
      · refine (roll_in g t cap R C f r ((R : Int) - 1) (opp n) x w' (hg.kept k (fun e => e) (fun e => e)) (by omega) (by omega) (by omega) (by omega) (by omega)).mono ?_
        rintro e w2 ⟨rfl, h2, k2⟩
        refine ⟨rfl, ⟨h2.congr (fun j hj => ?_), (Kept0.to k).trans k2⟩, k2⟩
        have e1 : ((R : Int) - 1 - r + 1) = ((R - r.toNat : Nat) : Int) := by omega
        rw [e1]
        simp only [Int.toNat_natCast]
        exact moveF_bndC f _ _ C _ x j hg.C1
    · rw [show linesF R C f r n x b = f from if_neg (fun e => hb e.2)]
      obtain ⟨rfl, hc⟩ : b = true ∧ ¬ cnt f (r.toNat * C) ((R - r.toNat) * C) = 0 := by
        constructor
        · cases b
          · exact (hb (fun e => by cases e)).elim
          · rfl
        · exact fun e => hb (fun _ => e)
      refine (lines_stop (some ⟨g, 0, none⟩) r n 0 (cnt f (r.toNat * C) ((R - r.toNat) * C) : Int) x w (Or.inr (by omega)) (fun w' k => ?_)).mono ?_
      · have := guarded_ok g t cap R C f r.toNat w' (hg.kept k (fun e => e) (fun e => e)) (by omega)
        rw [Int.toNat_of_nonneg hr.1] at this
        exact this
      · rintro e w2 ⟨rfl, k2⟩
        exact ⟨rfl, hg.kept k2 (fun e => e) (fun e => e), Kept0.to k2⟩
  · rw [show linesE R r = 11 from if_neg hr, show linesF R C f r n x b = f from if_neg (fun e => hr e.1)]
    cases b
    · refine lines_core (· = t) _ _ (R : Int) (C : Int) r n 11 x false w (fun k e => by omega) ⟨by omega, by omega⟩ hn (fun e w' k => by cases e) (fun w' k => size_any g R C w' (kcell k hg.c0) (kcell k hg.c1)) (fun w' k => ?_)
      refine (roll_out g t cap R C f r ((R : Int) - 1) (opp n) x w' (hg.kept k (fun e => e) (fun e => e)) (Or.inl hr)).mono ?_
      rintro e w2 ⟨rfl, k2⟩
      exact ⟨rfl, ⟨hg.kept (k.trans k2) (fun e => e) (fun e => e), Kept0.to (k.trans k2)⟩, Kept0.to k2⟩
    · refine (lines_stop (some ⟨g, 0, none⟩) r n 11 0 x w (Or.inl (by omega)) (fun w' k => guarded_out g t cap R C f r w' (hg.kept k (fun e => e) (fun e => e)) hr)).mono ?_
      rintro e w2 ⟨rfl, k2⟩
      exact ⟨rfl, hg.kept k2 (fun e => e) (fun e => e), Kept0.to k2⟩

theorem chars_any (g t cap R C : Nat) (f : Nat → Cel) (r c n : Int) (x : Cel) (b : Bool) (w : World) (hg : GridAt w g t cap R C f) (hn : n ≤ 9223372036854775807) :
    Calls Try.prog 24 #[.pointer (some ⟨g, 0, none⟩), .agg #[.int .i64 r, .int .i64 c], .int .i64 n, x.v, .bool b] w fun e w' => e = .returned (.int .i64 (charsE R C r c)) ∧ GridAt w' g t cap R C (charsF R C f r c n x b) ∧ Kept (· = t) w w' := by
  have hC1 := hg.C1
  have hC2 := hg.C2
  have hl := hg.row.lt
  by_cases hr : 0 ≤ r ∧ r < R ∧ 0 ≤ c ∧ c < C
  · rw [show charsE R C r c = 0 from if_pos hr]
    obtain ⟨h1, h2, h3, h4⟩ := hr
    by_cases hb : b = true ∧ gd C f r.toNat c.toNat = true
    · rw [show charsF R C f r c n x b = f from if_neg (fun e => e.2 hb)]
      obtain ⟨rfl, hb⟩ := hb
      refine (chars_stop (some ⟨g, 0, none⟩) (R : Int) (C : Int) r c n 15 0 0 x w (by omega) (fun w' k => ?_) (fun w' k => size_any g R C w' (kcell k hg.c0) (kcell k hg.c1))).mono ?_
      · have := field_taken g t cap R C f r.toNat c.toNat w' (hg.kept k (fun e => e) (fun e => e)) (by omega) (by omega) hb
        rw [Int.toNat_of_nonneg h1, Int.toNat_of_nonneg h3] at this
        exact this
      · rintro e w2 ⟨rfl, k2⟩
        exact ⟨rfl, hg.kept k2 (fun e => e) (fun e => e), Kept0.to k2⟩
    · rw [show charsF R C f r c n x b = moveF f (idx C r c) (lastC C f r.toNat c.toNat b + 1 - c.toNat) (opp n) x from if_pos ⟨⟨h1, h2, h3, h4⟩, hb⟩]
      have hla : c.toNat ≤ lastC C f r.toNat c.toNat b ∧ lastC C f r.toNat c.toNat b < C := by
        unfold lastC
        split
        · have := hi_le (gd C f r.toNat) (C - 1 - c.toNat) c.toNat
          omega
        · omega
      refine chars_core (· = t) _ _ (R : Int) (C : Int) r c n 0 (lastC C f r.toNat c.toNat b : Int) (lo (gd C f r.toNat) c.toNat : Int) x b w (fun k e => by omega) ⟨by omega, by omega⟩ hn (fun e => ?_) (fun e w' k => ?_) (fun w' k => size_any g R C w' (kcell k hg.c0) (kcell k hg.c1)) (fun w' k => ?_)
      · subst e
        unfold lastC
        rw [if_neg (by decide)]
        omega
      · subst e
        have hgd : gd C f r.toNat c.toNat = false := Bool.eq_false_iff.2 (fun h => hb ⟨rfl, h⟩)
        have := field_ok g t cap R C f r.toNat c.toNat w' (hg.kept k (fun e => e) (fun e => e)) (by omega) (by omega) hgd
        rw [Int.toNat_of_nonneg h1, Int.toNat_of_nonneg h3] at this
        exact this
      · have hle : idx C r c ≤ idx C r (lastC C f r.toNat c.toNat b : Int) := by
          simp only [idx, Int.toNat_natCast]; omega
        refine (slide_in g t cap R C f r c (lastC C f r.toNat c.toNat b : Int) (opp n) x w' (hg.kept k (fun e => e) (fun e => e)) ⟨h1, h2, h3, h4⟩ ⟨h1, h2, by omega, by omega⟩ hle).mono ?_
        rintro e w2 ⟨rfl, h2, k2⟩
        refine ⟨rfl, ⟨h2.congr (fun j hj => ?_), (Kept0.to k).trans k2⟩, k2⟩
        rw [moveF_bnd]
        congr 1
        simp only [idx, Int.toNat_natCast]
        omega
  · rw [show charsE R C r c = 11 from if_neg hr, show charsF R C f r c n x b = f from if_neg (fun e => hr e.1)]
    cases b
    · refine chars_core (· = t) _ _ (R : Int) (C : Int) r c n 11 ((C : Int) - 1) 0 x false w (fun k e => by omega) ⟨by omega, by omega⟩ hn (fun _ => rfl) (fun e w' k => by cases e) (fun w' k => size_any g R C w' (kcell k hg.c0) (kcell k hg.c1)) (fun w' k => ?_)
      refine (slide_out g R C r c ((C : Int) - 1) (opp n) x w' (kcell k hg.c0) (kcell k hg.c1) (Or.inl hr)).mono ?_
      rintro e w2 ⟨rfl, k2⟩
      exact ⟨rfl, ⟨hg.kept (k.trans k2) (fun e => e) (fun e => e), Kept0.to (k.trans k2)⟩, Kept0.to k2⟩
    · refine (chars_stop (some ⟨g, 0, none⟩) (R : Int) (C : Int) r c n 11 0 0 x w (by omega) (fun w' k => field_out g t cap R C f r c w' (hg.kept k (fun e => e) (fun e => e)) hr) (fun w' k => size_any g R C w' (kcell k hg.c0) (kcell k hg.c1))).mono ?_
      rintro e w2 ⟨rfl, k2⟩
      exact ⟨rfl, hg.kept k2 (fun e => e) (fun e => e), Kept0.to k2⟩

/-- Of a nil grid. -/
theorem up_nil (n : Int) (x : Cel) (w : World) : Calls Try.prog 18 #[.pointer none, .int .i64 n, x.v] w fun e w' => e = .returned (.int .i64 2) ∧ Kept0 w w' :=
  up_core (fun _ => False) _ _ 0 0 n 2 x w (fun k e => e.elim) ⟨by omega, by omega⟩ (fun w' _ => size_nil w') (fun w' k => (roll_nil 0 (0 - 1) n x w').mono (by
    rintro e w2 ⟨rfl, k2⟩
    exact ⟨rfl, k.trans k2, k2⟩))
theorem lines_nil (r n : Int) (x : Cel) (w : World) : Calls Try.prog 14 #[.pointer none, .int .i64 r, .int .i64 n, x.v, .bool true] w fun e w' => e = .returned (.int .i64 2) ∧ Kept0 w w' :=
  lines_stop none r n 2 0 x w (Or.inl (by omega)) (fun w' _ => guarded_nil r w')
theorem chars_nil (r c n : Int) (x : Cel) (b : Bool) (w : World) (hn : n ≤ 9223372036854775807) : Calls Try.prog 24 #[.pointer none, .agg #[.int .i64 r, .int .i64 c], .int .i64 n, x.v, .bool b] w fun e w' => e = .returned (.int .i64 2) ∧ Kept0 w w' := by
  cases b
  · exact chars_core (fun _ => False) _ none 0 0 r c n 2 (0 - 1) 0 x false w (fun k e => e.elim) ⟨by omega, by omega⟩ hn (fun _ => rfl) (fun e w' k => by cases e) (fun w' _ => size_nil w') (fun w' k => (slide_nil r c (0 - 1) (opp n) x w').mono (by
      rintro e w2 ⟨rfl, k2⟩
      exact ⟨rfl, k.trans k2, k2⟩))
  · exact chars_stop none 0 0 r c n 2 0 0 x w (by omega) (fun w' _ => field_nil r c w') (fun w' _ => size_nil w')
end Go.Proofs.Ytljfbocjnpnaiaa
