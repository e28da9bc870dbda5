/-
  What guarded cells, and cells ahead of a place, are behind Lines and Chars: in numbers. No walk.
-/
import Derived.Test.YtkpfhgfdfndliaaDoorMSh
import Derived.Test.YtkpfhgfdfndliaaDoorMIt
namespace Go.Proofs.YtkpfhgfdfndliaaDoor
namespace Sh
open Go.RowKit

theorem hi_free (p : Nat → Bool) : ∀ n c j, c < j → j ≤ hi p n c → p j = false
  | 0, c, j, h1, h2 => by simp only [hi] at h2; omega
  | n + 1, c, j, h1, h2 => by
    unfold hi at h2
    by_cases h : p (c + 1) = true
    · rw [if_pos h] at h2; omega
    · rw [if_neg h] at h2
      by_cases e : j = c + 1
      · subst e; simpa using h
      · exact hi_free p n (c + 1) j (by omega) h2

theorem cnt_zero (f : Nat → Cel) (a : Nat) : ∀ n, cnt f a n = 0 → ∀ j, j < n → (f (a + j)).b = false
  | 0, _, j, h => by omega
  | n + 1, h0, j, h => by
    unfold cnt at h0
    by_cases e : j = n
    · subst e
      by_cases hb : (f (a + j)).b = true
      · rw [if_pos hb] at h0; omega
      · simpa using hb
    · exact cnt_zero f a n (by omega) j (by omega)

theorem lines_guard (R C : Nat) (f : Nat → Cel) (r n : Int) (x : Cel) (hx : x.b = false) (k : Nat) (hk : k < R * C) :
    (linesF R C f r n x true k).b = (f k).b ∧ (((f k).b = true ∨ (rowOf C k : Int) < r) → linesF R C f r n x true k = f k) := by
  unfold linesF
  by_cases h : (0 ≤ r ∧ r < R) ∧ (true = true → cnt f (r.toNat * C) ((R - r.toNat) * C) = 0)
  · rw [if_pos h]
    obtain ⟨⟨h1, h2⟩, h3⟩ := h
    have hz := cnt_zero f _ _ (h3 rfl)
    have hsum : r.toNat * C + (R - r.toNat) * C = R * C := by rw [← Nat.add_mul]; congr 1; omega
    unfold moveF
    by_cases hin : r.toNat * C ≤ k ∧ k < r.toNat * C + (R - r.toNat) * C
    · rw [if_pos hin]
      have hfk : (f k).b = false := by
        have := hz (k - r.toNat * C) (by omega)
        rwa [show r.toNat * C + (k - r.toNat * C) = k by omega] at this
      constructor
      · split
        · rename_i h4
          have := hz (((k : Int) + opp n * C).toNat - r.toNat * C) (by omega)
          rw [show r.toNat * C + (((k : Int) + opp n * C).toNat - r.toNat * C) = ((k : Int) + opp n * C).toNat by omega] at this
          rw [this, hfk]
        · rw [hx, hfk]
      · rintro (h4 | h4)
        · rw [hfk] at h4; cases h4
        · exfalso
          have hC : 0 < C := by
            rcases Nat.eq_zero_or_pos C with e | e
            · subst e; simp at hk
            · exact e
          have h5 : k / C < r.toNat := by unfold rowOf at h4; omega
          have := (Nat.div_lt_iff_lt_mul hC).1 h5
          omega
    · rw [if_neg hin]
      exact ⟨rfl, fun _ => rfl⟩
  · rw [if_neg h]
    exact ⟨rfl, fun _ => rfl⟩

theorem row_col_at {C r j : Nat} (h : j < C) : rowOf C (r * C + j) = r ∧ colOf C (r * C + j) = j := by
  unfold rowOf colOf
  constructor
  · rw [Nat.mul_comm, Nat.mul_add_div (by omega), Nat.div_eq_of_lt h]; omega
  · rw [Nat.mul_comm, Nat.mul_add_mod]; exact Nat.mod_eq_of_lt h

theorem chars_guard (R C : Nat) (f : Nat → Cel) (r c n : Int) (x : Cel) (hx : x.b = false) (k : Nat) :
    (charsF R C f r c n x true k).b = (f k).b ∧ (((f k).b = true ∨ ¬ (rowOf C k : Int) = r ∨ (colOf C k : Int) < c) → charsF R C f r c n x true k = f k) := by
  unfold charsF
  by_cases h : (0 ≤ r ∧ r < R ∧ 0 ≤ c ∧ c < C) ∧ ¬ (true = true ∧ gd C f r.toNat c.toNat = true)
  · rw [if_pos h]
    obtain ⟨⟨h1, h2, h3, h4⟩, h5⟩ := h
    have hfree : gd C f r.toNat c.toNat = false := Bool.eq_false_iff.2 (fun e => h5 ⟨rfl, e⟩)
    have hla : lastC C f r.toNat c.toNat true = hi (gd C f r.toNat) (C - 1 - c.toNat) c.toNat := if_pos rfl
    rw [hla]
    have hle := hi_le (gd C f r.toNat) (C - 1 - c.toNat) c.toNat
    have hz : ∀ j, c.toNat ≤ j → j ≤ hi (gd C f r.toNat) (C - 1 - c.toNat) c.toNat → (f (r.toNat * C + j)).b = false := fun j hj1 hj2 => by
      by_cases e : j = c.toNat
      · subst e; exact hfree
      · exact hi_free _ _ _ j (by omega) hj2
    generalize hi (gd C f r.toNat) (C - 1 - c.toNat) c.toNat = H at *
    unfold moveF
    have hid : idx C r c = r.toNat * C + c.toNat := rfl
    rw [hid]
    by_cases hin : r.toNat * C + c.toNat ≤ k ∧ k < r.toNat * C + c.toNat + (H + 1 - c.toNat)
    · rw [if_pos hin]
      obtain ⟨j, rfl⟩ : ∃ j, k = r.toNat * C + j := ⟨k - r.toNat * C, by omega⟩
      have hfk := hz j (by omega) (by omega)
      constructor
      · split
        · rename_i h6
          obtain ⟨q, hq⟩ : ∃ q : Nat, (((r.toNat * C + j : Nat) : Int) + opp n).toNat = r.toNat * C + q := ⟨(((r.toNat * C + j : Nat) : Int) + opp n).toNat - r.toNat * C, by omega⟩
          rw [hq, hz q (by omega) (by omega), hfk]
        · rw [hx, hfk]
      · rintro (h6 | h6 | h6)
        · rw [hfk] at h6; cases h6
        · have := (row_col_at (C := C) (r := r.toNat) (j := j) (by omega)).1
          rw [this] at h6; omega
        · have := (row_col_at (C := C) (r := r.toNat) (j := j) (by omega)).2
          rw [this] at h6; omega
    · rw [if_neg hin]
      exact ⟨rfl, fun _ => rfl⟩
  · rw [if_neg h]
    exact ⟨rfl, fun _ => rfl⟩
end Sh
end Go.Proofs.YtkpfhgfdfndliaaDoor
