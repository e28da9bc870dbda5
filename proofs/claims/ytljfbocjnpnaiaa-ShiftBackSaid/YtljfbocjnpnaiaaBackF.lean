/-
  What n inserted, and n deleted there, comes to: in numbers. No walk.
-/
import Derived.Test.YtljfbocjnpnaiaaGuardF
namespace Go.Proofs.Ytljfbocjnpnaiaa
open Go.RowKit

theorem moveF_back (f : Nat → Cel) (o L : Nat) (a : Int) (x : Cel) (k : Nat) (ha : 0 ≤ a) : moveF (moveF f o L (-a) x) o L a x k = if o ≤ k ∧ k < o + L then (if (k : Int) + a < o + L then f k else x) else f k := by
  unfold moveF
  by_cases h1 : o ≤ k ∧ k < o + L
  · rw [if_pos h1, if_pos h1]
    by_cases h2 : (k : Int) + a < o + L
    · rw [if_pos (by omega), if_pos h2, if_pos (by omega)]
      have e : (((k : Int) + a).toNat : Int) = (k : Int) + a := Int.toNat_of_nonneg (by omega)
      rw [e, if_pos (by omega)]
      congr 1; omega
    · rw [if_neg (by omega), if_neg h2]
  · rw [if_neg h1, if_neg h1, if_neg h1]

/-- Behind both: what was pushed out is filled, all else as it was. -/
theorem lines_back (R C : Nat) (f : Nat → Cel) (r n : Int) (x : Cel) (hr : 0 ≤ r ∧ r < R) (hn : 0 ≤ n ∧ n ≤ 20) (k : Nat) (hk : k < R * C) :
    linesF R C (linesF R C f r n x false) r (-n) x false k = if r ≤ (rowOf C k : Int) ∧ (R : Int) ≤ (rowOf C k : Int) + n then x else f k := by
  have hf : ∀ (f : Nat → Cel) (n : Int), linesF R C f r n x false = moveF f (r.toNat * C) ((R - r.toNat) * C) (opp n * C) x := fun f n => if_pos ⟨hr, fun e => by cases e⟩
  have hC : 0 < C := by
    rcases Nat.eq_zero_or_pos C with e | e
    · subst e; simp at hk
    · exact e
  have hsum : r.toNat * C + (R - r.toNat) * C = R * C := by rw [← Nat.add_mul]; congr 1; omega
  rw [hf, hf, show opp n = -n by unfold opp; omega, show opp (-n) = n by unfold opp; omega, Int.neg_mul, moveF_back _ _ _ _ _ _ (Int.mul_nonneg hn.1 (by omega))]
  have hm := Nat.div_add_mod k C
  have hmod := Nat.mod_lt k hC
  have hrow : (r ≤ (rowOf C k : Int)) ↔ r.toNat * C ≤ k := by
    unfold rowOf
    constructor
    · intro h
      have : r.toNat * C ≤ k / C * C := Nat.mul_le_mul_right _ (by omega)
      rw [Nat.mul_comm (k / C)] at this
      omega
    · intro h
      have := (Nat.le_div_iff_mul_le hC).2 h
      omega
  have hend : ((k : Int) + n * C < ((r.toNat * C : Nat) : Int) + (((R - r.toNat) * C : Nat) : Int)) ↔ (rowOf C k : Int) + n < R := by
    rw [← Int.natCast_add, hsum]
    obtain ⟨m, rfl⟩ := Int.eq_ofNat_of_zero_le hn.1
    unfold rowOf
    have e1 : (k : Int) + (m : Int) * (C : Int) = ((k + m * C : Nat) : Int) := by push_cast; rfl
    rw [e1]
    have e2 : (k + m * C) / C = k / C + m := Nat.add_mul_div_right _ _ hC
    constructor
    · intro h
      have : (k + m * C) / C < R := (Nat.div_lt_iff_lt_mul hC).2 (by omega)
      omega
    · intro h
      have : (k + m * C) / C < R := by omega
      have := (Nat.div_lt_iff_lt_mul hC).1 this
      omega
  have hkk : k < r.toNat * C + (R - r.toNat) * C := by omega
  by_cases h1 : r ≤ (rowOf C k : Int)
  · rw [if_pos ⟨hrow.1 h1, hkk⟩]
    by_cases h2 : (rowOf C k : Int) + n < R
    · rw [if_pos (hend.2 h2), if_neg (by omega)]
    · rw [if_neg (fun e => h2 (hend.1 e)), if_pos ⟨h1, by omega⟩]
  · rw [if_neg (fun e => h1 (hrow.2 e.1)), if_neg (fun e => h1 e.1)]

theorem chars_back (R C : Nat) (f : Nat → Cel) (r c n : Int) (x : Cel) (hr : 0 ≤ r ∧ r < R ∧ 0 ≤ c ∧ c < C) (hn : 0 ≤ n ∧ n ≤ 20) (k : Nat) :
    charsF R C (charsF R C f r c n x false) r c (-n) x false k = if (rowOf C k : Int) = r ∧ c ≤ (colOf C k : Int) ∧ (C : Int) ≤ (colOf C k : Int) + n then x else f k := by
  have hf : ∀ (f : Nat → Cel) (n : Int), charsF R C f r c n x false = moveF f (idx C r c) (C - 1 + 1 - c.toNat) (opp n) x := fun f n => if_pos ⟨hr, fun e => by cases e.1⟩
  obtain ⟨h1, h2, h3, h4⟩ := hr
  rw [hf, hf, show opp n = -n by unfold opp; omega, show opp (-n) = n by unfold opp; omega, moveF_back _ _ _ _ _ _ hn.1]
  have hid : idx C r c = r.toNat * C + c.toNat := rfl
  rw [hid]
  by_cases hin : r.toNat * C + c.toNat ≤ k ∧ k < r.toNat * C + c.toNat + (C - 1 + 1 - c.toNat)
  · rw [if_pos hin]
    obtain ⟨j, rfl⟩ : ∃ j, k = r.toNat * C + j := ⟨k - r.toNat * C, by omega⟩
    obtain ⟨e1, e2⟩ := row_col_at (C := C) (r := r.toNat) (j := j) (by omega)
    rw [e1, e2]
    by_cases h5 : ((r.toNat * C + j : Nat) : Int) + n < ((r.toNat * C + c.toNat : Nat) : Int) + ((C - 1 + 1 - c.toNat : Nat) : Int)
    · rw [if_pos h5, if_neg (by omega)]
    · rw [if_neg h5, if_pos ⟨by omega, by omega, by omega⟩]
  · rw [if_neg hin, if_neg]
    rintro ⟨e1, e2, e3⟩
    apply hin
    have hm := Nat.div_add_mod k C
    have hmod := Nat.mod_lt k (show 0 < C by omega)
    unfold rowOf at e1
    unfold colOf at e2
    have e4 : k / C = r.toNat := by omega
    rw [e4, Nat.mul_comm] at hm
    omega
end Go.Proofs.Ytljfbocjnpnaiaa
