/-
  Numbers and cells: what is turned, how many, and what is done twice. No program.
-/
import Derived.Test.YtedgnjideemfbaaDoes
namespace Go.Proofs.Ytedgnjideemfbaa
open Go.RowKit

/-- How many of the first ones are other ones. -/
def cntD (F G : Nat → Cel) : Nat → Nat
  | 0 => 0
  | n + 1 => cntD F G n + if F n = G n then 0 else 1
theorem cntD_le (F G : Nat → Cel) : ∀ n, cntD F G n ≤ n
  | 0 => Nat.le_refl _
  | n + 1 => by
    have := cntD_le F G n
    unfold cntD
    split <;> omega
theorem cntD_self (F : Nat → Cel) : ∀ n, cntD F F n = 0
  | 0 => rfl
  | n + 1 => by unfold cntD; rw [cntD_self F n, if_pos rfl]

theorem cntD_part (F : Nat → Cel) (o : Cel → Cel) (i m : Nat) : ∀ N, cntD F (partT F o i m) N = cntT F o i (min m (N - i))
  | 0 => by simp [cntD, cntT]
  | N + 1 => by
    unfold cntD
    rw [cntD_part F o i m N]
    by_cases h1 : N < i
    · rw [show N + 1 - i = N - i by omega, if_pos (by unfold partT; rw [if_neg (by omega)])]
      omega
    · by_cases h2 : N < i + m
      · rw [show min m (N - i) = N - i by omega, show min m (N + 1 - i) = N - i + 1 by omega]
        have e : i + (N - i) = N := by omega
        have hp : partT F o i m N = o (F N) := if_pos ⟨by omega, by omega⟩
        conv => rhs; unfold cntT
        rw [e, hp]
        by_cases h : o (F N) = F N
        · rw [if_pos h.symm, if_pos h]
        · rw [if_neg (fun e => h e.symm), if_neg h]
      · rw [show min m (N - i) = m by omega, show min m (N + 1 - i) = m by omega, if_pos (by unfold partT; rw [if_neg (by omega)])]
        omega

theorem cntD_wipe (R C : Nat) (F : Nat → Cel) (o : Cel → Cel) (r c r' c' : Int) : cntD F (wipeF R C F o r c r' c') (R * C) = wipeN R C F o r c r' c' := by
  unfold wipeF wipeN
  by_cases hE : wipeE R C r c r' c' = 0
  · rw [if_pos hE, if_pos hE, cntD_part]
    obtain ⟨h1, h2, h3⟩ := wipeE_zero hE
    have := idx_lt h2
    congr 1
    omega
  · rw [if_neg hE, if_neg hE, cntD_self]

theorem one_idem (b : Bool) (h : Cel → Cel) (hh : ∀ x, h (h x) = h x) (x : Cel) : one b h (one b h x) = one b h x := by
  by_cases e : b = true ∧ x.b = true
  · rw [show one b h x = x from if_pos e]
    exact if_pos e
  · rw [show one b h x = h x from if_neg e]
    unfold one
    split
    · rfl
    · exact hh x
theorem oOf_idem (ask : Int) (x : Cel) (b : Bool) (y : Cel) : oOf ask x b (oOf ask x b y) = oOf ask x b y := by
  unfold oOf
  split
  · exact one_idem b (fun _ => x) (fun _ => rfl) y
  · split
    · exact one_idem b (dyed x.a) (fun _ => rfl) y
    · exact one_idem false (shielded x.b) (fun _ => rfl) y

theorem cntT_again (F : Nat → Cel) (o : Cel → Cel) (ho : ∀ x, o (o x) = o x) (i m : Nat) : ∀ n, n ≤ m → cntT (partT F o i m) o i n = 0
  | 0, _ => rfl
  | n + 1, h => by
    unfold cntT
    rw [cntT_again F o ho i m n (by omega), show partT F o i m (i + n) = o (F (i + n)) from if_pos ⟨by omega, by omega⟩, if_pos (ho _)]

theorem wipeN_again (R C : Nat) (F : Nat → Cel) (o : Cel → Cel) (ho : ∀ x, o (o x) = o x) (r c r' c' : Int) : wipeN R C (wipeF R C F o r c r' c') o r c r' c' = 0 := by
  unfold wipeF wipeN
  by_cases hE : wipeE R C r c r' c' = 0
  · rw [if_pos hE, if_pos hE]
    exact cntT_again F o ho _ _ _ (Nat.le_refl _)
  · rw [if_neg hE]

/-- What is turned is between the places, and is not guarded, if that counts. -/
theorem wipeF_turned (R C : Nat) (F : Nat → Cel) (ask : Int) (x : Cel) (b : Bool) (r c r' c' : Int) (k : Nat) (hC : 1 ≤ C) (hk : k < R * C) (hne : ¬ F k = wipeF R C F (oOf ask x b) r c r' c' k) :
    wipeE R C r c r' c' = 0 ∧ ((r < rowOf C k ∨ (rowOf C k : Int) = r ∧ c ≤ colOf C k) ∧ ((rowOf C k : Int) < r' ∨ (rowOf C k : Int) = r' ∧ (colOf C k : Int) ≤ c')) ∧ ((ask = 0 ∨ ask = 1) → b = true → (F k).b = false) := by
  unfold wipeF at hne
  by_cases hE : wipeE R C r c r' c' = 0
  · rw [if_pos hE] at hne
    obtain ⟨h1, h2, h3⟩ := wipeE_zero hE
    unfold partT at hne
    by_cases hin : idx C r c ≤ k ∧ k < idx C r c + (idx C r' c' + 1 - idx C r c)
    · rw [if_pos hin] at hne
      have hth := there_row_col hk hC
      have a1 := ahead_idx hth h1
      have a2 := ahead_idx h2 hth
      rw [idx_row_col] at a1 a2
      rw [show decide (k < idx C r c) = false from decide_eq_false (by omega)] at a1
      rw [show decide (idx C r' c' < k) = false from decide_eq_false (by omega)] at a2
      have b1 := of_decide_eq_false a1
      have b2 := of_decide_eq_false a2
      refine ⟨hE, ⟨by omega, by omega⟩, ?_⟩
      rintro ha rfl
      cases hb : (F k).b
      · rfl
      · exfalso
        apply hne
        unfold oOf
        rcases ha with rfl | rfl
        · rw [if_pos rfl]
          exact (if_pos ⟨rfl, hb⟩).symm
        · rw [if_neg (by decide), if_pos rfl]
          exact (if_pos ⟨rfl, hb⟩).symm
    · rw [if_neg hin] at hne
      exact absurd rfl hne
  · rw [if_neg hE] at hne
    exact absurd rfl hne
end Go.Proofs.Ytedgnjideemfbaa
