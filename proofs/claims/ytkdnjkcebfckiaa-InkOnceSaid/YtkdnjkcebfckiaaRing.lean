/-
  Places that are gone round by, one behind the other; the first one that is not guarded. No program.
-/
import Derived.Test.YtkdnjkcebfckiaaWNums
namespace Go.Proofs.Ytkdnjkcebfckiaa
open Go.RowKit

/-- The place that is i steps behind the k-th one (or ahead of it), of N, going round. -/
def stp (N : Nat) (b : Bool) (k i : Nat) : Nat := if b = true then (k + N - i) % N else (k + i) % N

theorem stp_lt {N k i : Nat} {b : Bool} (h : 0 < N) : stp N b k i < N := by
  unfold stp; split <;> exact Nat.mod_lt _ h
theorem stp_zero {N k : Nat} {b : Bool} (h : k < N) : stp N b k 0 = k := by
  unfold stp
  split
  · rw [Nat.sub_zero, Nat.add_mod_right]; exact Nat.mod_eq_of_lt h
  · exact Nat.mod_eq_of_lt h
theorem stp_next {N k i : Nat} {b : Bool} (hk : k < N) (hi : i < N) : stp N b (stp N b k i) 1 = stp N b k (i + 1) := by
  unfold stp
  cases b
  · simp only [Bool.false_eq_true, if_false]
    rw [Nat.mod_add_mod, Nat.add_assoc]
  · simp only [if_true]
    by_cases h : i ≤ k
    · rw [show k + N - i = (k - i) + N by omega, Nat.add_mod_right, Nat.mod_eq_of_lt (show k - i < N by omega), show k - i + N - 1 = k + N - (i + 1) by omega]
    · rw [Nat.mod_eq_of_lt (show k + N - i < N by omega), show k + N - i + N - 1 = (k + N - (i + 1)) + N by omega, Nat.add_mod_right]
theorem stp_any {N k x : Nat} (b : Bool) (hk : k < N) (hx : x < N) : ∃ i, i < N ∧ stp N b k i = x := by
  unfold stp
  cases b
  · simp only [Bool.false_eq_true, if_false]
    by_cases h : k ≤ x
    · exact ⟨x - k, by omega, by rw [show k + (x - k) = x by omega]; exact Nat.mod_eq_of_lt hx⟩
    · exact ⟨x + N - k, by omega, by rw [show k + (x + N - k) = x + N by omega, Nat.add_mod_right]; exact Nat.mod_eq_of_lt hx⟩
  · simp only [if_true]
    by_cases h : x ≤ k
    · exact ⟨k - x, by omega, by rw [show k + N - (k - x) = x + N by omega, Nat.add_mod_right]; exact Nat.mod_eq_of_lt hx⟩
    · exact ⟨k + N - x, by omega, by rw [show k + N - (k + N - x) = x by omega]; exact Nat.mod_eq_of_lt hx⟩

/-- The first number from i on, of m, with p. -/
def seekN (p : Nat → Bool) : Nat → Nat → Option Nat
  | 0, _ => none
  | m + 1, i => if p i = true then some i else seekN p m (i + 1)

theorem seekN_yes {p : Nat → Bool} {m i : Nat} (h : p i = true) : seekN p (m + 1) i = some i := by
  simp [seekN, h]
theorem seekN_no {p : Nat → Bool} {m i : Nat} (h : p i = false) : seekN p (m + 1) i = seekN p m (i + 1) := by
  simp [seekN, h]
theorem seekN_some {p : Nat → Bool} : ∀ {m i j : Nat}, seekN p m i = some j → i ≤ j ∧ j < i + m ∧ p j = true
  | 0, i, j, h => by simp [seekN] at h
  | m + 1, i, j, h => by
    by_cases hp : p i = true
    · rw [seekN_yes hp] at h
      cases h
      exact ⟨by omega, by omega, hp⟩
    · rw [seekN_no (by simpa using hp)] at h
      obtain ⟨h1, h2, h3⟩ := seekN_some h
      exact ⟨by omega, by omega, h3⟩
theorem seekN_none {p : Nat → Bool} : ∀ {m i : Nat}, seekN p m i = none → ∀ j, i ≤ j → j < i + m → p j = false
  | 0, i, h, j, h1, h2 => by omega
  | m + 1, i, h, j, h1, h2 => by
    by_cases hp : p i = true
    · rw [seekN_yes hp] at h; cases h
    · have hp' : p i = false := by simpa using hp
      rw [seekN_no hp'] at h
      by_cases e : j = i
      · rw [e]; exact hp'
      · exact seekN_none h j (by omega) (by omega)

/-- Is the i-th place on the way not guarded? -/
def openP (N : Nat) (b : Bool) (k : Nat) (f : Nat → Cel) (i : Nat) : Bool := !(f (stp N b k i)).b
/-- The first place that is not guarded, from the k-th one on (or back). -/
def freeK (N : Nat) (b : Bool) (k : Nat) (f : Nat → Cel) : Option Nat := (seekN (openP N b k f) N 0).map (stp N b k)

theorem freeK_some {N k x : Nat} {b : Bool} {f : Nat → Cel} (h : freeK N b k f = some x) : x < N ∧ (f x).b = false := by
  unfold freeK at h
  cases hs : seekN (openP N b k f) N 0 with
  | none => rw [hs] at h; cases h
  | some i =>
    rw [hs] at h
    obtain ⟨h1, h2, h3⟩ := seekN_some hs
    have hx : stp N b k i = x := by simpa using h
    rw [← hx]
    exact ⟨stp_lt (by omega), by simpa [openP] using h3⟩
theorem freeK_none {N k : Nat} {b : Bool} {f : Nat → Cel} (hk : k < N) (h : freeK N b k f = none) (x : Nat) (hx : x < N) : (f x).b = true := by
  unfold freeK at h
  cases hs : seekN (openP N b k f) N 0 with
  | some i => rw [hs] at h; cases h
  | none =>
    obtain ⟨i, hi, rfl⟩ := stp_any b hk hx
    have := seekN_none hs i (by omega) (by omega)
    simpa [openP] using this
theorem freeK_self {N k : Nat} {b : Bool} {f : Nat → Cel} (hk : k < N) (h : (f k).b = false) : freeK N b k f = some k := by
  unfold freeK
  obtain ⟨m, rfl⟩ : ∃ m, N = m + 1 := ⟨N - 1, by omega⟩
  have hp : openP (m + 1) b k f 0 = true := by unfold openP; rw [stp_zero hk, h]; rfl
  rw [seekN_yes hp]
  simp [stp_zero hk]
theorem freeK_congr {N k : Nat} {b : Bool} {f f' : Nat → Cel} (hN : 0 < N) (h : ∀ x, x < N → (f x).b = (f' x).b) : freeK N b k f = freeK N b k f' := by
  have : openP N b k f = openP N b k f' := by
    funext i
    unfold openP
    rw [h _ (stp_lt hN)]
  unfold freeK
  rw [this]

/-- Which one the place nearest to (r, c) is. -/
def st (R C : Nat) (r c : Int) : Nat := idx C (nr r R) (nr c C)
theorem st_there {R C : Nat} {r c : Int} (hR : 1 ≤ R) (hC : 1 ≤ C) : There R C (nr r R) (nr c C) :=
  ⟨nr_lo _ _, nr_hi _ _ (by omega), nr_lo _ _, nr_hi _ _ (by omega)⟩
theorem st_lt {R C : Nat} {r c : Int} (hR : 1 ≤ R) (hC : 1 ≤ C) : st R C r c < R * C := idx_lt (st_there hR hC)
theorem st_in {R C : Nat} {r c : Int} (h : There R C r c) : st R C r c = idx C r c := by
  unfold st; rw [nr_in _ _ h.1 h.2.1, nr_in _ _ h.2.2.1 h.2.2.2]

end Go.Proofs.Ytkdnjkcebfckiaa
