/-
  Numbers and cells: two calls that have no place in common. No program.
-/
import Derived.Test.YtedgnjideemfbaaGuardF
namespace Go.Proofs.Ytedgnjideemfbaa
open Go.RowKit

theorem cntT_congr {F G : Nat → Cel} {o : Cel → Cel} {i : Nat} : ∀ n, (∀ k, i ≤ k → k < i + n → F k = G k) → cntT F o i n = cntT G o i n
  | 0, _ => rfl
  | n + 1, h => by
    unfold cntT
    rw [cntT_congr n (fun k h1 h2 => h k h1 (by omega)), h (i + n) (by omega) (by omega)]

theorem ahead_lt {R C : Nat} {r c r' c' : Int} (h : There R C r c) (h' : There R C r' c') (hlt : r < r' ∨ r = r' ∧ c < c') : idx C r c < idx C r' c' := by
  have := ahead_idx h h'
  rw [show aheadB r c r' c' = true from decide_eq_true hlt] at this
  exact of_decide_eq_true this.symm

section
variable (R C : Nat) (F : Nat → Cel) (ox oy : Cel → Cel) (r c r' c' s d s' d' : Int)

theorem apart_first (hlt : r' < s ∨ r' = s ∧ c' < d) : wipeN R C (wipeF R C F oy s d s' d') ox r c r' c' = wipeN R C F ox r c r' c' := by
  unfold wipeN
  by_cases hx : wipeE R C r c r' c' = 0
  · rw [if_pos hx, if_pos hx]
    obtain ⟨x1, x2, x3⟩ := wipeE_zero hx
    refine cntT_congr _ (fun k h1 h2 => ?_)
    unfold wipeF
    by_cases hy : wipeE R C s d s' d' = 0
    · rw [if_pos hy]
      obtain ⟨y1, y2, y3⟩ := wipeE_zero hy
      have := ahead_lt x2 y1 hlt
      exact if_neg (by omega)
    · rw [if_neg hy]
  · rw [if_neg hx, if_neg hx]

theorem apart_second (hlt : r' < s ∨ r' = s ∧ c' < d) : wipeN R C (wipeF R C F ox r c r' c') oy s d s' d' = wipeN R C F oy s d s' d' := by
  unfold wipeN
  by_cases hy : wipeE R C s d s' d' = 0
  · rw [if_pos hy, if_pos hy]
    obtain ⟨y1, y2, y3⟩ := wipeE_zero hy
    refine cntT_congr _ (fun k h1 h2 => ?_)
    unfold wipeF
    by_cases hx : wipeE R C r c r' c' = 0
    · rw [if_pos hx]
      obtain ⟨x1, x2, x3⟩ := wipeE_zero hx
      have := ahead_lt x2 y1 hlt
      exact if_neg (by omega)
    · rw [if_neg hx]
  · rw [if_neg hy, if_neg hy]

theorem apart_cells (hlt : r' < s ∨ r' = s ∧ c' < d) (k : Nat) : wipeF R C (wipeF R C F oy s d s' d') ox r c r' c' k = wipeF R C (wipeF R C F ox r c r' c') oy s d s' d' k := by
  unfold wipeF
  by_cases hx : wipeE R C r c r' c' = 0
  · by_cases hy : wipeE R C s d s' d' = 0
    · rw [if_pos hx, if_pos hy, if_pos hx, if_pos hy]
      obtain ⟨x1, x2, x3⟩ := wipeE_zero hx
      obtain ⟨y1, y2, y3⟩ := wipeE_zero hy
      have := ahead_lt x2 y1 hlt
      unfold partT
      by_cases h1 : idx C r c ≤ k ∧ k < idx C r c + (idx C r' c' + 1 - idx C r c)
      · simp only [if_pos h1]
        rw [if_neg (by omega), if_neg (by omega)]
      · simp only [if_neg h1]
    · simp only [if_pos hx, if_neg hy]
  · rw [if_neg hx, if_neg hx]
end

/-- What is dyed or shielded keeps its glyph and its mark; what is shielded keeps its attributes. -/
theorem oOf_keeps (ask : Int) (x : Cel) (b : Bool) (y : Cel) : (¬ ask = 0 → (oOf ask x b y).g = y.g ∧ (oOf ask x b y).m = y.m) ∧ (¬ ask = 0 → ¬ ask = 1 → (oOf ask x b y).a = y.a) := by
  unfold oOf one
  constructor
  · intro h
    rw [if_neg h]
    split
    · dsimp only
      split
      · exact ⟨rfl, rfl⟩
      · exact ⟨rfl, rfl⟩
    · dsimp only
      split
      · exact ⟨rfl, rfl⟩
      · exact ⟨rfl, rfl⟩
  · intro h h1
    rw [if_neg h, if_neg h1]
    split
    · rfl
    · rfl

theorem wipeF_keeps (R C : Nat) (F : Nat → Cel) (ask : Int) (x : Cel) (b : Bool) (r c r' c' : Int) (k : Nat) :
    (¬ ask = 0 → (wipeF R C F (oOf ask x b) r c r' c' k).g = (F k).g ∧ (wipeF R C F (oOf ask x b) r c r' c' k).m = (F k).m) ∧ (¬ ask = 0 → ¬ ask = 1 → (wipeF R C F (oOf ask x b) r c r' c' k).a = (F k).a) := by
  unfold wipeF
  split
  · unfold partT
    split
    · exact oOf_keeps ask x b (F k)
    · exact ⟨fun _ => ⟨rfl, rfl⟩, fun _ _ => rfl⟩
  · exact ⟨fun _ => ⟨rfl, rfl⟩, fun _ _ => rfl⟩
end Go.Proofs.Ytedgnjideemfbaa
