/-
  The document's text of attributes is the code's. No program's run.
-/
import Derived.Test.YtacnoakgfkcfbaaDoorSplit
namespace Go.Proofs.YtacnoakgfkcfbaaDoor
open Go.RowKit

/-- The words of the first k bits, each behind a comma. -/
def lowT (n : Nat) : Nat → List UInt8
  | 0 => []
  | k + 1 => if bitN n (bitOf k) then lowT n k ++ 44 :: nameOf k else lowT n k
/-- The two colours, each behind a comma. -/
def highT (n : Nat) : List UInt8 := if bitN n 64 then (44 :: nameOf 6) ++ [UInt8.ofNat (48 + n / 256 % 8)] ++ (44 :: nameOf 7) ++ [UInt8.ofNat (48 + n / 2048 % 8)] else []
def fullT (n : Nat) : List UInt8 := lowT n 6 ++ highT n

theorem joinTail_append (a b : List (List UInt8)) : Lib.joinTail [44] (a ++ b) = Lib.joinTail [44] a ++ Lib.joinTail [44] b := by simp [Lib.joinTail]
theorem lowT_parts (n : Nat) : ∀ k, k ≤ 6 → lowT n k = Lib.joinTail [44] (partsTo n k)
  | 0, _ => rfl
  | k + 1, h => by
    have hu : unitOf k = 0 := by
      have : k = 0 ∨ k = 1 ∨ k = 2 ∨ k = 3 ∨ k = 4 ∨ k = 5 := by omega
      rcases this with rfl | rfl | rfl | rfl | rfl | rfl <;> rfl
    unfold lowT partsTo
    rw [lowT_parts n k (by omega)]
    split
    · rw [joinTail_append]
      simp [Lib.joinTail, tellL, hu]
    · rfl
theorem full_parts (n : Nat) : fullT n = Lib.joinTail [44] (partsTo n 8) := by
  have e8 : partsTo n 8 = if bitN n 64 then (partsTo n 6 ++ [tellL 6 n]) ++ [tellL 7 n] else partsTo n 6 := by
    show (if bitN n 64 then (if bitN n 64 then partsTo n 6 ++ [tellL 6 n] else partsTo n 6) ++ [tellL 7 n] else (if bitN n 64 then partsTo n 6 ++ [tellL 6 n] else partsTo n 6)) = _
    cases bitN n 64 <;> rfl
  rw [e8]
  unfold fullT highT
  rw [lowT_parts n 6 (Nat.le_refl _)]
  cases bitN n 64
  · simp
  · simp only [if_true]
    rw [joinTail_append, joinTail_append]
    simp [Lib.joinTail, tellL, show unitOf 6 = 256 from rfl, show unitOf 7 = 2048 from rfl]

theorem parts_zero {n : Nat} (hm : mayN n = true) (hn : n < 16384) : partsTo n 8 = [] ↔ n = 0 := by
  constructor
  · intro e
    have ho := allB2_spec orTo_all n (by omega)
    rw [hm] at ho
    simp only [Bool.not_true, Bool.false_or, beq_iff_eq] at ho
    have := orAll_parts n 8 (Nat.le_refl _)
    rw [e, ho] at this
    exact this.symm
  · rintro rfl
    rfl

/-- The text, as the document has it. -/
def refT (n : Nat) : List UInt8 := if fullT n = [] then [112, 108, 97, 105, 110] else (fullT n).drop 1
theorem refT_eq {n : Nat} (hm : mayN n = true) (hn : n < 16384) : refT n = namesN n := by
  unfold refT namesN
  rw [full_parts]
  have hz := parts_zero hm hn
  cases hp : partsTo n 8 with
  | nil =>
    rw [if_pos (hz.1 hp)]
    rfl
  | cons x r =>
    have h0 : ¬ n = 0 := fun e => by rw [hz.2 e] at hp; cases hp
    rw [if_neg h0, Lib.join_cons]
    have e : Lib.joinTail [44] (x :: r) = 44 :: (x ++ Lib.joinTail [44] r) := by simp [Lib.joinTail]
    rw [e, if_neg (by simp)]
    rfl

theorem lowT_len (n : Nat) : ∀ k, (lowT n k).length ≤ 8 * k
  | 0 => by simp [lowT]
  | k + 1 => by
    have h := lowT_len n k
    have h2 : (nameOf k).length ≤ 7 := nameOf_le k
    unfold lowT
    split
    · rw [List.length_append, List.length_cons]; omega
    · omega
#print axioms refT_eq
end Go.Proofs.YtacnoakgfkcfbaaDoor
