/-
  The table of words, and which attributes may be: the code's reckoning of it and the document's are one. No program's run.
-/
import Derived.Test.YtacnoakgfkcfbaaDoorBits
import Derived.Test.YtacnoakgfkcfbaaDoorCalm
namespace Go.Proofs.YtacnoakgfkcfbaaDoor
open Go.RowKit

def nameOf : Nat → List UInt8
  | 0 => [98, 111, 108, 100]
  | 1 => [100, 105, 109]
  | 2 => [117, 110, 100, 101, 114]
  | 3 => [98, 108, 105, 110, 107]
  | 4 => [114, 101, 118, 101, 114, 115, 101]
  | 5 => [104, 105, 100, 100, 101, 110]
  | 6 => [102, 111, 114, 101, 61]
  | _ => [98, 97, 99, 107, 61]
def bitOf : Nat → Nat
  | 0 => 1
  | 1 => 2
  | 2 => 4
  | 3 => 8
  | 4 => 16
  | 5 => 32
  | _ => 64
def unitOf : Nat → Nat
  | 6 => 256
  | 7 => 2048
  | _ => 0

/-- The cells of the k-th word. -/
def wcell (k : Nat) : Array Value := #[.string ⟨(nameOf k).toArray⟩, .int .i64 (bitOf k : Int), .int .i64 (unitOf k : Int)]
def wcells : Array Value := #[.string ⟨(nameOf 0).toArray⟩, .int .i64 1, .int .i64 0, .string ⟨(nameOf 1).toArray⟩, .int .i64 2, .int .i64 0, .string ⟨(nameOf 2).toArray⟩, .int .i64 4, .int .i64 0,
  .string ⟨(nameOf 3).toArray⟩, .int .i64 8, .int .i64 0, .string ⟨(nameOf 4).toArray⟩, .int .i64 16, .int .i64 0, .string ⟨(nameOf 5).toArray⟩, .int .i64 32, .int .i64 0,
  .string ⟨(nameOf 6).toArray⟩, .int .i64 64, .int .i64 256, .string ⟨(nameOf 7).toArray⟩, .int .i64 64, .int .i64 2048]

/-- The table lies where it was laid. -/
def WordsAt (w : World) : Prop := ∃ t, w.heap[0]? = some (.cells wcells t (0, 0))
theorem WordsAt.kept {w w' : World} (h : WordsAt w) (k : Kept0 w w') : WordsAt w' := by
  obtain ⟨t, ht⟩ := h
  exact ⟨t, (k.block 0 (Array.getElem?_eq_some_iff.1 ht).1 (fun e => e)).trans ht⟩
theorem WordsAt.lt {w : World} (h : WordsAt w) : 0 < w.heap.size := by
  obtain ⟨t, ht⟩ := h
  exact (Array.getElem?_eq_some_iff.1 ht).1

theorem word_index {k : Nat} (h : k < 8) (w : World) : (Instr.index 49 (.agg wcells) (.int .i64 (k : Int))).run Tryd.prog w = .ok (.agg (wcell k)) w := by
  have : k = 0 ∨ k = 1 ∨ k = 2 ∨ k = 3 ∨ k = 4 ∨ k = 5 ∨ k = 6 ∨ k = 7 := by omega
  rcases this with e | e | e | e | e | e | e | e
  · subst e; exact (show (Instr.index 49 (.agg wcells) (.int .i64 ((0 : Nat) : Int))).run Tryd.prog w = .ok (.agg (wcell 0)) w by kernel_rfl)
  · subst e; exact (show (Instr.index 49 (.agg wcells) (.int .i64 ((1 : Nat) : Int))).run Tryd.prog w = .ok (.agg (wcell 1)) w by kernel_rfl)
  · subst e; exact (show (Instr.index 49 (.agg wcells) (.int .i64 ((2 : Nat) : Int))).run Tryd.prog w = .ok (.agg (wcell 2)) w by kernel_rfl)
  · subst e; exact (show (Instr.index 49 (.agg wcells) (.int .i64 ((3 : Nat) : Int))).run Tryd.prog w = .ok (.agg (wcell 3)) w by kernel_rfl)
  · subst e; exact (show (Instr.index 49 (.agg wcells) (.int .i64 ((4 : Nat) : Int))).run Tryd.prog w = .ok (.agg (wcell 4)) w by kernel_rfl)
  · subst e; exact (show (Instr.index 49 (.agg wcells) (.int .i64 ((5 : Nat) : Int))).run Tryd.prog w = .ok (.agg (wcell 5)) w by kernel_rfl)
  · subst e; exact (show (Instr.index 49 (.agg wcells) (.int .i64 ((6 : Nat) : Int))).run Tryd.prog w = .ok (.agg (wcell 6)) w by kernel_rfl)
  · subst e; exact (show (Instr.index 49 (.agg wcells) (.int .i64 ((7 : Nat) : Int))).run Tryd.prog w = .ok (.agg (wcell 7)) w by kernel_rfl)
theorem info49 : (Tryd.prog.info? 49).map (·.size) = some wcells.size := by kernel_rfl

theorem bitOf_lt (k : Nat) : bitOf k ≤ 64 := by unfold bitOf; split <;> omega
theorem bitOf_pos (k : Nat) : 0 < bitOf k := by unfold bitOf; split <;> omega
theorem unitOf_le (k : Nat) : unitOf k ≤ 2048 := by unfold unitOf; split <;> omega

/-- What is left when k words were taken off. -/
def restF (a : Int) : Nat → Int
  | 0 => a
  | k + 1 => if bits .and .i64 a (bitOf k : Int) == 0 then restF a k else bits .andNot .i64 (restF a k) (bits .or .i64 (bitOf k : Int) (7 * (unitOf k : Int)))

/-- The document's: may attributes be? -/
def mayN (n : Nat) : Bool := decide (n < 16384) && !(n / 128 % 2 == 1) && ((n / 64 % 2 == 1) || decide (n < 64))
def mayB (a : Int) : Bool := decide (0 ≤ a) && mayN a.toNat

/-- The same over numbers from 0 on. -/
def restN (n : Nat) : Nat → Nat
  | 0 => n
  | k + 1 => if n &&& bitOf k == 0 then restN n k else restN n k &&& (18446744073709551615 - (bitOf k ||| 7 * unitOf k))
theorem restN_le (n : Nat) : ∀ k, restN n k ≤ n
  | 0 => Nat.le_refl _
  | k + 1 => by
    unfold restN
    split
    · exact restN_le n k
    · exact Nat.le_trans Nat.and_le_left (restN_le n k)
theorem mask_lt (k : Nat) : bitOf k ||| 7 * unitOf k < 16384 := Nat.or_lt_two_pow (n := 14) (by have := bitOf_lt k; omega) (by have := unitOf_le k; omega)
theorem mask_eq (k : Nat) : bits .or .i64 (bitOf k : Int) (7 * (unitOf k : Int)) = ((bitOf k ||| 7 * unitOf k : Nat) : Int) := by
  have h1 := bitOf_lt k
  have h2 := unitOf_le k
  have := i64_or (bitOf k) (7 * unitOf k) (by omega) (by omega)
  rw [← this]
  rfl
theorem restF_nat (n : Nat) (hn : n < 16384) : ∀ k, restF (n : Int) k = (restN n k : Int)
  | 0 => rfl
  | k + 1 => by
    have h1 := bitOf_lt k
    have h3 := restN_le n k
    have h4 := mask_lt k
    unfold restF restN
    rw [i64_and n (bitOf k) (by omega) (by omega), restF_nat n hn k, mask_eq, i64_andNot _ _ (by omega) (by omega)]
    by_cases h : n &&& bitOf k = 0
    · simp [h]
    · rw [if_neg (by simpa using h), if_neg (by simp; omega)]
theorem rest_high (a : Int) : ∀ k, high (restF a k) = high a
  | 0 => rfl
  | k + 1 => by
    unfold restF
    split
    · exact rest_high a k
    · rw [mask_eq, high_andNot _ _ (mask_lt k)]
      exact rest_high a k
/-- All numbers below n. -/
def allB (f : Nat → Bool) : Nat → Bool
  | 0 => true
  | n + 1 => f n && allB f n
theorem allB_spec {f : Nat → Bool} : ∀ {n : Nat}, allB f n = true → ∀ i, i < n → f i = true
  | 0, _, i, hi => absurd hi (by omega)
  | n + 1, h, i, hi => by
    simp only [allB, Bool.and_eq_true] at h
    rcases Nat.lt_succ_iff_lt_or_eq.1 hi with h1 | h1
    · exact allB_spec h.2 i h1
    · subst h1; exact h.1
/-- All numbers below 128 times n. -/
def allB2 (f : Nat → Bool) (n : Nat) : Bool := allB (fun i => allB (fun j => f (128 * i + j)) 128) n
theorem allB2_spec {f : Nat → Bool} {n : Nat} (h : allB2 f n = true) (i : Nat) (hi : i < 128 * n) : f i = true := by
  have h1 := allB_spec h (i / 128) (by omega)
  have h2 := allB_spec h1 (i % 128) (by omega)
  have e : 128 * (i / 128) + i % 128 = i := by omega
  simpa only [e] using h2
theorem may_all : allB2 (fun n => (restN n 8 == 0) == mayN n) 128 = true := by kernel_rfl
theorem may_small (n : Nat) (h : n < 16384) : (restN n 8 == 0) = mayN n := by
  have := allB2_spec may_all n (by omega)
  simpa using this

/-- The code's reckoning is the document's. -/
theorem may_rest {a : Int} (h0 : -9223372036854775808 ≤ a) (h1 : a ≤ 9223372036854775807) : (restF a 8 == 0) = mayB a := by
  by_cases h : 0 ≤ a ∧ a < 16384
  · obtain ⟨n, rfl⟩ := Int.eq_ofNat_of_zero_le h.1
    have hn : n < 16384 := by omega
    rw [restF_nat n hn]
    have := may_small n hn
    unfold mayB
    rw [Int.toNat_natCast, ← this]
    have e : decide (0 ≤ (n : Int)) = true := by simp
    rw [e, Bool.true_and]
    by_cases hz : restN n 8 = 0
    · rw [hz]; rfl
    · have h2 : ¬ (restN n 8 : Int) = 0 := by omega
      rw [beq_eq_false_iff_ne.2 h2, beq_eq_false_iff_ne.2 hz]
  · have e1 : mayB a = false := by
      unfold mayB mayN
      by_cases hp : 0 ≤ a
      · have : ¬ a.toNat < 16384 := by omega
        simp [this]
      · simp [hp]
    rw [e1]
    have : restF a 8 ≠ 0 := by
      intro hr
      have hh := rest_high a 8
      rw [hr] at hh
      exact h (high_zero (hh.symm.trans (by decide)) h0 h1)
    simpa using this

#print axioms may_rest
end Go.Proofs.YtacnoakgfkcfbaaDoor
