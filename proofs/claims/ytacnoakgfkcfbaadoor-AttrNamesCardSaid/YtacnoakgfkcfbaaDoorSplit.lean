/-
  How a text is parted, and what its parts tell: Parse of Names is the attributes. No program's run.
-/
import Derived.Test.YtacnoakgfkcfbaaDoorNames
namespace Go.Proofs.YtacnoakgfkcfbaaDoor
open Go.RowKit

/-- The parts between commas. -/
def splitP : List UInt8 → List (List UInt8)
  | [] => [[]]
  | c :: l => if c == 44 then [] :: splitP l else match splitP l with
    | [] => [[c]]
    | p :: ps => (c :: p) :: ps
theorem splitP_ne (l : List UInt8) : splitP l ≠ [] := by
  cases l with
  | nil => simp [splitP]
  | cons c l =>
    unfold splitP
    split
    · simp
    · split <;> simp
theorem splitP_none {l : List UInt8} (h : Lib.indexByte l 44 = -1) : splitP l = [l] := by
  induction l with
  | nil => rfl
  | cons c l ih =>
    unfold Lib.indexByte at h
    by_cases hc : (c == 44) = true
    · rw [if_pos hc] at h
      exact absurd h (by decide)
    · rw [if_neg hc] at h
      by_cases hi : Lib.indexByte l 44 = -1
      · unfold splitP
        rw [if_neg hc, ih hi]
      · rw [if_neg (by simpa using hi)] at h
        have := Lib.indexByte_ge l 44
        omega
theorem splitP_some : ∀ {l : List UInt8} {i : Nat}, Lib.indexByte l 44 = (i : Int) → splitP l = l.take i :: splitP (l.drop (i + 1)) ∧ i < l.length
  | [], i, h => by simp [Lib.indexByte] at h
  | c :: l, i, h => by
    unfold Lib.indexByte at h
    by_cases hc : (c == 44) = true
    · rw [if_pos hc] at h
      obtain rfl : i = 0 := by omega
      constructor
      · rw [show splitP (c :: l) = [] :: splitP l from if_pos hc]
        simp
      · simp
    · rw [if_neg hc] at h
      by_cases hi : Lib.indexByte l 44 = -1
      · rw [if_pos (by simpa using hi)] at h
        omega
      · rw [if_neg (by simpa using hi)] at h
        have h1 := Lib.indexByte_ge l 44
        obtain ⟨j, hj⟩ := Int.eq_ofNat_of_zero_le (show 0 ≤ Lib.indexByte l 44 by omega)
        obtain rfl : i = j + 1 := by omega
        obtain ⟨h2, h3⟩ := splitP_some hj
        constructor
        · rw [splitP, if_neg hc, h2]
          simp
        · simp; omega

theorem splitP_plain {x : List UInt8} (h : ∀ c ∈ x, c ≠ 44) : splitP x = [x] := by
  induction x with
  | nil => rfl
  | cons c x ih =>
    have hc : ¬ (c == 44) = true := by simpa using h c (by simp)
    unfold splitP
    rw [if_neg hc, ih (fun d hd => h d (by simp [hd]))]
theorem splitP_sep {x : List UInt8} (h : ∀ c ∈ x, c ≠ 44) (r : List UInt8) : splitP (x ++ 44 :: r) = x :: splitP r := by
  induction x with
  | nil => simp [splitP]
  | cons c x ih =>
    have hc : ¬ (c == 44) = true := by simpa using h c (by simp)
    rw [List.cons_append, splitP, if_neg hc, ih (fun d hd => h d (by simp [hd]))]
theorem splitP_join : ∀ {ps : List (List UInt8)}, ps ≠ [] → (∀ p ∈ ps, ∀ c ∈ p, c ≠ 44) → splitP (Lib.join ps [44]) = ps
  | [], h, _ => absurd rfl h
  | [x], _, h => by rw [Lib.join_one]; exact splitP_plain (h x (by simp))
  | x :: y :: r, _, h => by
    have e : Lib.join (x :: y :: r) [44] = x ++ 44 :: Lib.join (y :: r) [44] := by
      rw [Lib.join_cons, Lib.join_cons]
      simp [Lib.joinTail]
    rw [e, splitP_sep (h x (by simp)), splitP_join (by simp) (fun p hp => h p (by simp [hp]))]

/-- What a word reads behind its name. -/
def readP (k : Nat) (rest : List UInt8) : Nat :=
  if unitOf k = 0 then bitOf k
  else match rest with
    | [c] => if c < 48 ∨ 55 < c then 0 else bitOf k ||| (c.toNat - 48) * unitOf k
    | _ => 0
/-- What a part tells, by the words from the k-th on. -/
def bitsFrom (p : List UInt8) : Nat → Nat → Nat
  | _, 0 => 0
  | k, m + 1 => if Lib.hasPrefix p (nameOf k) then readP k (p.drop (nameOf k).length) else bitsFrom p (k + 1) m
def bitsP (p : List UInt8) : Nat := bitsFrom p 0 8
theorem readP_lt (k : Nat) (rest : List UInt8) : readP k rest < 16384 := by
  have h1 := bitOf_lt k
  have h2 := unitOf_le k
  unfold readP
  split
  · omega
  · split
    · rename_i c
      split
      · omega
      · rename_i hc
        have h3 : c.toNat - 48 ≤ 7 := by
          have : c ≤ 55 := by
            have := fun h => hc (Or.inr h)
            exact UInt8.not_lt.1 this
          have h4 : c.toNat ≤ 55 := this
          omega
        have h5 : (c.toNat - 48) * unitOf k ≤ 7 * 2048 := Nat.mul_le_mul h3 h2
        exact Nat.or_lt_two_pow (n := 14) (by omega) (by omega)
    · omega
theorem bitsFrom_lt (p : List UInt8) : ∀ m k, bitsFrom p k m < 16384
  | 0, _ => by simp [bitsFrom]
  | m + 1, k => by
    unfold bitsFrom
    split
    · exact readP_lt _ _
    · exact bitsFrom_lt p m (k + 1)
theorem bitsP_lt (p : List UInt8) : bitsP p < 16384 := bitsFrom_lt p 8 0

/-- What parts tell together. -/
def orAll (ps : List (List UInt8)) : Nat := ps.foldl (fun a p => a ||| bitsP p) 0
def parseN (l : List UInt8) : Nat := orAll (splitP l)

theorem bits_tell0 : ∀ k : Fin 8, ∀ d : Fin 8, bitsP (if unitOf k.val = 0 then nameOf k.val else nameOf k.val ++ [UInt8.ofNat (48 + d.val)]) = bitOf k.val ||| d.val * unitOf k.val := by decide +kernel
theorem bits_tell (k n : Nat) (hk : k < 8) : bitsP (tellL k n) = bitOf k ||| (n / unitOf k % 8) * unitOf k := bits_tell0 ⟨k, hk⟩ ⟨n / unitOf k % 8, Nat.mod_lt _ (by omega)⟩
/-- The words of attributes, told together. -/
def orTo (n : Nat) : Nat → Nat
  | 0 => 0
  | k + 1 => if bitN n (bitOf k) then orTo n k ||| (bitOf k ||| (n / unitOf k % 8) * unitOf k) else orTo n k
theorem orAll_parts (n : Nat) : ∀ k, k ≤ 8 → orAll (partsTo n k) = orTo n k
  | 0, _ => rfl
  | k + 1, h => by
    unfold partsTo orTo
    split
    · unfold orAll
      rw [List.foldl_append]
      show orAll (partsTo n k) ||| bitsP (tellL k n) = _
      rw [orAll_parts n k (by omega), bits_tell k n (by omega)]
    · exact orAll_parts n k (by omega)
theorem orTo_all : allB2 (fun n => !(mayN n) || (orTo n 8 == n)) 128 = true := by kernel_rfl

theorem name_plain : ∀ k : Fin 8, ∀ d : Fin 8, ∀ c ∈ (if unitOf k.val = 0 then nameOf k.val else nameOf k.val ++ [UInt8.ofNat (48 + d.val)]), c ≠ 44 := by decide +kernel
theorem tellL_plain (k n : Nat) (hk : k < 8) : ∀ c ∈ tellL k n, c ≠ 44 := name_plain ⟨k, hk⟩ ⟨n / unitOf k % 8, Nat.mod_lt _ (by omega)⟩
theorem parts_plain (n : Nat) : ∀ k, k ≤ 8 → ∀ p ∈ partsTo n k, ∀ c ∈ p, c ≠ 44
  | 0, _, p, hp => by simp [partsTo] at hp
  | k + 1, h, p, hp => by
    unfold partsTo at hp
    split at hp
    · rcases List.mem_append.1 hp with h1 | h1
      · exact parts_plain n k (by omega) p h1
      · simp only [List.mem_singleton] at h1
        subst h1
        exact tellL_plain k n (by omega)
    · exact parts_plain n k (by omega) p hp

/-- Parse of Names is the attributes. -/
theorem parse_names {n : Nat} (hm : mayN n = true) (hn : n < 16384) : parseN (namesN n) = n := by
  unfold namesN
  by_cases h : n = 0
  · subst h
    rw [if_pos rfl]
    decide +kernel
  · rw [if_neg h]
    have ho := allB2_spec orTo_all n (by omega)
    rw [hm] at ho
    simp only [Bool.not_true, Bool.false_or, beq_iff_eq] at ho
    have hne : partsTo n 8 ≠ [] := by
      intro e
      have := orAll_parts n 8 (Nat.le_refl _)
      rw [e, ho] at this
      exact h this.symm
    unfold parseN
    rw [splitP_join hne (parts_plain n 8 (Nat.le_refl _)), orAll_parts n 8 (Nat.le_refl _), ho]
theorem names_inj {a b : Int} (ha : mayB a = true) (hb : mayB b = true) (h : namesOf a = namesOf b) : a = b := by
  obtain ⟨n, rfl⟩ := Int.eq_ofNat_of_zero_le (mayB_lt ha).1
  obtain ⟨m, rfl⟩ := Int.eq_ofNat_of_zero_le (mayB_lt hb).1
  have hn := (mayB_lt ha).2
  have hm := (mayB_lt hb).2
  simp only [namesOf, ha, hb, if_true, Int.toNat_natCast] at h
  rw [mayB_nat] at ha hb
  have h1 := parse_names ha (by omega)
  have h2 := parse_names hb (by omega)
  rw [h, h2] at h1
  omega
#print axioms names_inj
end Go.Proofs.YtacnoakgfkcfbaaDoor
