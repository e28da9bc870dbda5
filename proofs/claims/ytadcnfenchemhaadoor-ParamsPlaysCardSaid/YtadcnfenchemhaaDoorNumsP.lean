/-
  Which numbers a text has: by its parts (the code's way), and byte by byte (the document's): the same. No program.
-/
import Derived.Test.YtadcnfenchemhaaDoorBase
import Derived.Lib.Bytealg
namespace Go.Proofs.YtadcnfenchemhaaDoor
open Go.RowKit

/-- A text of bytes. -/
def str (l : List UInt8) : ByteArray := ⟨l.toArray⟩
/-- The parts between semicolons. -/
def splitP : List UInt8 → List (List UInt8)
  | [] => [[]]
  | c :: l => if c == 59 then [] :: splitP l else match splitP l with
    | [] => [[c]]
    | p :: ps => (c :: p) :: ps
theorem splitP_ne (l : List UInt8) : splitP l ≠ [] := by
  cases l with
  | nil => simp [splitP]
  | cons c l =>
    unfold splitP
    split
    · simp
    · split <;> simp
theorem splitP_none {l : List UInt8} (h : Lib.indexByte l 59 = -1) : splitP l = [l] := by
  induction l with
  | nil => rfl
  | cons c l ih =>
    unfold Lib.indexByte at h
    by_cases hc : (c == 59) = true
    · rw [if_pos hc] at h
      exact absurd h (by decide)
    · rw [if_neg hc] at h
      by_cases hi : Lib.indexByte l 59 = -1
      · unfold splitP
        rw [if_neg hc, ih hi]
      · rw [if_neg (by simpa using hi)] at h
        have := Lib.indexByte_ge l 59
        omega
theorem splitP_some : ∀ {l : List UInt8} {i : Nat}, Lib.indexByte l 59 = (i : Int) → splitP l = l.take i :: splitP (l.drop (i + 1)) ∧ i < l.length
  | [], i, h => by simp [Lib.indexByte] at h
  | c :: l, i, h => by
    unfold Lib.indexByte at h
    by_cases hc : (c == 59) = true
    · rw [if_pos hc] at h
      obtain rfl : i = 0 := by omega
      constructor
      · rw [show splitP (c :: l) = [] :: splitP l from if_pos hc]
        simp
      · simp
    · rw [if_neg hc] at h
      by_cases hi : Lib.indexByte l 59 = -1
      · rw [if_pos (by simpa using hi)] at h
        omega
      · rw [if_neg (by simpa using hi)] at h
        have h1 := Lib.indexByte_ge l 59
        obtain ⟨j, hj⟩ := Int.eq_ofNat_of_zero_le (show 0 ≤ Lib.indexByte l 59 by omega)
        obtain rfl : i = j + 1 := by omega
        obtain ⟨h2, h3⟩ := splitP_some hj
        constructor
        · rw [splitP, if_neg hc, h2]
          simp
        · simp; omega
theorem splitP_len (l : List UInt8) : (splitP l).length ≤ l.length + 1 := by
  induction l with
  | nil => simp [splitP]
  | cons c l ih =>
    unfold splitP
    split
    · simp; omega
    · split
      · simp
      · next p ps h => rw [h] at ih; simp at ih ⊢; omega

/-- Is a byte no digit? -/
def noDig (c : UInt8) : Bool := decide (c.toNat < 48) || decide (57 < c.toNat)
/-- What digits come to. -/
def stepN (n : Int) (c : UInt8) : Int := min (n * 10 + ((c.toNat : Int) - 48)) 9999
def digN : List UInt8 → Int → Option Int
  | [], n => some n
  | c :: l, n => if noDig c = true then none else digN l (stepN n c)
def partN (p : List UInt8) : Option Int := match p with
  | [] => some (-1)
  | c :: l => digN (c :: l) 0
def partsN : List (List UInt8) → Option (List Int)
  | [] => some []
  | p :: ps => match partN p with
    | none => none
    | some n => (partsN ps).map (n :: ·)
/-- The numbers of a text, or none. -/
def numV (s : List UInt8) : Option (List Int) := match s with
  | [] => some []
  | c :: l => partsN (splitP (c :: l))

/-- The document's way: byte by byte, n the number that is begun. -/
def refN : List UInt8 → Int → Option (List Int)
  | [], n => some [n]
  | c :: l, n => if c = 59 then (refN l (-1)).map (n :: ·) else if noDig c = true then none else refN l (stepN (max n 0) c)
def refV (s : List UInt8) : Option (List Int) := match s with
  | [] => some []
  | c :: l => refN (c :: l) (-1)

theorem digN_go {c : UInt8} {l : List UInt8} {n : Int} (h : noDig c = false) : digN (c :: l) n = digN l (stepN n c) := by
  rw [digN, if_neg (by rw [h]; simp)]
theorem digN_bad {c : UInt8} {l : List UInt8} {n : Int} (h : noDig c = true) : digN (c :: l) n = none := by
  rw [digN, if_pos h]
theorem noDig_semi : noDig 59 = true := by decide
theorem stepN_nonneg {n : Int} {c : UInt8} (hn : 0 ≤ n) (h : noDig c = false) : 0 ≤ stepN n c := by
  simp [noDig] at h
  unfold stepN
  omega
theorem stepN_le (n : Int) (c : UInt8) : stepN n c ≤ 9999 := by unfold stepN; omega

/-- A part that is begun, behind which other parts stand. -/
def goN (q : List UInt8) (qs : List (List UInt8)) (n : Int) : Option (List Int) :=
  match (match q with | [] => some n | c :: l => digN (c :: l) (max n 0)) with
  | none => none
  | some m => (partsN qs).map (m :: ·)
theorem goN_first (q : List UInt8) (qs : List (List UInt8)) : goN q qs (-1) = partsN (q :: qs) := by
  unfold goN
  rw [partsN]
  cases q <;> rfl
theorem refN_go : ∀ (s : List UInt8) (n : Int) (q : List UInt8) (qs : List (List UInt8)), splitP s = q :: qs → refN s n = goN q qs n
  | [], n, q, qs, h => by
    simp [splitP] at h
    obtain ⟨rfl, rfl⟩ := h
    rfl
  | c :: l, n, q, qs, h => by
    by_cases hc : c = 59
    · subst hc
      rw [show splitP (59 :: l) = [] :: splitP l from if_pos rfl] at h
      obtain ⟨rfl, rfl⟩ := List.cons.inj h
      obtain ⟨q', qs', h'⟩ : ∃ q' qs', splitP l = q' :: qs' := by
        cases hs : splitP l with
        | nil => exact absurd hs (splitP_ne l)
        | cons a b => exact ⟨a, b, rfl⟩
      rw [refN, if_pos rfl, refN_go l (-1) q' qs' h', goN_first, h']
      rfl
    · have hb : ¬ (c == 59) = true := by simpa using hc
      obtain ⟨q', qs', h'⟩ : ∃ q' qs', splitP l = q' :: qs' := by
        cases hs : splitP l with
        | nil => exact absurd hs (splitP_ne l)
        | cons a b => exact ⟨a, b, rfl⟩
      rw [splitP, if_neg hb, h'] at h
      obtain ⟨rfl, rfl⟩ := List.cons.inj h
      rw [refN, if_neg hc]
      cases hd : noDig c with
      | true => simp [goN, digN_bad hd]
      | false =>
        have h0 : 0 ≤ stepN (max n 0) c := stepN_nonneg (by omega) hd
        rw [if_neg (by simp), refN_go l _ q' qs' h']
        unfold goN
        simp only [digN_go hd]
        rw [show max (stepN (max n 0) c) 0 = stepN (max n 0) c by omega]
        cases q' <;> rfl
theorem num_ref (s : List UInt8) : numV s = refV s := by
  cases s with
  | nil => rfl
  | cons c l =>
    obtain ⟨q', qs', h'⟩ : ∃ q' qs', splitP (c :: l) = q' :: qs' := by
      cases hs : splitP (c :: l) with
      | nil => exact absurd hs (splitP_ne _)
      | cons a b => exact ⟨a, b, rfl⟩
    show partsN (splitP (c :: l)) = refN (c :: l) (-1)
    rw [refN_go _ _ _ _ h', goN_first, h']

/-- How many semicolons there are. -/
def semis (s : List UInt8) : Nat := s.countP (· == 59)
theorem refN_bounds : ∀ (s : List UInt8) (n : Int) (l : List Int), -1 ≤ n → n ≤ 9999 → refN s n = some l → l.length = semis s + 1 ∧ ∀ x ∈ l, -1 ≤ x ∧ x ≤ 9999
  | [], n, l, h1, h2, h => by
    simp [refN] at h
    subst h
    exact ⟨rfl, fun x hx => by simp at hx; omega⟩
  | c :: s, n, l, h1, h2, h => by
    rw [refN] at h
    by_cases hc : c = 59
    · rw [if_pos hc] at h
      cases hr : refN s (-1) with
      | none => rw [hr] at h; cases h
      | some m =>
        rw [hr] at h
        obtain rfl := Option.some.inj h
        obtain ⟨e1, e2⟩ := refN_bounds s (-1) m (by omega) (by omega) hr
        refine ⟨by simp [semis, hc] at e1 ⊢; omega, fun x hx => ?_⟩
        rcases List.mem_cons.1 hx with rfl | hx
        · omega
        · exact e2 x hx
    · rw [if_neg hc] at h
      cases hd : noDig c with
      | true => rw [hd] at h; simp at h
      | false =>
        rw [hd, if_neg (by simp)] at h
        have h0 := stepN_nonneg (n := max n 0) (c := c) (by omega) hd
        obtain ⟨e1, e2⟩ := refN_bounds s _ l (by omega) (stepN_le _ _) h
        exact ⟨by simp [semis, hc] at e1 ⊢; omega, e2⟩
theorem numV_bounds {s : List UInt8} {l : List Int} (h : numV s = some l) : (s = [] ∧ l = []) ∨ (s ≠ [] ∧ l.length = semis s + 1 ∧ ∀ x ∈ l, -1 ≤ x ∧ x ≤ 9999) := by
  rw [num_ref] at h
  cases s with
  | nil => simp [refV] at h; exact Or.inl ⟨rfl, h⟩
  | cons c r => exact Or.inr ⟨by simp, refN_bounds _ _ _ (by omega) (by omega) h⟩
theorem refN_join : ∀ (a b : List UInt8) (n : Int), refN (a ++ 59 :: b) n = match refN a n, refN b (-1) with | some l, some m => some (l ++ m) | _, _ => none
  | [], b, n => by
    simp only [List.nil_append, refN, if_true]
    cases refN b (-1) <;> rfl
  | c :: a, b, n => by
    simp only [List.cons_append, refN]
    by_cases hc : c = 59
    · rw [if_pos hc, if_pos hc, refN_join a b (-1)]
      cases refN a (-1) <;> cases refN b (-1) <;> rfl
    · rw [if_neg hc, if_neg hc]
      cases noDig c with
      | true => simp
      | false => simp only [Bool.false_eq_true, if_false]; exact refN_join a b _
theorem numV_join {a b : List UInt8} (ha : a ≠ []) (hb : b ≠ []) : numV (a ++ 59 :: b) = match numV a, numV b with | some l, some m => some (l ++ m) | _, _ => none := by
  rw [num_ref, num_ref, num_ref]
  cases a with
  | nil => exact absurd rfl ha
  | cons c a =>
    cases b with
    | nil => exact absurd rfl hb
    | cons d b => exact refN_join (c :: a) (d :: b) (-1)
theorem refN_digits : ∀ (s : List UInt8) (n : Int), (∀ c ∈ s, noDig c = false) → 0 ≤ n → ∃ m, refN s n = some [m] ∧ 0 ≤ m
  | [], n, _, hn => ⟨n, rfl, hn⟩
  | c :: s, n, h, hn => by
    have hd := h c (by simp)
    have hc : ¬ c = 59 := by rintro rfl; rw [noDig_semi] at hd; cases hd
    rw [refN, if_neg hc, if_neg (by rw [hd]; simp)]
    exact refN_digits s _ (fun d hx => h d (by simp [hx])) (stepN_nonneg (by omega) hd)
theorem refN_begun {c : UInt8} {s : List UInt8} (h : noDig c = false) : refN (c :: s) (-1) = refN (c :: s) 0 := by
  have hc : ¬ c = 59 := by rintro rfl; rw [noDig_semi] at h; cases h
  rw [refN, refN, if_neg hc, if_neg hc]
  rfl
theorem refN_zeros : ∀ (k : Nat) (s : List UInt8), refN (List.replicate k 48 ++ s) 0 = refN s 0
  | 0, s => by simp
  | k + 1, s => by
    rw [List.replicate_succ, List.cons_append, refN, if_neg (by decide), if_neg (by decide)]
    exact refN_zeros k s
theorem numV_zeros {s : List UInt8} (hs : s ≠ []) (h : ∀ c ∈ s, noDig c = false) (k : Nat) : ∃ m, numV s = some [m] ∧ numV (List.replicate k 48 ++ s) = some [m] ∧ 0 ≤ m := by
  rw [num_ref, num_ref]
  cases s with
  | nil => exact absurd rfl hs
  | cons c s =>
    have hd := h c (by simp)
    obtain ⟨m, h1, h2⟩ := refN_digits (c :: s) 0 h (by omega)
    refine ⟨m, ?_, ?_, h2⟩
    · exact (refN_begun hd).trans h1
    · cases k with
      | zero => simp only [List.replicate_zero, List.nil_append]; exact (refN_begun hd).trans h1
      | succ k =>
        rw [List.replicate_succ, List.cons_append]
        show refN (48 :: (List.replicate k 48 ++ c :: s)) (-1) = _
        rw [refN_begun (by decide)]
        have := refN_zeros (k + 1) (c :: s)
        rw [List.replicate_succ, List.cons_append] at this
        rw [this, h1]
end Go.Proofs.YtadcnfenchemhaaDoor
