/-
  There and back: Resize and Roll. No program.
-/
import Derived.Test.YtekjjnfbahmjcaaSlides
namespace Go.Proofs.Ytekjjnfbahmjcaa
open Go.RowKit

theorem div_place {C r c : Nat} (h : c < C) : (r * C + c) / C = r ∧ (r * C + c) % C = c := by
  constructor
  · rw [Nat.mul_comm, Nat.mul_add_div (by omega), Nat.div_eq_of_lt h]; rfl
  · rw [Nat.mul_comm, Nat.mul_add_mod, Nat.mod_eq_of_lt h]

/-- A Resize that is greater, and one back, is as if none had been. -/
theorem resF_back (f : Nat → Int) (R C R1 C1 : Nat) (x y : Int) (hR : R ≤ R1) (hC : C ≤ C1) (hC0 : 1 ≤ C) :
    sameF (resF (resF f R C C1 x (R * C)) R1 C1 C y (R1 * C1)) f (R * C) = true := by
  unfold sameF
  refine decide_eq_true fun j hj => ?_
  have hcol : colOf C j < C := colOf_lt hC0
  have hrow : rowOf C j < R := by
    have := row_col_eq (C := C) (j := j)
    rcases Nat.lt_or_ge (rowOf C j) R with h | h
    · exact h
    · have h2 : R * C ≤ rowOf C j * C := Nat.mul_le_mul_right _ h
      omega
  have hj' : rowOf C j * C + colOf C j = j := by have := row_col_eq (C := C) (j := j); omega
  have hd := div_place (C := C1) (r := rowOf C j) (c := colOf C j) (by omega)
  unfold resF
  rw [if_pos ⟨by omega, by omega, place_lt (by omega) (by omega)⟩]
  have e1 : rowOf C1 (rowOf C j * C1 + colOf C j) = rowOf C j := hd.1
  have e2 : colOf C1 (rowOf C j * C1 + colOf C j) = colOf C j := hd.2
  rw [e1, e2, if_pos ⟨hrow, hcol, by omega⟩, hj']

theorem row_le {a p : Int} {C q : Nat} (hq : q < C) : a * C ≤ p * C + q ↔ a ≤ p := by
  constructor
  · intro h
    by_cases h1 : p < a
    · have := Int.mul_le_mul_of_nonneg_right (show p + 1 ≤ a by omega) (show (0 : Int) ≤ C by omega)
      rw [Int.add_mul] at this
      omega
    · omega
  · intro h
    have := Int.mul_le_mul_of_nonneg_right h (show (0 : Int) ≤ C by omega)
    omega
theorem row_lt {b p : Int} {C q : Nat} (hq : q < C) : p * C + q < (b + 1) * C ↔ p ≤ b := by
  have := row_le (a := b + 1) (p := p) hq
  omega

/-- A Roll, and one back. -/
theorem roll_back (f : Nat → Int) (R C k : Nat) (top bottom n x y : Int) (h0 : 0 ≤ top) (h1 : top ≤ bottom) (h2 : bottom < R) (hC : 1 ≤ C) :
    (¬ (top ≤ (rowOf C k : Int) ∧ (rowOf C k : Int) ≤ bottom) → rollG (rollG f R C top bottom n x) R C top bottom (-n) y k = f k) ∧
    (top ≤ (rowOf C k : Int) ∧ (rowOf C k : Int) ≤ bottom → top ≤ (rowOf C k : Int) - n ∧ (rowOf C k : Int) - n ≤ bottom → rollG (rollG f R C top bottom n x) R C top bottom (-n) y k = f k) ∧
    (top ≤ (rowOf C k : Int) ∧ (rowOf C k : Int) ≤ bottom → ¬ (top ≤ (rowOf C k : Int) - n ∧ (rowOf C k : Int) - n ≤ bottom) → rollG (rollG f R C top bottom n x) R C top bottom (-n) y k = y) := by
  have hb1 : rowB R top = true := decide_eq_true ⟨by omega, by omega⟩
  have hb2 : rowB R bottom = true := decide_eq_true ⟨by omega, by omega⟩
  have hu : ∀ (f : Nat → Int) (n x : Int), rollG f R C top bottom n x = moveF f (top.toNat * C) ((bottom - top + 1).toNat * C) (n * C) x := by
    intro f n x
    simp [rollG, hb1, hb2, h1]
  rw [hu, hu]
  have hk : (k : Int) = (rowOf C k : Int) * C + colOf C k := by
    have := row_col_eq (C := C) (j := k)
    have h9 : k = rowOf C k * C + colOf C k := by omega
    have : (k : Int) = ((rowOf C k * C + colOf C k : Nat) : Int) := by rw [← h9]
    rw [this]; simp
  have hq := colOf_lt (C := C) (k := k) hC
  generalize rowOf C k = p at *
  generalize colOf C k = q at *
  obtain ⟨o, ho⟩ : ∃ o, top.toNat * C = o := ⟨_, rfl⟩
  obtain ⟨L, hL⟩ : ∃ L, (bottom - top + 1).toNat * C = L := ⟨_, rfl⟩
  rw [ho, hL]
  have ho' : (o : Int) = top * C := by rw [← ho]; simp; rw [Int.max_eq_left h0]
  have hL' : (o : Int) + L = (bottom + 1) * C := by
    have h9 : (L : Int) = (bottom - top + 1) * C := by rw [← hL]; simp; rw [Int.max_eq_left (by omega)]
    rw [h9, ho', ← Int.add_mul]
    congr 1
    omega
  have a1 := row_le (a := top) (p := p) hq
  have a2 := row_lt (b := bottom) (p := p) hq
  have a3 := row_le (a := top) (p := (p : Int) - n) hq
  have a4 := row_lt (b := bottom) (p := (p : Int) - n) hq
  have hsub : ((p : Int) - n) * C + q = k + -n * C := by rw [hk, Int.sub_mul, Int.neg_mul]; omega
  rw [hsub, ← ho'] at a3
  rw [hsub, ← hL'] at a4
  rw [← hk, ← ho'] at a1
  rw [← hk, ← hL'] at a2
  have hneg : -n * (C : Int) = -(n * C) := Int.neg_mul n C
  rw [hneg] at a3 a4
  clear hsub hk ho hL hu ho' hL'
  generalize n * (C : Int) = m at *
  unfold moveF
  rw [hneg]
  refine ⟨fun h => ?_, fun h h' => ?_, fun h h' => ?_⟩
  · have hno : ¬ (o ≤ k ∧ k < o + L) := by omega
    rw [if_neg hno, if_neg hno]
  · have hyes : o ≤ k ∧ k < o + L := by omega
    have h3 : (o : Int) ≤ k + -m ∧ (k : Int) + -m < o + L := by omega
    rw [if_pos hyes, if_pos h3, if_pos (show o ≤ ((k : Int) + -m).toNat ∧ ((k : Int) + -m).toNat < o + L by omega)]
    have e : ((((k : Int) + -m).toNat : Nat) : Int) + m = k := by omega
    rw [e, if_pos (by omega)]
    rfl
  · have hyes : o ≤ k ∧ k < o + L := by omega
    rw [if_pos hyes, if_neg (by omega)]
end Go.Proofs.Ytekjjnfbahmjcaa
