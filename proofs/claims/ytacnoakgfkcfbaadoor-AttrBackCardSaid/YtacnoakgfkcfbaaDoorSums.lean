/-
  The sums of the bits that a personality has. No program's run.
-/
import Derived.Test.YtacnoakgfkcfbaaDoorRef
namespace Go.Proofs.YtacnoakgfkcfbaaDoor
open Go.RowKit

/-- The sum of the first k. -/
def totTo (l : List Nat) : Nat → Nat
  | 0 => 0
  | k + 1 => totTo l k + l.getD k 0

theorem maskL_cases (p : Int) : (p = 2 ∨ p = 3 ∨ p = 4) ∨ (maskL p = [] ∧ maskN p = 0) := by
  unfold maskL maskN
  by_cases h2 : p = 2
  · exact Or.inl (Or.inl h2)
  by_cases h3 : p = 3
  · exact Or.inl (Or.inr (Or.inl h3))
  by_cases h4 : p = 4
  · exact Or.inl (Or.inr (Or.inr h4))
  exact Or.inr (by rw [if_neg h2, if_neg h3, if_neg h4, if_neg h2, if_neg h3, if_neg h4]; exact ⟨rfl, rfl⟩)
theorem tot_mask (p : Int) : totTo (maskL p) (maskL p).length = maskN p := by
  rcases maskL_cases p with (rfl | rfl | rfl) | ⟨h1, h2⟩
  · decide +kernel
  · decide +kernel
  · decide +kernel
  · rw [h1, h2]; rfl
theorem sum2 : allB2 (fun n => sumTo (maskL 2) n 12 == n &&& 16253) 128 = true := by kernel_rfl
theorem sum3 : allB2 (fun n => sumTo (maskL 3) n 5 == n &&& 62) 128 = true := by kernel_rfl
theorem sum4 : allB2 (fun n => sumTo (maskL 4) n 4 == n &&& 60) 128 = true := by kernel_rfl
theorem sum_mask (p : Int) (n : Nat) (hn : n < 16384) : sumTo (maskL p) n (maskL p).length = n &&& maskN p := by
  rcases maskL_cases p with (rfl | rfl | rfl) | ⟨h1, h2⟩
  · have := allB2_spec sum2 n (by omega)
    exact beq_iff_eq.1 this
  · have := allB2_spec sum3 n (by omega)
    exact beq_iff_eq.1 this
  · have := allB2_spec sum4 n (by omega)
    exact beq_iff_eq.1 this
  · rw [h1, h2]
    simp [sumTo]
theorem maskL_in (p : Int) : (∀ x ∈ maskL p, 0 < x ∧ x ≤ 8192) ∧ (maskL p).length ≤ 12 := by
  rcases maskL_cases p with (rfl | rfl | rfl) | ⟨h1, _⟩
  · decide +kernel
  · decide +kernel
  · decide +kernel
  · rw [h1]; simp
theorem totTo_le {l : List Nat} (hl : ∀ x ∈ l, 0 < x ∧ x ≤ 8192) : ∀ k, totTo l k ≤ 8192 * k
  | 0 => Nat.le_refl _
  | k + 1 => by
    have h := totTo_le hl k
    have h2 : l.getD k 0 ≤ 8192 := by
      rw [List.getD]
      cases e : l[k]? with
      | none => simp
      | some x => exact (hl x (List.mem_of_getElem? e)).2
    unfold totTo
    omega

end Go.Proofs.YtacnoakgfkcfbaaDoor
