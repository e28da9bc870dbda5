/-
  A buffer and the document's, side by side.
-/
import Derived.Test.YtadcnfenchemhaaDoorAwC
import Derived.Test.YtadcnfenchemhaaDoorBufC
namespace Go.Proofs.YtadcnfenchemhaaDoor
open Go.RowKit Go.Maps

/-- A buffer, and the document's, in blocks that are newer than a world. -/
def Both (w0 w : World) (b x most : Nat) (xs : List UInt8) (lost : Nat) (ys : List UInt8) (lost2 : Nat) : Prop :=
  ∃ B, Bf w B b most xs lost ∧ (∀ i, B i → w0.heap.size ≤ i ∧ i ≠ x) ∧ w0.heap.size ≤ x ∧ Rf w x most ys lost2 ∧ Kept0 w0 w
section
variable {w0 w w' : World} {b x most lost lost2 : Nat} {xs ys : List UInt8}
theorem Both.keep (h : Both w0 w b x most xs lost ys lost2) (k : Kept0 w w') : Both w0 w' b x most xs lost ys lost2 := by
  obtain ⟨B, h1, h2, h3, h4, h5⟩ := h
  exact ⟨B, h1.kept0 k, h2, h3, h4.kept k (fun e => e), h5.trans k⟩
theorem Both.old (h : Both w0 w b x most xs lost ys lost2) : Kept0 w0 w := by obtain ⟨_, _, _, _, _, h⟩ := h; exact h
theorem Both.c0 (h : Both w0 w b x most xs lost ys lost2) : w.cell? ⟨x, 0, none⟩ = some (.string (str ys)) := by obtain ⟨_, _, _, _, h, _⟩ := h; exact h.c0
theorem Both.c2 (h : Both w0 w b x most xs lost ys lost2) : w.cell? ⟨x, 2, none⟩ = some (.int .i64 lost2) := by obtain ⟨_, _, _, _, h, _⟩ := h; exact h.c2
theorem Both.first (h : Both w0 w b x most xs lost ys lost2) : ∃ B, Bf w B b most xs lost := by obtain ⟨B, h, _⟩ := h; exact ⟨B, h⟩
/-- What a Push comes to. -/
def pushX (most : Nat) (xs : List UInt8) (c : UInt8) : List UInt8 := if xs.length < most then xs ++ [c] else xs
def pushN (most : Nat) (xs : List UInt8) (lost : Nat) : Nat := if xs.length < most then lost else lost + 1
theorem pushX_len {most : Nat} {xs : List UInt8} (c : UInt8) (h : xs.length ≤ most) : (pushX most xs c).length ≤ most := by
  unfold pushX
  split
  · simp; omega
  · exact h
theorem pushN_le {most : Nat} {xs : List UInt8} {lost k : Nat} (h : lost ≤ k) : pushN most xs lost ≤ k + 1 := by
  unfold pushN
  split <;> omega
theorem both_push (c : UInt8) (h : Both w0 w b x most xs lost ys lost2) (hm : most ≤ 64) (hl : lost < 1000) :
    Calls Tryd.prog 16 #[ptr b, .int .u8 (c.toNat : Int)] w fun e w' => e = .returned (.bool (decide (xs.length < most))) ∧ Both w0 w' b x most (pushX most xs c) (pushN most xs lost) ys lost2 := by
  obtain ⟨B, h1, h2, h3, h4, h5⟩ := h
  have hz := h5.size
  have hxl : x < w.heap.size := World.block_lt_of_cell? _ _ h4.c0
  have fin : ∀ {xs' : List UInt8} {lost' : Nat} {w' : World}, BPost B b most xs' lost' w w' → Both w0 w' b x most xs' lost' ys lost2 := by
    rintro xs' lost' w' ⟨B', p1, p2, p3⟩
    refine ⟨B', p1, fun i hi => ?_, h3, h4.kept p3 (fun e => (h2 x e).2 rfl), h5.later p3 (fun i hi e => by have := (h2 i e).1; omega)⟩
    rcases p2 i hi with e | e
    · exact h2 i e
    · exact ⟨by omega, by omega⟩
  by_cases hlt : xs.length < most
  · refine (push_yes c h1 hlt hm).mono ?_
    rintro e w' ⟨rfl, hp⟩
    refine ⟨by rw [decide_eq_true hlt], ?_⟩
    rw [show pushX most xs c = xs ++ [c] from if_pos hlt, show pushN most xs lost = lost from if_pos hlt]
    exact fin hp
  · refine (push_no c h1 hlt hl).mono ?_
    rintro e w' ⟨rfl, hp⟩
    refine ⟨by rw [decide_eq_false hlt], ?_⟩
    rw [show pushX most xs c = xs from if_neg hlt, show pushN most xs lost = lost + 1 from if_neg hlt]
    exact fin hp
theorem both_rpush (c : UInt8) (h : Both w0 w b x most xs lost ys lost2) (hm : most ≤ 64) (hl : lost2 < 1000) :
    Calls Tryd.prog 17 #[ptr x, .int .u8 (c.toNat : Int)] w fun e w' => e = .returned (.bool (decide (ys.length < most))) ∧ Both w0 w' b x most xs lost (pushX most ys c) (pushN most ys lost2) := by
  obtain ⟨B, h1, h2, h3, h4, h5⟩ := h
  have hz := h5.size
  have fin : ∀ {ys' : List UInt8} {l' : Nat} {w' : World}, Rf w' x most ys' l' → Kept (· = x) w w' → Both w0 w' b x most xs lost ys' l' := by
    intro ys' l' w' p1 p2
    exact ⟨B, h1.kept p2 (fun i hi e => (h2 i hi).2 e), h2, h3, p1, h5.later p2 (fun i hi e => by omega)⟩
  by_cases hlt : ys.length < most
  · refine (rpush_yes c h4 hlt hm).mono ?_
    rintro e w' ⟨rfl, hp, hk⟩
    refine ⟨by rw [decide_eq_true hlt], ?_⟩
    rw [show pushX most ys c = ys ++ [c] from if_pos hlt, show pushN most ys lost2 = lost2 from if_pos hlt]
    exact fin hp hk
  · refine (rpush_no c h4 hlt hl).mono ?_
    rintro e w' ⟨rfl, hp, hk⟩
    refine ⟨by rw [decide_eq_false hlt], ?_⟩
    rw [show pushX most ys c = ys from if_neg hlt, show pushN most ys lost2 = lost2 + 1 from if_neg hlt]
    exact fin hp hk
/-- Reset, and a new one of the document's. -/
theorem both_reset (h : Both w0 w b x most xs lost ys lost2) :
    Calls Tryd.prog 15 #[ptr b] w fun e w' => e = .returned (.tuple #[]) ∧ Both w0 w' b x most [] 0 ys lost2 := by
  obtain ⟨B, h1, h2, h3, h4, h5⟩ := h
  have hz := h5.size
  have hbB : B b := by obtain ⟨v, _, _, rfl⟩ := h1; exact Or.inl rfl
  refine (reset_any h1).mono ?_
  rintro e w' ⟨rfl, hp, hk⟩
  exact ⟨rfl, B, hp, h2, h3, h4.kept hk (fun e => (h2 b hbB).2 e.symm), h5.later hk (fun i hi e => by have := (h2 b hbB).1; omega)⟩
theorem Both.anew (h : Both w0 w b x most xs lost ys lost2) : Both w0 (w.alloc (.cells #[.string ⟨#[]⟩, .int .i64 most, .int .i64 0] 35)) b w.heap.size most xs lost [] 0 := by
  obtain ⟨B, h1, h2, h3, h4, h5⟩ := h
  have hz := h5.size
  have hlt := h1.lt
  exact ⟨B, h1.kept0 ((Kept.refl _ w).alloc _), fun i hi => ⟨(h2 i hi).1, by have := hlt i hi; omega⟩, hz, heap_new w _, h5.alloc _⟩
end
end Go.Proofs.YtadcnfenchemhaaDoor
