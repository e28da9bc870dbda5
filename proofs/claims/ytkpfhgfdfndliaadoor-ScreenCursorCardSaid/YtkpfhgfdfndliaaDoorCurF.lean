/-
  A mark that no cell has; where a glyph that is put without guard stands.
-/
import Derived.Test.YtkpfhgfdfndliaaDoorBg
namespace Go.Proofs.YtkpfhgfdfndliaaDoor
open Go.RowKit

/-- No cell has the mark. -/
def NoM (f : Nat → Cel) : Prop := ∀ k, (f k).m ≠ 987654
theorem noM_blk : blk.m ≠ 987654 := by decide
theorem NoM.upd {f : Nat → Cel} (h : NoM f) (i : Nat) {x : Cel} (hx : x.m ≠ 987654) : NoM (upd f i x) := fun k => by
  unfold Go.Proofs.YtkpfhgfdfndliaaDoor.upd
  split
  · exact hx
  · exact h k
theorem NoM.move {f : Nat → Cel} (h : NoM f) (o L : Nat) (n : Int) {x : Cel} (hx : x.m ≠ 987654) : NoM (moveF f o L n x) := fun k => by
  unfold moveF
  split
  · split
    · exact h _
    · exact hx
  · exact h k
theorem NoM.lift {f : Nat → Cel} (h : NoM f) (R C : Nat) (u : Bool) : NoM (liftF R C f u blk) := by
  unfold liftF
  split
  · exact h.move _ _ _ noM_blk
  · exact h
theorem NoM.wipe {f : Nat → Cel} (h : NoM f) (R C : Nat) (v : Bool) (r c r' c' : Int) {x : Cel} (hx : x.m ≠ 987654) : NoM (Wp.wipeF R C f (Wp.one v (fun _ => x)) r c r' c') := by
  unfold Wp.wipeF
  split
  · intro k
    unfold Wp.partT
    split
    · unfold Wp.one
      split
      · exact h k
      · exact hx
    · exact h k
  · exact h
theorem NoM.res {f : Nat → Cel} (h : NoM f) (R C C' n : Nat) : NoM (resF f R C C' blk n) := by
  intro k
  unfold resF
  repeat' split
  all_goals first | exact h _ | exact noM_blk
theorem NoM.draw {z : St} (h : NoM z.F) (o : Op) (hx : o.x.m ≠ 987654) : NoM (drawF o z).F := by
  unfold drawF
  split
  · show NoM (sputF z.R z.C z.F z.r z.c z.b o.x o.wr o.gd)
    unfold sputF
    split
    · unfold gdF
      split
      · exact h.upd _ hx
      · exact h
    · exact ((h.lift _ _ _).upd _ hx).lift _ _ _
  split
  · exact h.wipe _ _ _ _ _ _ _ hx
  split
  · show NoM (spartF z.R z.C z.F z.r z.c o.n o.x o.gd)
    unfold spartF
    split
    · exact h.wipe _ _ _ _ _ _ _ hx
    · exact h
  split
  · show NoM (Sh.linesF z.R z.C z.F z.r o.n o.x o.gd)
    unfold Sh.linesF
    split
    · exact h.move _ _ _ hx
    · exact h
  split
  · show NoM (Sh.charsF z.R z.C z.F z.r z.c o.n o.x o.gd)
    unfold Sh.charsF
    split
    · exact h.move _ _ _ hx
    · exact h
  exact h
theorem NoM.does {z : St} (h : NoM z.F) (o : Op) (hx : o.x.m ≠ 987654) : NoM (doF o z).F := by
  unfold doF
  split; exact h
  split; exact h
  split; exact h.move _ _ _ noM_blk
  split
  · split <;> exact h
  split; exact h
  split; exact h
  split; exact h
  split
  · split
    · exact h.res _ _ _ _
    · exact h
  split
  · show NoM (setF z.R z.C z.F o.a1 o.a2 o.x)
    unfold setF
    split
    · exact h.upd _ hx
    · exact h
  exact h.draw o hx

/-- Where what is put without guard stands: under the cursor, in the last column, or ahead of it. -/
theorem put_look {R C : Nat} {F : Nat → Cel} {r c k : Int} {b : Bool} {x : Cel} (hR : 1 ≤ R) (hC : 1 ≤ C) (hF : NoM F) :
    There R C (putR R C r c b k) (putC C c b k) ∧
    ((putF R C F r c b x k blk (idx C (putR R C r c b k) (putC C c b k)) = x ∧ putC C c b k = (C : Int) - 1) ∨
      (putF R C F r c b x k blk (idx C (putR R C r c b k) (putC C c b k))).m ≠ 987654 ∧
        ((putC C c b k ≠ 0 ∧ There R C (putR R C r c b k) (putC C c b k - 1) ∧ putF R C F r c b x k blk (idx C (putR R C r c b k) (putC C c b k - 1)) = x) ∨
         (putC C c b k = 0 ∧ R = 1) ∨
         (putC C c b k = 0 ∧ There R C (putR R C r c b k - 1) ((C : Int) - 1) ∧ putF R C F r c b x k blk (idx C (putR R C r c b k - 1) ((C : Int) - 1)) = x))) := by
  refine ⟨put_there hR hC, ?_⟩
  have h := a_there (r := r) (c := c) (b := b) hR hC
  unfold putR putC putF
  have h1 := hF.lift R C (aU R r b)
  generalize liftF R C F (aU R r b) blk = G at *
  generalize aR R r b = p at *
  generalize aC C c b = q at *
  obtain ⟨a1, a2, a3, a4⟩ := h
  obtain ⟨p, rfl⟩ := Int.eq_ofNat_of_zero_le a1
  obtain ⟨q, rfl⟩ := Int.eq_ofNat_of_zero_le a3
  have up : ∀ i, i ≠ p * C + q → (upd G (p * C + q) x i).m ≠ 987654 := fun i hi => by
    unfold upd
    rw [if_neg hi]
    exact h1 i
  have at0 : upd G (p * C + q) x (p * C + q) = x := by simp [upd]
  have e0 : idx C (p : Int) (q : Int) = p * C + q := by simp [idx]
  rw [e0]
  by_cases hq : (q : Int) < (C : Int) - 1
  · refine Or.inr ?_
    simp only [bR, bC, bU, if_pos hq, liftF, Bool.false_eq_true, if_false]
    have e1 : idx C (p : Int) ((q : Int) + 1) = p * C + q + 1 := by simp only [idx]; rw [show ((q : Int) + 1).toNat = q + 1 by omega, show ((p : Int)).toNat = p by omega]; omega
    have e2 : idx C (p : Int) ((q : Int) + 1 - 1) = p * C + q := by simp [idx]
    rw [e1, e2]
    exact ⟨up _ (by omega), Or.inl ⟨by omega, ⟨by omega, by omega, by omega, by omega⟩, at0⟩⟩
  · by_cases k2 : k = 2
    · have k1 : ¬ k = 1 := by omega
      refine Or.inr ?_
      simp only [bR, bC, bU, if_neg hq, if_neg k1, if_pos k2]
      have hqC : q = C - 1 := by omega
      by_cases hl : (p : Int) = (R : Int) - 1
      · have en : nextR R (p : Int) = p := by unfold nextR; split <;> omega
        rw [en]
        have el : ((p : Int) == (R : Int) - 1) = true := by simpa using hl
        rw [el]
        simp only [liftF, if_true]
        have hmul : (p + 1) * C = R * C := by rw [show p + 1 = R by omega]
        rw [Nat.add_mul, Nat.one_mul] at hmul
        have e1 : idx C (p : Int) 0 = p * C := by simp [idx]
        rw [e1]
        refine ⟨?_, ?_⟩
        · unfold upF moveF
          rw [← hmul]
          generalize p * C = N at *
          rw [if_pos (by omega), if_neg (by omega)]
          exact noM_blk
        · by_cases h1R : R = 1
          · exact Or.inr (Or.inl ⟨by simp, h1R⟩)
          · refine Or.inr (Or.inr ⟨by simp, ⟨by omega, by omega, by omega, by omega⟩, ?_⟩)
            obtain ⟨p', rfl⟩ : ∃ p', p = p' + 1 := ⟨p - 1, by omega⟩
            have e2 : idx C (((p' + 1 : Nat) : Int) - 1) ((C : Int) - 1) = p' * C + q := by simp only [idx]; rw [show (((p' + 1 : Nat) : Int) - 1).toNat = p' by omega, show ((C : Int) - 1).toNat = q by omega]
            rw [e2]
            unfold upF moveF
            rw [← hmul]
            rw [Nat.add_mul, Nat.one_mul] at at0 ⊢
            generalize p' * C = N at *
            rw [if_pos (by omega), if_pos (by omega), show ((N + q : Nat) + (1 * (C : Int)) : Int).toNat = N + C + q by omega]
            exact at0
      · have en : nextR R (p : Int) = p + 1 := by unfold nextR; split <;> omega
        rw [en]
        have el : ((p : Int) == (R : Int) - 1) = false := by simpa using hl
        rw [el]
        simp only [liftF, Bool.false_eq_true, if_false]
        have e1 : idx C ((p : Int) + 1) 0 = p * C + C := by simp [idx, Nat.add_mul, show ((p : Int) + 1).toNat = p + 1 by omega]
        have e2 : idx C ((p : Int) + 1 - 1) ((C : Int) - 1) = p * C + q := by simp only [idx]; rw [show ((p : Int) + 1 - 1).toNat = p by omega, show ((C : Int) - 1).toNat = q by omega]
        rw [e1, e2]
        exact ⟨up _ (by omega), Or.inr (Or.inr ⟨by simp, ⟨by omega, by omega, by omega, by omega⟩, at0⟩)⟩
    · refine Or.inl ?_
      have eC : bC C (q : Int) k = q := by simp [bC, hq, k2]
      have eR : bR R C (p : Int) (q : Int) k = p := by simp [bR, hq, k2]
      have eU : bU R C (p : Int) (q : Int) k = false := by simp [bU, hq, k2]
      rw [eC, eR, eU, e0]
      simp only [liftF, Bool.false_eq_true, if_false]
      exact ⟨at0, by omega⟩
end Go.Proofs.YtkpfhgfdfndliaaDoor
