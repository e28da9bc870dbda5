/-
  What Feed comes to, place by place, and what a Feed back leaves; what a screen is that was made greater, and as it was again. Plain numbers and cells.
-/
import Derived.Test.YtkpfhgfdfndliaaGreatDoorLvl
import Derived.Test.YtkpfhgfdfndliaaGreatDoorBg
namespace Go.Proofs.YtkpfhgfdfndliaaGreatDoor
open Go.RowKit

theorem moveF_zero (F : Nat → Cel) (o L : Nat) (x : Cel) : moveF F o L 0 x = F := by
  funext k
  unfold moveF
  split
  · next h =>
    rw [if_pos (by omega)]
    simp
  · rfl
theorem upF_zero (R C : Nat) (F : Nat → Cel) (x : Cel) : upF R C F 0 x = F := by
  unfold upF
  rw [Int.zero_mul]
  exact moveF_zero _ _ _ _
/-- The cell of a row and a column behind an Up. -/
theorem upF_at {R C : Nat} (F : Nat → Cel) (d : Int) (x : Cel) {i k : Nat} (hi : i < R) (hk : k < C) :
    upF R C F d x (i * C + k) = if 0 ≤ (i : Int) + d ∧ (i : Int) + d < R then F (((i : Int) + d).toNat * C + k) else x := by
  have hj : i * C + k < R * C := place_lt hi hk
  unfold upF moveF
  rw [if_pos ⟨Nat.zero_le _, by omega⟩]
  obtain ⟨e, he⟩ : ∃ e : Int, e = (i : Int) + d := ⟨_, rfl⟩
  have h1 : ((i * C + k : Nat) : Int) + d * C = e * C + k := by
    rw [he, Int.add_mul]; simp; omega
  rw [h1, ← he]
  by_cases c1 : 0 ≤ e ∧ e < R
  · obtain ⟨m, rfl⟩ := Int.eq_ofNat_of_zero_le c1.1
    have hm : m < R := by omega
    have hp : m * C + k < R * C := place_lt hm hk
    have h2 : (m : Int) * C + k = ((m * C + k : Nat) : Int) := by simp
    rw [if_pos c1, h2, if_pos (by omega), Int.toNat_natCast, Int.toNat_natCast]
  · rw [if_neg c1, if_neg]
    rintro ⟨g1, g2⟩
    apply c1
    constructor
    · by_cases hn : 0 ≤ e
      · exact hn
      · have : e * C ≤ -1 * C := Int.mul_le_mul_of_nonneg_right (by omega) (by omega)
        omega
    · by_cases hn : e < R
      · exact hn
      · have : (R : Int) * C ≤ e * C := Int.mul_le_mul_of_nonneg_right (by omega) (by omega)
        have h3 : ((R * C : Nat) : Int) = (R : Int) * C := by simp
        omega
theorem feed_back (z : St) (n : Int) (h1 : 1 ≤ z.R) (hr : 0 ≤ z.r ∧ z.r < z.R) (hc : 0 ≤ z.c ∧ z.c < z.C) (h : feedD z.R z.r n = 0) : feedZ (feedZ z n) (-n) = moveZ z z.r z.c := by
  obtain ⟨R, C, F, S, r, c, b⟩ := z
  simp only at hr hc h h1
  unfold feedZ moveZ
  simp only
  have e1 : feedR R r n = r + n := by unfold feedD at h; unfold feedR; omega
  have e2 : nr (r + n + -n) R = r := by rw [show r + n + -n = r by omega]; exact nr_in _ _ hr.1 hr.2
  have e3 : feedD R (feedR R r n) (-n) = 0 := by rw [e1]; unfold feedD; rw [e2]; omega
  have e4 : feedR R (feedR R r n) (-n) = r := by rw [e1]; exact e2
  have e5 : nr r R = r := nr_in _ _ hr.1 hr.2
  have e6 : nr c C = c := nr_in _ _ hc.1 hc.2
  rw [h, e3, e4, e5, e6, upF_zero, upF_zero]

/-- The cell of a row and a column of what was given another size. -/
theorem resF_at {R C C' : Nat} (F : Nat → Cel) (x : Cel) {i k : Nat} (hk : k < C') :
    resF F R C C' x (R * C) (i * C' + k) = if i < R ∧ k < C then F (i * C + k) else x := by
  obtain ⟨e1, e2⟩ := idx_unique hk (rfl : i * C' + k = i * C' + k)
  unfold resF
  rw [← e1, ← e2]
  by_cases h : i < R ∧ k < C
  · rw [if_pos h, if_pos ⟨h.1, h.2, place_lt h.1 h.2⟩]
  · rw [if_neg h, if_neg (fun g => h ⟨g.1, g.2.1⟩)]
theorem res_back {B : Nat → Prop} {w : World} {s : Nat} {z : St} {R' C' : Nat} (hR : z.R ≤ R') (hC : z.C ≤ C') (h : Scr w B s (resZ (resZ z R' C') z.R z.C))
    (hz1 : 1 ≤ z.R) (hz2 : 1 ≤ z.C) (hr : 0 ≤ z.r ∧ z.r < z.R) (hc : 0 ≤ z.c ∧ z.c < z.C) : Scr w B s (moveZ z z.r z.c) := by
  obtain ⟨R, C, F, S, r, c, b⟩ := z
  simp only at hr hc hR hC hz1 hz2
  obtain ⟨g, t, cap, tb, m, h1, hB⟩ := h
  refine ⟨g, t, cap, tb, m, ?_, hB⟩
  have e1 : nr (nr r R') R = nr r R := by rw [nr_in r R' hr.1 (by omega)]
  have e2 : nr (nr c C') C = nr c C := by rw [nr_in c C' hc.1 (by omega)]
  have h2 : ScrIn w s g t cap tb m R C _ _ (nr (nr r R') R) (nr (nr c C') C) false := h1
  rw [e1, e2] at h2
  refine (h2.congrF (F' := F) (fun j hj => ?_)).congrS (S' := S) (fun k hk => ?_)
  · have hj2 := rowOf_lt hj
    have hj3 := colOf_lt (k := j) hz2
    have e3 : rowOf C j * C + colOf C j = j := row_col_eq
    rw [← e3]
    show resF (resF F R C C' blk (R * C)) R' C' C blk (R' * C') (rowOf C j * C + colOf C j) = _
    rw [resF_at _ _ hj3, if_pos ⟨by omega, by omega⟩, resF_at _ _ (show colOf C j < C' by omega), if_pos ⟨hj2, hj3⟩]
  · show Tb.resF C' (Tb.resF C S) k = S k
    have hk2 : k < C' := by omega
    simp [Tb.resF, hk, hk2]

/-- Sizes that are not too great. -/
def Small (z : St) : Prop := z.R ≤ 8 ∧ z.C ≤ 20
/-- A call that asks for no size that is too great. -/
def OkSize (o : Op) : Prop := o.ask = 12 → mayB o.a1 o.a2 = true → o.a1 ≤ 8 ∧ o.a2 ≤ 20
theorem drawF_size (o : Op) (z : St) : (drawF o z).R = z.R ∧ (drawF o z).C = z.C := by
  unfold drawF
  split; exact ⟨rfl, rfl⟩
  split; exact ⟨rfl, rfl⟩
  split; exact ⟨rfl, rfl⟩
  split; exact ⟨rfl, rfl⟩
  split <;> exact ⟨rfl, rfl⟩
theorem Small.does {z : St} (h : Small z) {o : Op} (ho : OkSize o) : Small (doF o z) := by
  unfold doF
  split; exact h
  split; exact h
  split; exact h
  split
  · split <;> exact h
  split; exact h
  split; exact h
  split; exact h
  split
  · next _ _ _ _ _ _ _ e =>
    split
    · next hm =>
      obtain ⟨h1, h2⟩ := ho e hm
      exact ⟨by show o.a1.toNat ≤ 8; omega, by show o.a2.toNat ≤ 20; omega⟩
    · exact h
  split; exact h
  obtain ⟨e1, e2⟩ := drawF_size o z
  exact ⟨by rw [e1]; exact h.1, by rw [e2]; exact h.2⟩
theorem Small.run : ∀ (l : List Op) {z : St}, Small z → (∀ o ∈ l, OkSize o) → Small (runZ z l)
  | [], _, h, _ => h
  | o :: l, z, h, ho => Small.run l (h.does (ho o (by simp))) (fun p hp => ho p (by simp [hp]))
theorem small59 : Small z59 := ⟨by decide, by decide⟩
end Go.Proofs.YtkpfhgfdfndliaaGreatDoor
