/-
  The place beside one, going round; the places that are gone through.
-/
import Derived.Test.YtkdnjkcebfckiaaAllC
import Derived.Test.YtkdnjkcebfckiaaCount
import Derived.Test.YtkdnjkcebfckiaaRing
namespace Go.Proofs.Ytkdnjkcebfckiaa
open Go.RowKit

theorem may_nat {R C : Nat} (h1 : 1 ≤ R) (h2 : R ≤ 255) (h3 : 1 ≤ C) (h4 : C ≤ 255) : may (R : Int) (C : Int) := ⟨by omega, by omega, by omega, by omega⟩

theorem row_mul (C k : Nat) : (rowOf C k : Int) * (C : Int) + (colOf C k : Int) = (k : Int) := by
  have := idx_row_col C k
  simp only [idx, Int.toNat_natCast] at this
  exact_mod_cast this

theorem index_at' (R C k : Nat) (w : World) (h1 : 1 ≤ R) (h2 : R ≤ 255) (h3 : 1 ≤ C) (h4 : C ≤ 255) (hk : k < R * C) :
    Calls Try.prog 59 #[pos R C, pos (rowOf C k : Int) (colOf C k : Int)] w fun e w' => e = .returned (.tuple #[.int .i64 (k : Int), .int .i64 0]) ∧ Kept0 w w' := by
  have ht := there_row_col hk h3
  have q1 : (nr (rowOf C k : Int) (R : Int) == (rowOf C k : Int)) = true := by rw [nr_in _ _ ht.1 ht.2.1]; simp
  have q2 : (nr (colOf C k : Int) (C : Int) == (colOf C k : Int)) = true := by rw [nr_in _ _ ht.2.2.1 ht.2.2.2]; simp
  have := index_core (R : Int) (C : Int) (rowOf C k : Int) (colOf C k : Int) (may_nat h1 h2 h3 h4) true true q1 q2 w
  rw [row_mul] at this
  exact this

theorem of_at' (R C k : Nat) (w : World) (h1 : 1 ≤ R) (h2 : R ≤ 255) (h3 : 1 ≤ C) (h4 : C ≤ 255) (hk : k < R * C) :
    Calls Try.prog 60 #[pos R C, .int .i64 (k : Int)] w fun e w' => e = .returned (.tuple #[pos (rowOf C k : Int) (colOf C k : Int), .int .i64 0]) ∧ Kept0 w w' := by
  have q1 : decide ((k : Int) < 0) = false := by simp
  have q2 : decide ((R : Int) * (C : Int) ≤ (k : Int)) = false := by
    rw [decide_eq_false_iff_not]
    have : ((R * C : Nat) : Int) = (R : Int) * (C : Int) := by simp
    omega
  exact of_core (R : Int) (C : Int) (k : Int) (may_nat h1 h2 h3 h4) false false q1 q2 w

theorem two_newD (w : World) (t : TypeId) : Two (w.alloc (.cells #[.int .i64 0, .int .i64 0] t)).drew w.heap.size 0 0 := (Two.of (heap_new w _)).kept0 (Kept.drew (Kept.refl _ _))

set_option maxHeartbeats 1000000 in
theorem beside_core (R C k k' : Nat) (s : Int) (w : World) (h1 : 1 ≤ R) (h2 : R ≤ 255) (h3 : 1 ≤ C) (h4 : C ≤ 255) (hk : k < R * C) (hk' : k' < R * C)
    (hs : (IntKind.i64.wrap (IntKind.i64.wrap ((k : Int) + s) + ((R * C : Nat) : Int))).tmod ((R * C : Nat) : Int) = (k' : Int)) :
    Calls Try.prog 46 #[pos R C, pos (rowOf C k : Int) (colOf C k : Int), .int .i64 s] w fun e w' => e = .returned (pos (rowOf C k' : Int) (colOf C k' : Int)) ∧ Kept0 w w' := by
  have hN : R * C ≤ 65025 := Nat.mul_le_mul h2 h4
  have hA : Hid (∀ w', Calls Try.prog 59 #[pos R C, pos (rowOf C k : Int) (colOf C k : Int)] w' fun e w'' => e = .returned (.tuple #[.int .i64 (k : Int), .int .i64 0]) ∧ Kept0 w' w'') := fun w' => index_at' R C k w' h1 h2 h3 h4 hk
  have hB : Hid (∀ w', Calls Try.prog 60 #[pos R C, .int .i64 (k' : Int)] w' fun e w'' => e = .returned (.tuple #[pos (rowOf C k' : Int) (colOf C k' : Int), .int .i64 0]) ∧ Kept0 w' w'') := fun w' => of_at' R C k' w' h1 h2 h3 h4 hk'
  have e1 : IntKind.i64.wrap ((R : Int) * (C : Int)) = ((R * C : Nat) : Int) := by
    rw [show (R : Int) * (C : Int) = ((R * C : Nat) : Int) by simp]
    exact IntWalk.i64_in _ ⟨by omega, by omega⟩
  have n0 : ¬ (((R * C : Nat) : Int) = 0) := by omega
  generalize ((R * C : Nat) : Int) = N at *
  generalize (rowOf C k : Int) = r at *
  generalize (colOf C k : Int) = c at *
  generalize (rowOf C k' : Int) = r' at *
  generalize (colOf C k' : Int) = c' at *
  have HS := Lib.hid hs
  clear hs h1 h2 h3 h4 hk hk' hN
  go_enter Try.func46, Try.ntmps46
  go_wp2_with fail
  refine (hA.out _).mono ?_
  rintro e w1 ⟨rfl, hk1⟩
  have hs : Two w1 w.heap.size R C := (Two.of (heap_old _ _ (heap_old _ _ (heap_new _ _)))).kept0 hk1
  have ho : Two w1 (w.heap.size + 1 + 1) 0 0 := (Two.of (heap_newC _ _ _ _)).kept0 hk1
  have hk : Kept0 w w1 := ((((Kept.refl _ w).alloc _).alloc _).alloc _).trans hk1
  have l1 := hs.lt
  have l2 := ho.lt
  clear hk1
  obtain ⟨s0, s1, s2, s3⟩ := hs
  have n1 : ¬ w.heap.size = w1.heap.size := by omega
  have n2 : ¬ w1.heap.size = w.heap.size := by omega
  go_wp2_with fail
  go_region_held3 (fun w' => w'.cell? ⟨w.heap.size, 0, none⟩ = some (.int .i64 R) ∧ w'.cell? ⟨w.heap.size, 1, none⟩ = some (.int .i64 C)) (go_keep)
    (first
      | (go_at_call 60; rw [HS.out]; refine (hB.out _).mono ?_; rintro e w2 ⟨rfl, hk2⟩; have kz : w1.heap.size ≤ w2.heap.size := Nat.le_trans (by simp) hk2.size; have m1 : ¬ w.heap.size = w2.heap.size := (by omega); have m2 : ¬ w2.heap.size = w.heap.size := (by omega); have z0 : w2.cell? ⟨w.heap.size, 0, none⟩ = some (.int .i64 R) := kcell hk2 (by first | exact s0 | exact kcell (Kept.drew ((Kept.refl _ w1).alloc _)) s0); have z1 : w2.cell? ⟨w.heap.size, 1, none⟩ = some (.int .i64 C) := kcell hk2 (by first | exact s1 | exact kcell (Kept.drew ((Kept.refl _ w1).alloc _)) s1); try (have hn := (two_newD w1 26).kept0 hk2; obtain ⟨a0, a1, a2, a3⟩ := hn)))
  all_goals
    first
      | (obtain ⟨W9, hW9⟩ : ∃ W9, W9 = (w2.setCell ⟨w1.heap.size, 0, none⟩ (.int .i64 r')).setCell ⟨w1.heap.size, 1, none⟩ (.int .i64 c') := ⟨_, rfl⟩
         rw [← hW9]
         have hT : Two W9 w1.heap.size r' c' := by rw [hW9]; exact Two.set ⟨a0, a1, a2, a3⟩ r' c'
         have k9 : Kept0 w1 W9 := by rw [hW9]; exact ((((Kept.refl _ w1).alloc _).drew.trans hk2).setCell _ (Or.inl (Nat.le_refl _)) _).setCell _ (Or.inl (Nat.le_refl _)) _)
      | (obtain ⟨W9, hW9⟩ : ∃ W9, W9 = w2.alloc (.cells #[.int .i64 r', .int .i64 c'] 26) := ⟨_, rfl⟩
         rw [← hW9]
         have hT : Two W9 w2.heap.size r' c' := by rw [hW9]; exact Two.of (heap_new w2 _)
         have k9 : Kept0 w1 W9 := by rw [hW9]; exact (((Kept.refl _ w1).drew.trans hk2).alloc _))
    have hk := hk.trans k9
    have ho := ho.kept0 k9
    have l3 := hT.lt
    have l4 := ho.lt
    obtain ⟨t0, t1, t2, t3⟩ := hT
    obtain ⟨o0, o1, o2, o3⟩ := ho
    clear hW9 k9 z0 z1 hk2 m1 m2 n1 n2 l1 l2 s0 s1 s2 s3
    go_wp2_with fail
    exact bodyPost_ret (v := pos r' c') (by simp [results, Try.results46, go_sem, *]) rfl ⟨rfl, (hk.setCell _ (Or.inl (Nat.le_add_right _ 2)) _).setCell _ (Or.inl (Nat.le_add_right _ 2)) _⟩

/-- A step of 1, or of -1. -/
def sg (b : Bool) : Int := if b = true then -1 else 1

theorem beside_any (R C k : Nat) (b : Bool) (w : World) (h1 : 1 ≤ R) (h2 : R ≤ 255) (h3 : 1 ≤ C) (h4 : C ≤ 255) (hk : k < R * C) :
    Calls Try.prog 46 #[pos R C, pos (rowOf C k : Int) (colOf C k : Int), .int .i64 (sg b)] w fun e w' => e = .returned (pos (rowOf C (stp (R * C) b k 1) : Int) (colOf C (stp (R * C) b k 1) : Int)) ∧ Kept0 w w' := by
  have hN : R * C ≤ 65025 := Nat.mul_le_mul h2 h4
  refine beside_core R C k (stp (R * C) b k 1) (sg b) w h1 h2 h3 h4 hk (stp_lt (by omega)) ?_
  generalize R * C = N at *
  cases b
  · simp only [sg, stp, Bool.false_eq_true, if_false]
    rw [IntWalk.i64_in ((k : Int) + 1) ⟨by omega, by omega⟩, IntWalk.i64_in _ ⟨by omega, by omega⟩, Int.tmod_eq_emod_of_nonneg (by omega), Int.add_emod_right]
    simp
  · simp only [sg, stp, if_true]
    rw [IntWalk.i64_in ((k : Int) + -1) ⟨by omega, by omega⟩, IntWalk.i64_in _ ⟨by omega, by omega⟩, Int.tmod_eq_emod_of_nonneg (by omega)]
    rw [show (k : Int) + -1 + (N : Int) = ((k + N - 1 : Nat) : Int) by omega]
    simp

end Go.Proofs.Ytkdnjkcebfckiaa
