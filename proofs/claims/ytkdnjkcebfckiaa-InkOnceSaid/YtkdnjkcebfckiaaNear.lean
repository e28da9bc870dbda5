/-
  Near, of the package and of the document.
-/
import Derived.Test.YtkdnjkcebfckiaaWLeaf
import Derived.Deep.RegionHeld3
namespace Go.Proofs.Ytkdnjkcebfckiaa
open Go.RowKit

set_option maxHeartbeats 1000000 in
theorem near_any (R C r c : Int) (w : World) :
    Calls Try.prog 47 #[pos R C, pos r c] w fun e w' => e = .returned (pos (nearR R C r) (nearC R C c)) ∧ Kept0 w w' := by
  by_cases hm : may R C
  · have hq := mayEyes hm
    have h1 : nearR R C r = max 0 (min r (R - 1)) := if_pos hm
    have h2 : nearC R C c = max 0 (min c (C - 1)) := if_pos hm
    rw [h1, h2]
    have e1 : IntKind.i64.wrap (R - 1) = R - 1 := IntWalk.i64_in _ ⟨by have := hm.1; omega, by have := hm.2.1; omega⟩
    have e2 : IntKind.i64.wrap (C - 1) = C - 1 := IntWalk.i64_in _ ⟨by have := hm.2.2.1; omega, by have := hm.2.2.2; omega⟩
    clear h1 h2 hm
    go_enter Try.func47, Try.ntmps47
    go_wp2_with fail
    refine (may_any R C _).mono ?_
    rintro e w1 ⟨rfl, hk1⟩
    rw [hq]
    clear hq
    have hs : Two w1 w.heap.size R C := (Two.of (heap_old _ _ (heap_old _ _ (heap_new _ _)))).kept0 hk1
    have hp : Two w1 (w.heap.size + 1) r c := (Two.of (heap_old _ _ (heap_new2 _ _ _))).kept0 hk1
    have ho : Two w1 (w.heap.size + 1 + 1) 0 0 := (Two.of (heap_newC _ _ _ _)).kept0 hk1
    have hk : Kept0 w w1 := ((((Kept.refl _ w).alloc _).alloc _).alloc _).trans hk1
    obtain ⟨s0, s1, s2, s3⟩ := hs
    obtain ⟨p0, p1, p2, p3⟩ := hp
    obtain ⟨o0, o1, o2, o3⟩ := ho
    clear hk1
    have n1 : ¬ (w.heap.size = w.heap.size + 1 + 1) := by omega
    have n2 : ¬ (w.heap.size + 1 + 1 = w.heap.size) := by omega
    go_wp2_with fail
    go_region_held3 (fun w' => w'.cell? ⟨w.heap.size, 0, none⟩ = some (.int .i64 R) ∧ w'.cell? ⟨w.heap.size, 1, none⟩ = some (.int .i64 C) ∧ w'.cell? ⟨w.heap.size + 1, 0, none⟩ = some (.int .i64 r) ∧ w'.cell? ⟨w.heap.size + 1, 1, none⟩ = some (.int .i64 c)) (go_keep)
     (first | (go_at_call 61; refine (wbound_any _ _ _ _).mono ?_; rintro e w2 ⟨rfl, rfl⟩))
    go_wp2_with fail
    exact bodyPost_ret (v := pos (max 0 (min r (R - 1))) (max 0 (min c (C - 1)))) (by simp [results, Try.results47, go_sem, *]) rfl ⟨rfl, ((hk.setCell _ (Or.inl (Nat.le_add_right _ 2)) _).setCell _ (Or.inl (Nat.le_add_right _ 2)) _).drew⟩
  · have hq := mayEno hm
    have h1 : nearR R C r = 0 := if_neg hm
    have h2 : nearC R C c = 0 := if_neg hm
    rw [h1, h2]
    clear h1 h2 hm
    go_enter Try.func47, Try.ntmps47
    go_wp2_with fail
    refine (may_any R C _).mono ?_
    rintro e w1 ⟨rfl, hk1⟩
    rw [hq]
    clear hq
    have ho : Two w1 (w.heap.size + 1 + 1) 0 0 := (Two.of (heap_newC _ _ _ _)).kept0 hk1
    have hk : Kept0 w w1 := ((((Kept.refl _ w).alloc _).alloc _).alloc _).trans hk1
    obtain ⟨o0, o1, o2, o3⟩ := ho
    clear hk1
    go_wp2_with fail
    exact bodyPost_ret (v := pos 0 0) (by simp [results, Try.results47, go_sem, *]) rfl ⟨rfl, ((hk.setCell _ (Or.inl (Nat.le_add_right _ 2)) _).setCell _ (Or.inl (Nat.le_add_right _ 2)) _)⟩

set_option maxHeartbeats 1000000 in
theorem refNear_any (R C r c : Int) (hm : may R C) (w : World) :
    Calls Try.prog 38 #[pos R C, pos r c] w fun e w' => e = .returned (pos (nr r R) (nr c C)) ∧ Kept0 w w' := by
  have c1 := hm.1
  have c2 := hm.2.1
  have c3 := hm.2.2.1
  have c4 := hm.2.2.2
  go_enter Try.func38, Try.ntmps38
  go_wp2_with fail
  go_region_held3 (fun w' => w'.cell? ⟨w.heap.size, 0, none⟩ = some (.int .i64 R) ∧ w'.cell? ⟨w.heap.size, 1, none⟩ = some (.int .i64 C) ∧ w'.cell? ⟨w.heap.size + 1, 0, none⟩ = some (.int .i64 r) ∧ w'.cell? ⟨w.heap.size + 1, 1, none⟩ = some (.int .i64 c)) (go_keep)
     (first | (go_at_call 56; refine (refnear_any _ _ (by assumption) (by assumption) _).mono ?_; rintro e w2 ⟨rfl, rfl⟩))
  go_wp2_with fail
  exact bodyPost_ret (v := pos (nr r R) (nr c C)) (by simp [results, Try.results38, go_sem]) rfl ⟨rfl, ((((Kept.refl _ w).alloc _).alloc _).alloc _).drew⟩

end Go.Proofs.Ytkdnjkcebfckiaa
