/-
  Behind, of the package and of the document.
-/
import Derived.Test.YtkdnjkcebfckiaaAhead
namespace Go.Proofs.Ytkdnjkcebfckiaa
open Go.RowKit

set_option maxHeartbeats 1000000 in
/-- Of a size that may not be. -/
theorem behind_no (R C r c k : Int) (hm : ¬ may R C) (w : World) :
    Calls Try.prog 37 #[pos R C, pos r c, .int .i64 k] w fun e w' => e = .returned (.tuple #[place 0 0 false, .bool false]) ∧ Kept0 w w' := by
  have HQ := Lib.hid (mayEno hm)
  clear hm
  go_enter Try.func37, Try.ntmps37
  go_wp2_with fail
  refine (may_any _ _ _).mono ?_
  rintro e w1 ⟨rfl, hk1⟩
  rw [HQ.out]
  have ho : Three w1 (w.heap.size + 1 + 1) 0 0 false := (Three.of (heap_newC _ _ _ _)).kept0 hk1
  have hk : Kept0 w w1 := ((((Kept.refl _ w).alloc _).alloc _).alloc _).trans hk1
  clear hk1
  obtain ⟨o0, o1, o2, o3, o4, o5⟩ := ho
  have q2 : w.heap.size ≤ w.heap.size + 1 + 1 := by omega
  go_wp2_with fail
  exact bodyPost_ret (v := .tuple #[place 0 0 false, .bool false]) (by simp [results, Try.results37, go_sem, *]) rfl ⟨rfl, ((hk.setCell _ (Or.inl q2) _).setCell _ (Or.inl q2) _).setCell _ (Or.inl q2) _⟩

/-- What Behind answers, by whether the last column is reached, and by the way to wrap. -/
def behindV (R p q : Int) (b b1 b2 : Bool) : Value :=
  if b then .tuple #[place p (q + 1) false, .bool false]
  else if b1 then .tuple #[place p q false, .bool false]
  else if b2 then .tuple #[place (nextR R p) 0 false, .bool (p == R - 1)]
  else .tuple #[place p q true, .bool false]

set_option maxHeartbeats 2000000 in
theorem behind_core (R C r c k : Int) (hm : may R C) (b b1 b2 : Bool) (h : decide (nr c C < C - 1) = b) (h1 : (k == 1) = b1) (h2 : (k == 2) = b2) (w : World) :
    Calls Try.prog 37 #[pos R C, pos r c, .int .i64 k] w fun e w' => e = .returned (behindV R (nr r R) (nr c C) b b1 b2) ∧ Kept0 w w' := by
  have HQ := Lib.hid (mayEyes hm)
  have HG1 := Lib.hid (show nearR R C r = nr r R from if_pos hm)
  have HG2 := Lib.hid (show nearC R C c = nr c C from if_pos hm)
  have HM := Lib.hid hm
  have e1 : IntKind.i64.wrap (C - 1) = C - 1 := IntWalk.i64_in _ (by have := hm.2.2.1; have := hm.2.2.2; constructor <;> omega)
  have e2 : IntKind.i64.wrap (nr c C + 1) = nr c C + 1 := IntWalk.i64_in _ (by have := nr_lo c C; have := nr_hi c C hm.2.2.1; have := hm.2.2.2; constructor <;> omega)
  clear hm
  go_enter Try.func37, Try.ntmps37
  go_wp2_with fail
  refine (may_any _ _ _).mono ?_
  rintro e w1 ⟨rfl, hk1⟩
  rw [HQ.out]
  have hs : Two w1 w.heap.size R C := (Two.of (heap_old _ _ (heap_old _ _ (heap_new _ _)))).kept0 hk1
  have hp : Two w1 (w.heap.size + 1) r c := (Two.of (heap_old _ _ (heap_new2 _ _ _))).kept0 hk1
  have ho : Three w1 (w.heap.size + 1 + 1) 0 0 false := (Three.of (heap_newC _ _ _ _)).kept0 hk1
  have hk : Kept0 w w1 := ((((Kept.refl _ w).alloc _).alloc _).alloc _).trans hk1
  clear hk1
  have g0 := hs.c0
  have g1 := hs.c1
  have g2 := hp.c0
  have g3 := hp.c1
  go_wp2_with fail
  refine (near_any _ _ _ _ _).mono ?_
  rintro e w2 ⟨rfl, hk2⟩
  rw [HG1.out, HG2.out]
  clear g0 g1 g2 g3
  have hs := hs.kept0 hk2
  have ho := ho.kept0 hk2
  have hk := hk.trans hk2
  have l1 := hs.lt
  have l2 := ho.lt
  clear hp hk2
  obtain ⟨s0, s1, s2, s3⟩ := hs
  obtain ⟨o0, o1, o2, o3, o4, o5⟩ := ho
  have q2 : w.heap.size ≤ w.heap.size + 1 + 1 := by omega
  have hA : ∀ o o', Three ((w2.alloc o).alloc o') (w.heap.size + 1 + 1) 0 0 false := fun o o' => Three.kept0 ⟨o0, o1, o2, o3, o4, o5⟩ (((Kept.refl _ w2).alloc o).alloc o')
  have u0 := fun o o' => (hA o o').c0
  have u1 := fun o o' => (hA o o').c1
  have u2 := fun o o' => (hA o o').c2
  have u3 := fun o o' => (hA o o').f0
  have u4 := fun o o' => (hA o o').f1
  have u5 := fun o o' => (hA o o').f2
  have hB : ∀ o o', Two ((w2.alloc o).alloc o') w.heap.size R C := fun o o' => Two.kept0 ⟨s0, s1, s2, s3⟩ (((Kept.refl _ w2).alloc o).alloc o')
  have u6 := fun o o' => (hB o o').c0
  have u7 := fun o o' => (hB o o').c1
  clear hA hB
  cases b
  · cases b1
    · cases b2
      · go_wp2_with fail
        exact bodyPost_ret (v := .tuple #[place (nr r R) (nr c C) true, .bool false]) (by simp [results, Try.results37, go_sem, *]) rfl ⟨rfl, ((((hk.alloc _).alloc _).setCell _ (Or.inl q2) _).setCell _ (Or.inl q2) _).setCell _ (Or.inl q2) _⟩
      · go_wp2_with fail
        refine (ahead_pend _ _ _ _ HM.out _).mono ?_
        rintro e w3 ⟨rfl, hk3⟩
        rw [nr_nr _ _ HM.out.1]
        have kk := (((Kept.refl (fun _ => False) w2).alloc _).alloc _).trans hk3
        have ho : Three w3 (w.heap.size + 1 + 1) 0 0 false := Three.kept0 ⟨o0, o1, o2, o3, o4, o5⟩ kk
        have hk := hk.trans kk
        have l3 := ho.lt
        clear o0 o1 o2 o3 o4 o5 s0 s1 s2 s3
        obtain ⟨o0, o1, o2, o3, o4, o5⟩ := ho
        go_wp2_with fail
        exact bodyPost_ret (v := .tuple #[place (nextR R (nr r R)) 0 false, .bool (nr r R == R - 1)]) (by simp [results, Try.results37, go_sem, *]) rfl ⟨rfl, (((hk.setCell _ (Or.inl q2) _).setCell _ (Or.inl q2) _).setCell _ (Or.inl q2) _).alloc _⟩
    · go_wp2_with fail
      exact bodyPost_ret (v := .tuple #[place (nr r R) (nr c C) false, .bool false]) (by simp [results, Try.results37, go_sem, *]) rfl ⟨rfl, ((((hk.alloc _).alloc _).setCell _ (Or.inl q2) _).setCell _ (Or.inl q2) _).setCell _ (Or.inl q2) _⟩
  · go_wp2_with fail
    exact bodyPost_ret (v := .tuple #[place (nr r R) (nr c C + 1) false, .bool false]) (by simp [results, Try.results37, go_sem, *]) rfl ⟨rfl, (((hk.setCell _ (Or.inl q2) _).setCell _ (Or.inl q2) _).setCell _ (Or.inl q2) _).alloc _⟩

/-- What the document's Behind answers. -/
def refBehindV (R p q : Int) (b b1 b2 : Bool) : Value :=
  if b then .tuple #[pos p (q + 1), .bool false, .bool false]
  else if b1 then .tuple #[pos p q, .bool false, .bool false]
  else if b2 then .tuple #[pos (nextR R p) 0, .bool false, .bool (p == R - 1)]
  else .tuple #[pos p q, .bool true, .bool false]

set_option maxHeartbeats 2000000 in
theorem refBehind_core (R C r c k : Int) (hm : may R C) (b b1 b2 : Bool) (h : decide (nr c C < C - 1) = b) (h1 : (k == 1) = b1) (h2 : (k == 2) = b2) (w : World) :
    Calls Try.prog 42 #[pos R C, pos r c, .int .i64 k] w fun e w' => e = .returned (refBehindV R (nr r R) (nr c C) b b1 b2) ∧ Kept0 w w' := by
  have HM := Lib.hid hm
  have e1 : IntKind.i64.wrap (C - 1) = C - 1 := IntWalk.i64_in _ (by have := hm.2.2.1; have := hm.2.2.2; constructor <;> omega)
  have e2 : IntKind.i64.wrap (nr c C + 1) = nr c C + 1 := IntWalk.i64_in _ (by have := nr_lo c C; have := nr_hi c C hm.2.2.1; have := hm.2.2.2; constructor <;> omega)
  clear hm
  go_enter Try.func42, Try.ntmps42
  go_wp2_with fail
  refine (refNear_any _ _ _ _ HM.out _).mono ?_
  rintro e w2 ⟨rfl, hk2⟩
  have hs : Two w2 w.heap.size R C := (Two.of (heap_old _ _ (heap_old _ _ (heap_new _ _)))).kept0 hk2
  have ho : Two w2 (w.heap.size + 1 + 1) 0 0 := (Two.of (heap_newC _ _ _ _)).kept0 hk2
  have hk : Kept0 w w2 := ((((Kept.refl _ w).alloc _).alloc _).alloc _).trans hk2
  have l1 := hs.lt
  have l2 := ho.lt
  clear hk2
  obtain ⟨s0, s1, s2, s3⟩ := hs
  obtain ⟨o0, o1, o2, o3⟩ := ho
  have q2 : w.heap.size ≤ w.heap.size + 1 + 1 := by omega
  cases b
  · cases b1
    · cases b2
      · go_wp2_with fail
        exact bodyPost_ret (v := .tuple #[pos (nr r R) (nr c C), .bool true, .bool false]) (by simp [results, Try.results42, go_sem, *]) rfl ⟨rfl, ((hk.setCell _ (Or.inl q2) _).setCell _ (Or.inl q2) _).alloc _⟩
      · go_wp2_with fail
        refine (refNext_any _ _ _ _ HM.out.1 HM.out.2.1 (nr_lo _ _) (nr_hi _ _ HM.out.1) _).mono ?_
        rintro e w3 ⟨rfl, hk3⟩
        have kk := ((Kept.refl (fun _ => False) w2).alloc _).trans hk3
        have ho : Two w3 (w.heap.size + 1 + 1) 0 0 := Two.kept0 ⟨o0, o1, o2, o3⟩ kk
        have hk := hk.trans kk
        have l3 := ho.lt
        clear o0 o1 o2 o3 s0 s1 s2 s3
        obtain ⟨o0, o1, o2, o3⟩ := ho
        go_wp2_with fail
        exact bodyPost_ret (v := .tuple #[pos (nextR R (nr r R)) 0, .bool false, .bool (nr r R == R - 1)]) (by simp [results, Try.results42, go_sem, *]) rfl ⟨rfl, ((hk.setCell _ (Or.inl q2) _).setCell _ (Or.inl q2) _).alloc _⟩
    · go_wp2_with fail
      exact bodyPost_ret (v := .tuple #[pos (nr r R) (nr c C), .bool false, .bool false]) (by simp [results, Try.results42, go_sem, *]) rfl ⟨rfl, ((hk.setCell _ (Or.inl q2) _).setCell _ (Or.inl q2) _).alloc _⟩
  · go_wp2_with fail
    exact bodyPost_ret (v := .tuple #[pos (nr r R) (nr c C + 1), .bool false, .bool false]) (by simp [results, Try.results42, go_sem, *]) rfl ⟨rfl, ((hk.setCell _ (Or.inl q2) _).setCell _ (Or.inl q2) _).alloc _⟩

end Go.Proofs.Ytkdnjkcebfckiaa
