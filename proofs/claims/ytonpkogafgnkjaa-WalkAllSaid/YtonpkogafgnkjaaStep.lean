/-
  Step, of the package and of the document.
-/
import Derived.Test.YtonpkogafgnkjaaNear
import Derived.StillTailTactics
namespace Go.Proofs.Ytonpkogafgnkjaa
open Go.RowKit

theorem cut_in (x m : Int) (h : 0 ≤ m) : -m ≤ cut x m ∧ cut x m ≤ m := by unfold cut; omega

set_option maxHeartbeats 1000000 in
theorem refStep_any (R C r c a b : Int) (hm : may R C) (w : World) :
    Calls Try.prog 14 #[pos R C, pos r c, .int .i64 a, .int .i64 b] w fun e w' => e = .returned (pos (nr (nr r R + cut a 1000) R) (nr (nr c C + cut b 1000) C)) ∧ Kept0 w w' := by
  have e1 : IntKind.i64.wrap (nr r R + cut a 1000) = nr r R + cut a 1000 := IntWalk.i64_in _ (by have := cut_in a 1000 (by omega); have := nr_lo r R; have := nr_hi r R hm.1; have := hm.2.1; constructor <;> omega)
  have e2 : IntKind.i64.wrap (nr c C + cut b 1000) = nr c C + cut b 1000 := IntWalk.i64_in _ (by have := cut_in b 1000 (by omega); have := nr_lo c C; have := nr_hi c C hm.2.2.1; have := hm.2.2.2; constructor <;> omega)
  have HM := Lib.hid hm
  clear hm
  go_enter Try.func14, Try.ntmps14
  go_wp2_with fail
  refine (refNear_any _ _ _ _ HM.out _).mono ?_
  rintro e w1 ⟨rfl, hk1⟩
  have hs : Two w1 w.heap.size R C := (Two.of (heap_old _ _ (heap_old _ _ (heap_new _ _)))).kept0 hk1
  have ho : Two w1 (w.heap.size + 1 + 1) 0 0 := (Two.of (heap_new3 _ _ _ _)).kept0 hk1
  have hk : Kept0 w w1 := ((((Kept.refl _ w).alloc _).alloc _).alloc _).trans hk1
  have hz := hk1.size
  have s0 := hs.c0
  have s1 := hs.c1
  simp only [World.size_alloc] at hz
  clear hk1
  go_wp2_with fail
  have hq : Two (w1.alloc (Obj.cells #[Value.int IntKind.i64 (nr r R), Value.int IntKind.i64 (nr c C)] 25)) w1.heap.size (nr r R) (nr c C) := Two.of (heap_new _ _)
  have hs : Two (w1.alloc (Obj.cells #[Value.int IntKind.i64 (nr r R), Value.int IntKind.i64 (nr c C)] 25)) w.heap.size R C := hs.kept0 ((Kept.refl _ _).alloc _)
  have ho : Two (w1.alloc (Obj.cells #[Value.int IntKind.i64 (nr r R), Value.int IntKind.i64 (nr c C)] 25)) (w.heap.size + 1 + 1) 0 0 := ho.kept0 ((Kept.refl _ _).alloc _)
  have hk := hk.alloc (Obj.cells #[Value.int IntKind.i64 (nr r R), Value.int IntKind.i64 (nr c C)] 25)
  generalize (w1.alloc (Obj.cells #[Value.int IntKind.i64 (nr r R), Value.int IntKind.i64 (nr c C)] 25)) = W at hq hs ho hk ⊢
  generalize w1.heap.size = q at hz hq ⊢
  clear s0 s1
  obtain ⟨s0, s1, _, _⟩ := hs
  obtain ⟨o0, o1, o2, o3⟩ := ho
  obtain ⟨q0, q1, _, _⟩ := hq
  have n1 : ¬ (w.heap.size = w.heap.size + 1 + 1) := by omega
  have n2 : ¬ (w.heap.size + 1 + 1 = w.heap.size) := by omega
  have n3 : ¬ (q = w.heap.size + 1 + 1) := by omega
  have n4 : ¬ (w.heap.size + 1 + 1 = q) := by omega
  have HK := Lib.hid hk
  have HT := Lib.hid (show Two W (w.heap.size + 1 + 1) 0 0 from ⟨o0, o1, o2, o3⟩)
  clear hk
  go_region_held3 (fun w' => w'.cell? ⟨w.heap.size, 0, none⟩ = some (.int .i64 R) ∧ w'.cell? ⟨w.heap.size, 1, none⟩ = some (.int .i64 C) ∧ w'.cell? ⟨q, 0, none⟩ = some (.int .i64 (nr r R)) ∧ w'.cell? ⟨q, 1, none⟩ = some (.int .i64 (nr c C))) (go_keep)
     (first
       | (go_at_call 25; refine (far_any _ _).mono ?_; rintro e w2 ⟨rfl, rfl⟩)
       | (go_at_call 13; refine (refNear_any _ _ _ _ HM.out _).mono ?_; rintro e w2 ⟨rfl, hk2⟩; have z0 := kcell hk2 s0; have z1 := kcell hk2 s1; have z2 := kcell hk2 q0; have z3 := kcell hk2 q1; obtain ⟨t0, t1, t2, t3⟩ := HT.out.kept0 ((Kept.refl _ _).drew.trans hk2)))
  go_wp2_with fail
  have hk := HK.out
  have hl := HT.out.lt
  exact bodyPost_ret (v := pos (nr (nr r R + cut a 1000) R) (nr (nr c C + cut b 1000) C)) (by simp [results, Try.results14, go_sem, *]) rfl ⟨rfl, (((hk.drew.trans hk2).setCell _ (Or.inl (Nat.le_add_right _ 2)) _).setCell _ (Or.inl (Nat.le_add_right _ 2)) _)⟩

theorem nearR_in (R C r : Int) : 0 ≤ nearR R C r ∧ nearR R C r ≤ 254 := by
  unfold nearR
  split
  · rename_i h
    have := nr_lo r R
    have := nr_hi r R h.1
    have := h.2.1
    omega
  · omega
theorem nearC_in (R C r : Int) : 0 ≤ nearC R C r ∧ nearC R C r ≤ 254 := by
  unfold nearC
  split
  · rename_i h
    have := nr_lo r C
    have := nr_hi r C h.2.2.1
    have := h.2.2.2
    omega
  · omega
theorem boundC_any (n : Int) (w : World) :
    Calls Try.prog 22 #[.int .i64 n, .int .i64 (-255), .int .i64 255] w fun e w' => e = .returned (.int .i64 (cut n 255)) ∧ w = w' := bound_any n (-255) 255 w

theorem boundS_any (n : Int) (w : World) :
    Calls Try.prog 22 #[.int .i64 n, .int .i64 (-255), .int .i64 255] w fun e w' => e = .returned (.int .i64 (cut n 255)) ∧ w' = w := (bound_any n (-255) 255 w).mono fun _ _ ⟨h, k⟩ => ⟨h, k.symm⟩

set_option maxHeartbeats 1000000 in
theorem step_any (R C r c a b : Int) (v : Bool) (w : World) :
    Calls Try.prog 10 #[pos R C, place r c v, .int .i64 a, .int .i64 b] w fun e w' => e = .returned (place (nearR R C (nearR R C r + cut a 255)) (nearC R C (nearC R C c + cut b 255)) false) ∧ Kept0 w w' := by
  obtain ⟨A, hA⟩ : ∃ A, A = nearR R C r + cut a 255 := ⟨_, rfl⟩
  obtain ⟨B, hB⟩ : ∃ B, B = nearC R C c + cut b 255 := ⟨_, rfl⟩
  have e1 : IntKind.i64.wrap (nearR R C r + cut a 255) = A := by rw [hA]; exact IntWalk.i64_in _ (by have := cut_in a 255 (by omega); have := nearR_in R C r; constructor <;> omega)
  have e2 : IntKind.i64.wrap (nearC R C c + cut b 255) = B := by rw [hB]; exact IntWalk.i64_in _ (by have := cut_in b 255 (by omega); have := nearC_in R C c; constructor <;> omega)
  rw [← hA, ← hB]
  clear hA hB
  go_enter Try.func10, Try.ntmps10
  go_wp2_with fail
  refine (near_any _ _ _ _ _).mono ?_
  rintro e w1 ⟨rfl, hk1⟩
  have hs : Two w1 w.heap.size R C := (Two.of (heap_old _ _ (heap_old _ _ (heap_new _ _)))).kept0 hk1
  have ho : Three w1 (w.heap.size + 1 + 1) 0 0 false := (Three.of (heap_new3 _ _ _ _)).kept0 hk1
  have hk : Kept0 w w1 := ((((Kept.refl _ w).alloc _).alloc _).alloc _).trans hk1
  have hz := hk1.size
  simp only [World.size_alloc] at hz
  clear hk1
  generalize nearR R C r = p at *
  generalize nearC R C c = q at *
  go_wp2_with fail
  have hl := ho.lt
  have hl2 := hs.lt
  have hs := hs.kept0 ((Kept.refl _ w1).alloc (Obj.cells #[Value.int IntKind.i64 p, Value.int IntKind.i64 q, Value.bool false] 27))
  have ho := ho.kept0 ((Kept.refl _ w1).alloc (Obj.cells #[Value.int IntKind.i64 p, Value.int IntKind.i64 q, Value.bool false] 27))
  have hat : Three (w1.alloc (Obj.cells #[Value.int IntKind.i64 p, Value.int IntKind.i64 q, Value.bool false] 27)) w1.heap.size p q false := Three.of (heap_new _ _)
  have hk := hk.alloc (Obj.cells #[Value.int IntKind.i64 p, Value.int IntKind.i64 q, Value.bool false] 27)
  generalize (w1.alloc (Obj.cells #[Value.int IntKind.i64 p, Value.int IntKind.i64 q, Value.bool false] 27)) = W at *
  generalize w1.heap.size = at0 at *
  obtain ⟨t0, t1, t2, t3, t4, t5⟩ := hat
  go_still_tail 8, (by kernel_rfl)
  still_call (boundS_any a _)
  repeat still_step
  refine wpStill_nil ?_
  change wpList _ _ _ _ _ W.drew
  go_wp2_with fail
  have n1 : ¬ (at0 = w.heap.size) := by omega
  have n2 : ¬ (w.heap.size = at0) := by omega
  have n3 : ¬ (at0 = w.heap.size + 1 + 1) := by omega
  have n4 : ¬ (w.heap.size + 1 + 1 = at0) := by omega
  have kw := Kept.set1d W at0 0 (Value.int IntKind.i64 A)
  have hs := hs.kept kw n2
  have ho := ho.kept kw n4
  have hat := (Three.set0 (show Three W at0 p q false from ⟨t0, t1, t2, t3, t4, t5⟩) A).drew
  have hk := hk.later kw (fun i hi e => by omega)
  clear t0 t1 t2 t3 t4 t5 kw
  generalize (W.setCell ⟨at0, 0, none⟩ (Value.int IntKind.i64 A)).drew = W2 at *
  obtain ⟨t0, t1, t2, t3, t4, t5⟩ := hat
  go_still_tail 8, (by kernel_rfl)
  still_call (boundS_any b _)
  repeat still_step
  refine wpStill_nil ?_
  change wpList _ _ _ _ _ W2.drew
  obtain ⟨s0, s1, _, _⟩ := hs
  go_wp2_with fail
  have hs : Two W2 w.heap.size R C := ⟨s0, s1, by assumption, by assumption⟩
  have kw := Kept.set1d W2 at0 1 (Value.int IntKind.i64 B)
  have hs := hs.kept kw n2
  have ho := ho.kept kw n4
  have hat := (Three.set1 (show Three W2 at0 A q false from ⟨t0, t1, t2, t3, t4, t5⟩) B).drew
  have hk := hk.later kw (fun i hi e => by omega)
  clear t0 t1 t2 t3 t4 t5 kw
  refine (near_any _ _ _ _ _).mono ?_
  rintro e w5 ⟨rfl, hk5⟩
  have ho := ho.kept0 hk5
  have hat := hat.kept0 hk5
  have hk := hk.trans hk5
  clear hk5
  obtain ⟨t0, t1, t2, t3, t4, t5⟩ := hat
  obtain ⟨o0, o1, o2, o3, o4, o5⟩ := ho
  go_wp2_with fail
  have q1 : w.heap.size ≤ at0 := by omega
  have q2 : w.heap.size ≤ w.heap.size + 1 + 1 := by omega
  exact bodyPost_ret (v := place (nearR R C A) (nearC R C B) false) (by simp [results, Try.results10, go_sem, *]) rfl ⟨rfl, ((((hk.setCell ⟨at0, 0, none⟩ (Or.inl q1) _).setCell ⟨at0, 1, none⟩ (Or.inl q1) _).setCell ⟨w.heap.size + 1 + 1, 0, none⟩ (Or.inl q2) _).setCell ⟨w.heap.size + 1 + 1, 1, none⟩ (Or.inl q2) _).setCell ⟨w.heap.size + 1 + 1, 2, none⟩ (Or.inl q2) _⟩

end Go.Proofs.Ytonpkogafgnkjaa
