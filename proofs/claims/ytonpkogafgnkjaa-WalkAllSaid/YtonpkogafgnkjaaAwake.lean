/-
  The chapter's examples.
-/
import Derived.Test.YtonpkogafgnkjaaBehind
namespace Go.Proofs.Ytonpkogafgnkjaa
open Go.RowKit

theorem awake_step (w : World) : Calls Try.prog 10 #[pos 2 3, place 0 2 false, .int .i64 5, .int .i64 (-1)] w fun e w' => e = .returned (place 1 1 false) ∧ Kept0 w w' :=
  (step_any 2 3 0 2 5 (-1) false w).mono fun _ _ h => h
theorem awake_auto (w : World) : Calls Try.prog 16 #[pos 2 3, pos 1 2, .int .i64 2] w fun e w' => e = .returned (.tuple #[place 1 0 false, .bool true]) ∧ Kept0 w w' :=
  (behind_core 2 3 1 2 2 (by decide) false false true (by decide) (by decide) (by decide) w).mono fun _ _ h => h
theorem awake_pend (w : World) : Calls Try.prog 16 #[pos 2 3, pos 1 2, .int .i64 3] w fun e w' => e = .returned (.tuple #[place 1 2 true, .bool false]) ∧ Kept0 w w' :=
  (behind_core 2 3 1 2 3 (by decide) false false false (by decide) (by decide) (by decide) w).mono fun _ _ h => h

set_option maxHeartbeats 2000000 in
theorem awake_any (w : World) : Calls Try.prog 12 #[] w fun e w' => e = .returned (.bool true) ∧ Kept0 w w' := by
  go_enter Try.func12, Try.ntmps12
  go_wp2_with fail
  refine (awake_step _).mono ?_
  rintro e w1 ⟨rfl, hk1⟩
  have hs : Two w1 w.heap.size 2 3 := (Two.of (heap_new _ _)).kept0 hk1
  have hk : Kept0 w w1 := ((Kept.refl _ w).alloc _).trans hk1
  have l1 := hs.lt
  have s0 := hs.c0
  have s1 := hs.c1
  clear hk1
  go_wp2_with fail
  refine (awake_auto _).mono ?_
  rintro e w2 ⟨rfl, hk2⟩
  have ha : Three w2 w1.heap.size 1 1 false := (Three.of (heap_new _ _)).kept0 hk2
  have kk := ((Kept.refl (fun _ => False) w1).alloc _).trans hk2
  have hs := hs.kept0 kk
  have hk := hk.trans kk
  have l1 := hs.lt
  have l2 := ha.lt
  clear hk2 kk s0 s1
  have s0 := hs.c0
  have s1 := hs.c1
  generalize w1.heap.size = a1 at *
  go_wp2_with fail
  refine (awake_pend _).mono ?_
  rintro e w3 ⟨rfl, hk3⟩
  have hb : Three w3 w2.heap.size 1 0 false := (Three.of (heap_new _ _)).kept0 hk3
  have kk := ((Kept.refl (fun _ => False) w2).alloc _).trans hk3
  have ha := ha.kept0 kk
  have hk := hk.trans kk
  have l2 := ha.lt
  have l3 := hb.lt
  clear hk3 kk s0 s1 hs
  generalize w2.heap.size = a2 at *
  obtain ⟨x0, x1, x2, x3, x4, x5⟩ := ha
  obtain ⟨y0, y1, y2, y3, y4, y5⟩ := hb
  go_wp2_with fail
  go_ret
  exact ⟨rfl, hk.alloc _⟩

end Go.Proofs.Ytonpkogafgnkjaa
