/-
  WalkSteps: which place is the nearest one, and which one is so many rows and columns on.
-/
import Derived.Test.YtonpkogafgnkjaaAwake
namespace Go.Proofs.Ytonpkogafgnkjaa
open Go.RowKit

/-- A call answers v, in every world, and keeps all. -/
def Says (f : Nat) (args : Array Value) (v : Value) : Prop := ∀ w, Calls Try.prog f args w fun e w' => e = .returned v ∧ Kept0 w w'

set_option maxHeartbeats 4000000 in
set_option maxRecDepth 100000 in
theorem steps_core (R C r c x y : Int) (v : Bool) (X1 X2 Y1 Y2 : Int) (m : Bool) (hM : Says 11 #[pos R C] (.bool m)) (hN : Says 9 #[pos R C, pos r c] (pos X1 X2)) (hS : Says 10 #[pos R C, place r c v, .int .i64 x, .int .i64 y] (place Y1 Y2 false))
    (hRN : m = true → Says 13 #[pos R C, pos r c] (pos X1 X2)) (hRS : m = true → Says 14 #[pos R C, pos r c, .int .i64 x, .int .i64 y] (pos Y1 Y2)) (hz : m = false → X1 = 0 ∧ X2 = 0 ∧ Y1 = 0 ∧ Y2 = 0) (w : World) :
    Calls Try.prog 3 #[pos R C, place r c v, pos x y] w fun e w' => e = .returned (.bool true) ∧ Kept0 w w' := by
  have HM := Lib.hid hM
  have HN := Lib.hid hN
  have HS := Lib.hid hS
  have HRN := Lib.hid hRN
  have HRS := Lib.hid hRS
  have HZ := Lib.hid hz
  clear hM hN hS hRN hRS hz
  go_enter Try.func3, Try.ntmps3
  go_wp2_with fail
  refine (HN.out _).mono ?_
  rintro e w1 ⟨rfl, hk1⟩
  have hs : Two w1 w.heap.size R C := (Two.of (heap_old _ _ (heap_old _ _ (heap_new _ _)))).kept0 hk1
  have hp : Three w1 (w.heap.size + 1) r c v := (Three.of (heap_old _ _ (heap_new2 _ _ _))).kept0 hk1
  have ht : Two w1 (w.heap.size + 1 + 1) x y := (Two.of (heap_new3 _ _ _ _)).kept0 hk1
  have hk : Kept0 w w1 := ((((Kept.refl _ w).alloc _).alloc _).alloc _).trans hk1
  clear hk1
  have l1 := ht.lt
  have l2 := hs.lt
  have l3 := hp.lt
  have s0 := hs.c0
  have s1 := hs.c1
  have p0 := hp.c0
  have p1 := hp.c1
  have p2 := hp.c2
  have t0 := ht.c0
  have t1 := ht.c1
  go_wp2_with fail
  refine (HS.out _).mono ?_
  rintro e w2 ⟨rfl, hk2⟩
  have ha : Two w2 w1.heap.size X1 X2 := (Two.of (heap_new _ _)).kept0 hk2
  have kk := ((Kept.refl (fun _ => False) w1).alloc _).trans hk2
  have hs := hs.kept0 kk
  have hp := hp.kept0 kk
  have ht := ht.kept0 kk
  have hk := hk.trans kk
  clear hk2 kk s0 s1 p0 p1 p2 t0 t1 l1 l2 l3
  generalize w1.heap.size = a1 at *
  have l1 := ht.lt
  have l2 := hs.lt
  have l3 := hp.lt
  have l4 := ha.lt
  have s0 := hs.c0
  have s1 := hs.c1
  go_wp2_with fail
  refine (HM.out _).mono ?_
  rintro e w3 ⟨rfl, hk3⟩
  have hb : Three w3 w2.heap.size Y1 Y2 false := (Three.of (heap_new _ _)).kept0 hk3
  have kk := ((Kept.refl (fun _ => False) w2).alloc _).trans hk3
  have hs := hs.kept0 kk
  have hp := hp.kept0 kk
  have ht := ht.kept0 kk
  have ha := ha.kept0 kk
  have hk := hk.trans kk
  clear hk3 kk s0 s1 l1 l2 l3 l4
  generalize w2.heap.size = a2 at *
  obtain ⟨s0, s1, _, _⟩ := hs
  obtain ⟨p0, p1, p2, _, _, _⟩ := hp
  obtain ⟨t0, t1, _, _⟩ := ht
  obtain ⟨c0, c1, _, _⟩ := ha
  obtain ⟨b0, b1, b2, _, _, _⟩ := hb
  cases m
  · obtain ⟨rfl, rfl, rfl, rfl⟩ := HZ.out rfl
    go_wp2_with fail
    refine (awake_any _).mono ?_
    rintro e w4 ⟨rfl, hk4⟩
    go_wp2_with fail
    go_ret
    exact ⟨rfl, hk.trans hk4⟩
  · have H13 := Lib.hid (HRN.out rfl)
    have H14 := Lib.hid (HRS.out rfl)
    clear HRN HRS HZ
    go_wp2_with fail
    go_region_held3 (fun w' => w'.cell? ⟨w.heap.size, 0, none⟩ = some (.int .i64 R) ∧ w'.cell? ⟨w.heap.size, 1, none⟩ = some (.int .i64 C) ∧ w'.cell? ⟨w.heap.size + 1, 0, none⟩ = some (.int .i64 r) ∧ w'.cell? ⟨w.heap.size + 1, 1, none⟩ = some (.int .i64 c) ∧ w'.cell? ⟨w.heap.size + 1 + 1, 0, none⟩ = some (.int .i64 x) ∧ w'.cell? ⟨w.heap.size + 1 + 1, 1, none⟩ = some (.int .i64 y) ∧ w'.cell? ⟨a1, 0, none⟩ = some (.int .i64 X1) ∧ w'.cell? ⟨a1, 1, none⟩ = some (.int .i64 X2) ∧ w'.cell? ⟨a2, 0, none⟩ = some (.int .i64 Y1) ∧ w'.cell? ⟨a2, 1, none⟩ = some (.int .i64 Y2) ∧ w'.cell? ⟨a2, 2, none⟩ = some (.bool false))
      (first | exact ⟨s0, s1, p0, p1, t0, t1, c0, c1, b0, b1, b2⟩ | exact ⟨kcell kx s0, kcell kx s1, kcell kx p0, kcell kx p1, kcell kx t0, kcell kx t1, kcell kx c0, kcell kx c1, kcell kx b0, kcell kx b1, kcell kx b2⟩)
      (first
        | (go_at_call 13; refine (H13.out _).mono ?_; rintro e w5 ⟨rfl, hk5⟩; have kx : Kept0 w3 w5 := (Kept.refl _ w3).drew.trans hk5)
        | (go_at_call 14; refine (H14.out _).mono ?_; rintro e w6 ⟨rfl, hk6⟩; have kx : Kept0 w3 w6 := kx.trans hk6)
        | (go_at_call 12; refine (awake_any _).mono ?_; rintro e w7 ⟨rfl, hk7⟩; have kx : Kept0 w3 w7 := kx.trans hk7))
    go_wp2_with fail
    go_ret
    exact ⟨rfl, hk.trans kx⟩

/-- More than leads over any edge does not count. -/
theorem far_near (p n a : Int) (h0 : 0 ≤ p) (h1 : p < n) (h2 : n ≤ 255) : nr (p + cut a 255) n = nr (p + cut a 1000) n := by unfold nr cut; omega

theorem nearR_yes {R C : Int} (hm : may R C) (r : Int) : nearR R C r = nr r R := if_pos hm
theorem nearC_yes {R C : Int} (hm : may R C) (c : Int) : nearC R C c = nr c C := if_pos hm
theorem nearR_no {R C : Int} (hm : ¬ may R C) (r : Int) : nearR R C r = 0 := if_neg hm
theorem nearC_no {R C : Int} (hm : ¬ may R C) (c : Int) : nearC R C c = 0 := if_neg hm

theorem steps_calls (R C r c x y : Int) (v : Bool) (w : World) :
    Calls Try.prog 3 #[pos R C, place r c v, pos x y] w fun e w' => e = .returned (.bool true) ∧ Below w.heap.size w w' := by
  refine (steps_core R C r c x y v (nearR R C r) (nearC R C c) (nearR R C (nearR R C r + cut x 255)) (nearC R C (nearC R C c + cut y 255)) (decide (may R C)) (refMay_any R C) (near_any R C r c) (step_any R C r c x y v) ?_ ?_ ?_ w).mono fun e w' h => ⟨h.1, h.2.below⟩
  · intro h
    have hm : may R C := of_decide_eq_true h
    rw [nearR_yes hm, nearC_yes hm]
    exact refNear_any R C r c hm
  · intro h
    have hm : may R C := of_decide_eq_true h
    rw [nearR_yes hm, nearC_yes hm, nearR_yes hm, nearC_yes hm, far_near _ _ _ (nr_lo _ _) (nr_hi _ _ hm.1) hm.2.1, far_near _ _ _ (nr_lo _ _) (nr_hi _ _ hm.2.2.1) hm.2.2.2]
    exact refStep_any R C r c x y hm
  · intro h
    have hm : ¬ may R C := of_decide_eq_false h
    exact ⟨nearR_no hm _, nearC_no hm _, nearR_no hm _, nearC_no hm _⟩

end Go.Proofs.Ytonpkogafgnkjaa
