/-
  WalkWraps: where a glyph is to be put, and where the cursor is behind it, and whether the lines go up.
-/
import Derived.Test.YtonpkogafgnkjaaSteps
namespace Go.Proofs.Ytonpkogafgnkjaa
open Go.RowKit

set_option maxHeartbeats 4000000 in
set_option maxRecDepth 100000 in
theorem wraps_core (R C r c k : Int) (v : Bool) (A1 A2 B1 B2 N1 N2 : Int) (up bp go m : Bool) (hM : Says 11 #[pos R C] (.bool m)) (hA : Says 15 #[pos R C, place r c v] (.tuple #[pos A1 A2, .bool up])) (hB : Says 16 #[pos R C, pos r c, .int .i64 k] (.tuple #[place B1 B2 bp, .bool go]))
    (hRN : m = true → Says 13 #[pos R C, pos r c] (pos N1 N2)) (hRX : m = true → v = true → Says 17 #[pos R C, pos N1 N2] (.tuple #[pos A1 A2, .bool up])) (hv : m = true → v = false → A1 = N1 ∧ A2 = N2 ∧ up = false) (hRB : m = true → Says 18 #[pos R C, pos r c, .int .i64 k] (.tuple #[pos B1 B2, .bool bp, .bool go]))
    (hz : m = false → A1 = 0 ∧ A2 = 0 ∧ B1 = 0 ∧ B2 = 0 ∧ up = false ∧ bp = false ∧ go = false) (w : World) :
    Calls Try.prog 4 #[pos R C, place r c v, .int .i64 k] w fun e w' => e = .returned (.bool true) ∧ Kept0 w w' := by
  have HM := Lib.hid hM
  have HA := Lib.hid hA
  have HB := Lib.hid hB
  have HRN := Lib.hid hRN
  have HRX := Lib.hid hRX
  have HV := Lib.hid hv
  have HRB := Lib.hid hRB
  have HZ := Lib.hid hz
  clear hM hA hB hRN hRX hv hRB hz
  go_enter Try.func4, Try.ntmps4
  go_wp2_with fail
  refine (HA.out _).mono ?_
  rintro e w1 ⟨rfl, hk1⟩
  have hs : Two w1 w.heap.size R C := (Two.of (heap_old _ _ (heap_new _ _))).kept0 hk1
  have hp : Three w1 (w.heap.size + 1) r c v := (Three.of (heap_new2 _ _ _)).kept0 hk1
  have hk : Kept0 w w1 := (((Kept.refl _ w).alloc _).alloc _).trans hk1
  clear hk1
  have l2 := hs.lt
  have l3 := hp.lt
  have s0 := hs.c0
  have s1 := hs.c1
  have p0 := hp.c0
  have p1 := hp.c1
  go_wp2_with fail
  refine (HB.out _).mono ?_
  rintro e w2 ⟨rfl, hk2⟩
  have ha : Two w2 w1.heap.size A1 A2 := (Two.of (heap_new _ _)).kept0 hk2
  have kk := ((Kept.refl (fun _ => False) w1).alloc _).trans hk2
  have hs := hs.kept0 kk
  have hp := hp.kept0 kk
  have hk := hk.trans kk
  clear hk2 kk s0 s1 p0 p1 l2 l3
  generalize w1.heap.size = a1 at *
  have l2 := hs.lt
  have l3 := hp.lt
  have l4 := ha.lt
  have s0 := hs.c0
  have s1 := hs.c1
  go_wp2_with fail
  refine (HM.out _).mono ?_
  rintro e w3 ⟨rfl, hk3⟩
  have hb : Three w3 w2.heap.size B1 B2 bp := (Three.of (heap_new _ _)).kept0 hk3
  have kk := ((Kept.refl (fun _ => False) w2).alloc _).trans hk3
  have hs := hs.kept0 kk
  have hp := hp.kept0 kk
  have ha := ha.kept0 kk
  have hk := hk.trans kk
  clear hk3 kk s0 s1 l2 l3 l4
  generalize w2.heap.size = a2 at *
  cases m
  · obtain ⟨rfl, rfl, rfl, rfl, rfl, rfl, rfl⟩ := HZ.out rfl
    obtain ⟨c0, c1, _, _⟩ := ha
    obtain ⟨b0, b1, b2, _, _, _⟩ := hb
    go_wp2_with fail
    refine (awake_any _).mono ?_
    rintro e w4 ⟨rfl, hk4⟩
    go_wp2_with fail
    go_ret
    exact ⟨rfl, hk.trans hk4⟩
  · have H13 := Lib.hid (HRN.out rfl)
    have H18 := Lib.hid (HRB.out rfl)
    have H17 := Lib.hid (HRX.out rfl)
    have HV' := Lib.hid (HV.out rfl)
    clear HRN HRX HV HRB HZ
    have s0 := hs.c0
    have s1 := hs.c1
    have p0 := hp.c0
    have p1 := hp.c1
    go_wp2_with fail
    refine (H13.out _).mono ?_
    rintro e w4 ⟨rfl, hk4⟩
    have hs := hs.kept0 hk4
    have hp := hp.kept0 hk4
    have ha := ha.kept0 hk4
    have hb := hb.kept0 hk4
    have hk := hk.trans hk4
    have l2 := hs.lt
    have l3 := hp.lt
    have l4 := ha.lt
    have l5 := hb.lt
    clear hk4 s0 s1 p0 p1
    have s0 := hs.c0
    have s1 := hs.c1
    have p0 := hp.c0
    have p1 := hp.c1
    have p2 := hp.c2
    cases v
    · obtain ⟨rfl, rfl, rfl⟩ := HV'.out rfl
      go_wp2_with fail
      refine (H18.out _).mono ?_
      rintro e w5 ⟨rfl, hk5⟩
      have hw : Two w5 w4.heap.size A1 A2 := (Two.of (heap_new _ _)).kept0 hk5
      have kk := ((Kept.refl (fun _ => False) w4).alloc _).trans hk5
      have ha := ha.kept0 kk
      have hb := hb.kept0 kk
      have hk := hk.trans kk
      clear hk5 kk s0 s1 p0 p1 p2 l2 l3 l4 l5 hs hp
      generalize w4.heap.size = a3 at *
      have l1 := ha.lt
      have l2 := hb.lt
      have l3 := hw.lt
      obtain ⟨c0, c1, _, _⟩ := ha
      obtain ⟨b0, b1, b2, _, _, _⟩ := hb
      obtain ⟨d0, d1, _, _⟩ := hw
      go_wp2_with fail
      refine (awake_any _).mono ?_
      rintro e w6 ⟨rfl, hk6⟩
      go_wp2_with fail
      go_ret
      exact ⟨rfl, (hk.alloc _).trans hk6⟩
    · have HX := Lib.hid (H17.out rfl)
      clear H17 HV'
      go_wp2_with fail
      refine (HX.out _).mono ?_
      rintro e w5 ⟨rfl, hk5⟩
      have hw : Two w5 w4.heap.size N1 N2 := (Two.of (heap_new _ _)).kept0 hk5
      have kk := ((Kept.refl (fun _ => False) w4).alloc _).trans hk5
      have hs := hs.kept0 kk
      have hp := hp.kept0 kk
      have ha := ha.kept0 kk
      have hb := hb.kept0 kk
      have hk := hk.trans kk
      have hsz := Nat.le_trans hs.lt (Nat.le_refl w5.heap.size)
      have hne1 : ¬ (w.heap.size = w4.heap.size) := by omega
      have hne2 : ¬ (w.heap.size + 1 = w4.heap.size) := by omega
      have hne3 : ¬ (a1 = w4.heap.size) := by omega
      have hne4 : ¬ (a2 = w4.heap.size) := by omega
      have hle : w.heap.size ≤ w4.heap.size := by omega
      clear hk5 kk s0 s1 p0 p1 p2 l2 l3 l4 l5
      generalize w4.heap.size = a3 at *
      have s0 := hs.c0
      have s1 := hs.c1
      have p0 := hp.c0
      have p1 := hp.c1
      obtain ⟨d0, d1, d2, d3⟩ := hw
      go_wp2_with fail
      refine (H18.out _).mono ?_
      rintro e w6 ⟨rfl, hk6⟩
      have hw : Two w6 a3 A1 A2 := (Two.set ⟨d0, d1, d2, d3⟩ A1 A2).kept0 hk6
      have k1 : Kept (· = a3) w5 w6 := ((Kept.set1 w5 a3 0 (.int .i64 A1)).trans (Kept.set1 _ a3 1 (.int .i64 A2))).trans hk6.to
      have ha := ha.kept k1 hne3
      have hb := hb.kept k1 hne4
      have hk := hk.later k1 (fun i hi e => by omega)
      clear hk6 k1 s0 s1 p0 p1 hs hp d0 d1 d2 d3
      have l1 := ha.lt
      have l2 := hb.lt
      have l3 := hw.lt
      obtain ⟨c0, c1, _, _⟩ := ha
      obtain ⟨b0, b1, b2, _, _, _⟩ := hb
      obtain ⟨d0, d1, _, _⟩ := hw
      go_wp2_with fail
      refine (awake_any _).mono ?_
      rintro e w7 ⟨rfl, hk7⟩
      go_wp2_with fail
      go_ret
      exact ⟨rfl, (hk.alloc _).trans hk7⟩

/-- What Behind answers, taken apart. -/
def behR (R p : Int) (b b1 b2 : Bool) : Int := if b then p else if b1 then p else if b2 then nextR R p else p
def behC (q : Int) (b b1 b2 : Bool) : Int := if b then q + 1 else if b1 then q else if b2 then 0 else q
def behP (b b1 b2 : Bool) : Bool := if b then false else if b1 then false else if b2 then false else true
def behG (R p : Int) (b b1 b2 : Bool) : Bool := if b then false else if b1 then false else if b2 then p == R - 1 else false
theorem behindV_eq (R p q : Int) (b b1 b2 : Bool) : behindV R p q b b1 b2 = .tuple #[place (behR R p b b1 b2) (behC q b b1 b2) (behP b b1 b2), .bool (behG R p b b1 b2)] := by
  cases b <;> cases b1 <;> cases b2 <;> rfl
theorem refBehindV_eq (R p q : Int) (b b1 b2 : Bool) : refBehindV R p q b b1 b2 = .tuple #[pos (behR R p b b1 b2) (behC q b b1 b2), .bool (behP b b1 b2), .bool (behG R p b b1 b2)] := by
  cases b <;> cases b1 <;> cases b2 <;> rfl

theorem behind_says (R C r c k : Int) (hm : may R C) : Says 16 #[pos R C, pos r c, .int .i64 k] (.tuple #[place (behR R (nr r R) (decide (nr c C < C - 1)) (k == 1) (k == 2)) (behC (nr c C) (decide (nr c C < C - 1)) (k == 1) (k == 2)) (behP (decide (nr c C < C - 1)) (k == 1) (k == 2)), .bool (behG R (nr r R) (decide (nr c C < C - 1)) (k == 1) (k == 2))]) := by
  intro w
  rw [← behindV_eq R (nr r R) (nr c C) (decide (nr c C < C - 1)) (k == 1) (k == 2)]
  exact behind_core R C r c k hm _ _ _ rfl rfl rfl w
theorem refBehind_says (R C r c k : Int) (hm : may R C) : Says 18 #[pos R C, pos r c, .int .i64 k] (.tuple #[pos (behR R (nr r R) (decide (nr c C < C - 1)) (k == 1) (k == 2)) (behC (nr c C) (decide (nr c C < C - 1)) (k == 1) (k == 2)), .bool (behP (decide (nr c C < C - 1)) (k == 1) (k == 2)), .bool (behG R (nr r R) (decide (nr c C < C - 1)) (k == 1) (k == 2))]) := by
  intro w
  rw [← refBehindV_eq R (nr r R) (nr c C) (decide (nr c C < C - 1)) (k == 1) (k == 2)]
  exact refBehind_core R C r c k hm _ _ _ rfl rfl rfl w

theorem wraps_calls (R C r c k : Int) (v : Bool) (w : World) :
    Calls Try.prog 4 #[pos R C, place r c v, .int .i64 k] w fun e w' => e = .returned (.bool true) ∧ Below w.heap.size w w' := by
  by_cases hm : may R C
  · have hMay := refMay_any R C
    rw [decide_eq_true hm] at hMay
    cases v
    · have hA : Says 15 #[pos R C, place r c false] (.tuple #[pos (nr r R) (nr c C), .bool false]) := by
        have h := ahead_plain R C r c
        rw [nearR_yes hm, nearC_yes hm] at h
        exact h
      exact (wraps_core R C r c k false (nr r R) (nr c C) _ _ (nr r R) (nr c C) false _ _ true hMay hA (behind_says R C r c k hm) (fun _ => refNear_any R C r c hm) (fun _ h => by cases h) (fun _ _ => ⟨rfl, rfl, rfl⟩) (fun _ => refBehind_says R C r c k hm) (fun h => by cases h) w).mono fun e w' h => ⟨h.1, h.2.below⟩
    · exact (wraps_core R C r c k true (nextR R (nr r R)) 0 _ _ (nr r R) (nr c C) (nr r R == R - 1) _ _ true hMay (ahead_pend R C r c hm) (behind_says R C r c k hm) (fun _ => refNear_any R C r c hm) (fun _ _ => refNext_any R C (nr r R) (nr c C) hm.1 hm.2.1 (nr_lo _ _) (nr_hi _ _ hm.1)) (fun _ h => by cases h) (fun _ => refBehind_says R C r c k hm) (fun h => by cases h) w).mono fun e w' h => ⟨h.1, h.2.below⟩
  · have hMay := refMay_any R C
    rw [decide_eq_false hm] at hMay
    exact (wraps_core R C r c k v 0 0 0 0 0 0 false false false false hMay (ahead_no R C r c v hm) (behind_no R C r c k hm) (fun h => by cases h) (fun h => by cases h) (fun h => by cases h) (fun h => by cases h) (fun _ => ⟨rfl, rfl, rfl, rfl, rfl, rfl, rfl⟩) w).mono fun e w' h => ⟨h.1, h.2.below⟩

end Go.Proofs.Ytonpkogafgnkjaa
