/-
  WalkParts: steps of rows, and then of columns, are steps of both, Clamp never leaves a row, and a cursor that is not Pending is put where it is.
-/
import Derived.Test.YtonpkogafgnkjaaWraps
namespace Go.Proofs.Ytonpkogafgnkjaa
open Go.RowKit

set_option maxHeartbeats 4000000 in
set_option maxRecDepth 100000 in
theorem parts_no (R C r c x y : Int) (v : Bool) (hm : ¬ may R C) (w : World) :
    Calls Try.prog 8 #[pos R C, place r c v, pos x y] w fun e w' => e = .returned (.bool true) ∧ Kept0 w w' := by
  have HM := Lib.hid (refMay_any R C)
  rw [decide_eq_false hm] at HM
  clear hm
  go_enter Try.func8, Try.ntmps8
  go_wp2_with fail
  refine (HM.out _).mono ?_
  rintro e w1 ⟨rfl, hk1⟩
  have hk : Kept0 w w1 := ((((Kept.refl _ w).alloc _).alloc _).alloc _).trans hk1
  clear hk1
  go_wp2_with fail
  refine (awake_any _).mono ?_
  rintro e w4 ⟨rfl, hk4⟩
  go_wp2_with fail
  go_ret
  exact ⟨rfl, hk.trans hk4⟩

theorem kset {w : World} {b b' o : Nat} {u0 u1 u2 v : Value} (hb : b' ≠ b) (h : w.cell? ⟨b', o, none⟩ = some v) : (((w.setCell ⟨b, 0, none⟩ u0).setCell ⟨b, 1, none⟩ u1).setCell ⟨b, 2, none⟩ u2).cell? ⟨b', o, none⟩ = some v :=
  ((((Kept.set1 w b 0 u0).trans (Kept.set1 _ b 1 u1)).trans (Kept.set1 _ b 2 u2)).cell (World.block_lt_of_cell? w _ h) hb).trans h

theorem Three.set3 {w : World} {b : Nat} {x y : Int} {v : Bool} (h : Three w b x y v) (x' y' : Int) (v' : Bool) : Three (((w.setCell ⟨b, 0, none⟩ (.int .i64 x')).setCell ⟨b, 1, none⟩ (.int .i64 y')).setCell ⟨b, 2, none⟩ (.bool v')) b x' y' v' :=
  ⟨by simp [go_sem, h.c0], by simp [go_sem, h.c1], by simp [go_sem, h.c2], by simp [go_sem, h.f0], by simp [go_sem, h.f1], by simp [go_sem, h.f2]⟩
theorem Kept.set3 (w : World) (b : Nat) (u0 u1 u2 : Value) : Kept (· = b) w (((w.setCell ⟨b, 0, none⟩ u0).setCell ⟨b, 1, none⟩ u1).setCell ⟨b, 2, none⟩ u2) :=
  ((Kept.set1 w b 0 u0).trans (Kept.set1 _ b 1 u1)).trans (Kept.set1 _ b 2 u2)

set_option maxHeartbeats 8000000 in
set_option maxRecDepth 100000 in
theorem parts_core (R C r c x y : Int) (v : Bool) (F G : Int → Int → Int) (B2 N1 N2 : Int) (hM : Says 11 #[pos R C] (.bool true)) (hN : Says 9 #[pos R C, pos r c] (pos N1 N2))
    (hS : ∀ r c v x y w, Calls Try.prog 10 #[pos R C, place r c v, .int .i64 x, .int .i64 y] w fun e w' => e = .returned (place (F r x) (G c y) false) ∧ Kept0 w w')
    (hF : F (F r x) 0 = F r x) (hG : G (G c 0) y = G c y)
    (hB : Says 16 #[pos R C, pos r c, .int .i64 1] (.tuple #[place N1 B2 false, .bool false])) (hA : Says 15 #[pos R C, place r c false] (.tuple #[pos N1 N2, .bool false]))
    (e1 : IntKind.i64.wrap (N2 + 1) = N2 + 1) (e2 : IntKind.i64.wrap (C - 1) = C - 1) (hb : B2 = if C - 1 < N2 + 1 then C - 1 else N2 + 1) (w : World) :
    Calls Try.prog 8 #[pos R C, place r c v, pos x y] w fun e w' => e = .returned (.bool true) ∧ Kept0 w w' := by
  have HM := Lib.hid hM
  have HN := Lib.hid hN
  have HF := Lib.hid hF
  have HG := Lib.hid hG
  have HS := Lib.hid hS
  have HB := Lib.hid hB
  have HA := Lib.hid hA
  have HE := Lib.hid hb
  clear hM hN hS hB hA hb hF hG
  go_enter Try.func8, Try.ntmps8
  go_wp2_with fail
  refine (HM.out _).mono ?_
  rintro e w1 ⟨rfl, hk1⟩
  have hs : Two w1 w.heap.size R C := (Two.of (heap_old _ _ (heap_old _ _ (heap_new _ _)))).kept0 hk1
  have hp : Three w1 (w.heap.size + 1) r c v := (Three.of (heap_old _ _ (heap_new2 _ _ _))).kept0 hk1
  have ht : Two w1 (w.heap.size + 1 + 1) x y := (Two.of (heap_new3 _ _ _ _)).kept0 hk1
  have hk : Kept0 w w1 := ((((Kept.refl _ w).alloc _).alloc _).alloc _).trans hk1
  clear hk1
  obtain ⟨s0, s1, _, _⟩ := hs
  obtain ⟨p0, p1, p2, _, _, _⟩ := hp
  obtain ⟨z0, z1, _, _⟩ := ht
  have k1 := Nat.ne_of_lt (World.block_lt_of_cell? w1 _ s0)
  have k2 := Nat.ne_of_lt (World.block_lt_of_cell? w1 _ p0)
  have k3 := Nat.ne_of_lt (World.block_lt_of_cell? w1 _ z0)
  go_wp2_with fail
  go_region_held3 (fun w' => w'.cell? ⟨w.heap.size, 0, none⟩ = some (.int .i64 R) ∧ w'.cell? ⟨w.heap.size, 1, none⟩ = some (.int .i64 C) ∧ w'.cell? ⟨w.heap.size + 1, 0, none⟩ = some (.int .i64 r) ∧ w'.cell? ⟨w.heap.size + 1, 1, none⟩ = some (.int .i64 c) ∧ w'.cell? ⟨w.heap.size + 1, 2, none⟩ = some (.bool v) ∧ w'.cell? ⟨w.heap.size + 1 + 1, 0, none⟩ = some (.int .i64 x) ∧ w'.cell? ⟨w.heap.size + 1 + 1, 1, none⟩ = some (.int .i64 y))
    (first
      | with_reducible exact ⟨kset (by assumption) (kcell kx s0), kset (by assumption) (kcell kx s1), kset (by assumption) (kcell kx p0), kset (by assumption) (kcell kx p1), kset (by assumption) (kcell kx p2), kset (by assumption) (kcell kx z0), kset (by assumption) (kcell kx z1)⟩
      | with_reducible exact ⟨kcell (kx.alloc _) s0, kcell (kx.alloc _) s1, kcell (kx.alloc _) p0, kcell (kx.alloc _) p1, kcell (kx.alloc _) p2, kcell (kx.alloc _) z0, kcell (kx.alloc _) z1⟩
      | with_reducible exact ⟨kcell kx s0, kcell kx s1, kcell kx p0, kcell kx p1, kcell kx p2, kcell kx z0, kcell kx z1⟩
      | with_reducible exact ⟨kcell ((Kept.refl _ w1).alloc _).drew s0, kcell ((Kept.refl _ w1).alloc _).drew s1, kcell ((Kept.refl _ w1).alloc _).drew p0, kcell ((Kept.refl _ w1).alloc _).drew p1, kcell ((Kept.refl _ w1).alloc _).drew p2, kcell ((Kept.refl _ w1).alloc _).drew z0, kcell ((Kept.refl _ w1).alloc _).drew z1⟩
      | with_reducible exact ⟨kcell (Kept.refl _ w1).drew s0, kcell (Kept.refl _ w1).drew s1, kcell (Kept.refl _ w1).drew p0, kcell (Kept.refl _ w1).drew p1, kcell (Kept.refl _ w1).drew p2, kcell (Kept.refl _ w1).drew z0, kcell (Kept.refl _ w1).drew z1⟩)
    (first
      | (go_at_call 10; refine (HS.out _ _ _ _ _ _).mono ?_; rintro e w5 ⟨rfl, hk5⟩
         have kx : Kept0 w1 w5 := by first | exact kx.trans hk5 | exact (kx.alloc _).trans hk5 | exact (Kept.refl _ w1).drew.trans hk5 | exact ((Kept.refl _ w1).alloc _).drew.trans hk5
         have sz := kx.size
         have m1 := Nat.ne_of_lt (World.block_lt_of_cell? w5 _ (kcell kx s0))
         have m2 := Nat.ne_of_lt (World.block_lt_of_cell? w5 _ (kcell kx p0))
         have m3 := Nat.ne_of_lt (World.block_lt_of_cell? w5 _ (kcell kx z0))
         try have nn := nn.kept0 hk5
         try have nn := Three.kept0 (x := 0) (y := 0) (v := false) (Three.of (t := 27) (heap_new _ _)) hk5
         try have nn := Three.kept0 (x := 0) (y := 0) (v := false) (Three.of (t := 27) (heap_new w1 _)) (Kept.trans (Kept.refl _ _).drew hk5)
         try (have n0 := nn.c0; have n1 := nn.c1; have n2 := nn.c2; have n3 := nn.f0; have n4 := nn.f1; have n5 := nn.f2)))
  have hX : Three (w5.alloc (Obj.cells #[Value.int IntKind.i64 (F (F r x) 0), Value.int IntKind.i64 (G (G c 0) y), Value.bool false] 27)) w5.heap.size (F (F r x) 0) (G (G c 0) y) false := Three.of (heap_new _ _)
  have kz := kx.alloc (Obj.cells #[Value.int IntKind.i64 (F (F r x) 0), Value.int IntKind.i64 (G (G c 0) y), Value.bool false] 27)
  have s0 := kcell kz s0
  have s1 := kcell kz s1
  have p0 := kcell kz p0
  have p1 := kcell kz p1
  have p2 := kcell kz p2
  have z0 := kcell kz z0
  have z1 := kcell kz z1
  have hk := hk.trans kz
  generalize w5.alloc (Obj.cells #[Value.int IntKind.i64 (F (F r x) 0), Value.int IntKind.i64 (G (G c 0) y), Value.bool false] 27) = W at *
  generalize w5.heap.size = a0 at *
  rotate_left
  rename_i w5' _ _ _ _ _ _ _
  have hX := nn.set3 (F (F r x) 0) (G (G c 0) y) false
  have s0 := kset (u0 := Value.int IntKind.i64 (F (F r x) 0)) (u1 := Value.int IntKind.i64 (G (G c 0) y)) (u2 := Value.bool false) (b := w5'.heap.size) (by assumption) (kcell kx s0)
  have s1 := kset (u0 := Value.int IntKind.i64 (F (F r x) 0)) (u1 := Value.int IntKind.i64 (G (G c 0) y)) (u2 := Value.bool false) (b := w5'.heap.size) (by assumption) (kcell kx s1)
  have p0 := kset (u0 := Value.int IntKind.i64 (F (F r x) 0)) (u1 := Value.int IntKind.i64 (G (G c 0) y)) (u2 := Value.bool false) (b := w5'.heap.size) (by assumption) (kcell kx p0)
  have p1 := kset (u0 := Value.int IntKind.i64 (F (F r x) 0)) (u1 := Value.int IntKind.i64 (G (G c 0) y)) (u2 := Value.bool false) (b := w5'.heap.size) (by assumption) (kcell kx p1)
  have p2 := kset (u0 := Value.int IntKind.i64 (F (F r x) 0)) (u1 := Value.int IntKind.i64 (G (G c 0) y)) (u2 := Value.bool false) (b := w5'.heap.size) (by assumption) (kcell kx p2)
  have z0 := kset (u0 := Value.int IntKind.i64 (F (F r x) 0)) (u1 := Value.int IntKind.i64 (G (G c 0) y)) (u2 := Value.bool false) (b := w5'.heap.size) (by assumption) (kcell kx z0)
  have z1 := kset (u0 := Value.int IntKind.i64 (F (F r x) 0)) (u1 := Value.int IntKind.i64 (G (G c 0) y)) (u2 := Value.bool false) (b := w5'.heap.size) (by assumption) (kcell kx z1)
  have hle : w.heap.size ≤ w5'.heap.size := by have := hk.size; omega
  have hk := (hk.trans kx).later (Kept.set3 w5 (w5'.heap.size) (Value.int IntKind.i64 (F (F r x) 0)) (Value.int IntKind.i64 (G (G c 0) y)) (Value.bool false)) (fun i hi e => by omega)
  generalize (((w5.setCell ⟨w5'.heap.size, 0, none⟩ (Value.int IntKind.i64 (F (F r x) 0))).setCell ⟨w5'.heap.size, 1, none⟩ (Value.int IntKind.i64 (G (G c 0) y))).setCell ⟨w5'.heap.size, 2, none⟩ (Value.bool false)) = W at *
  generalize w5'.heap.size = a0 at *
  rotate_left
  have hX := nn.set3 (F (F r x) 0) (G (G c 0) y) false
  have s0 := kset (u0 := Value.int IntKind.i64 (F (F r x) 0)) (u1 := Value.int IntKind.i64 (G (G c 0) y)) (u2 := Value.bool false) (b := w1.heap.size) (by assumption) (kcell kx s0)
  have s1 := kset (u0 := Value.int IntKind.i64 (F (F r x) 0)) (u1 := Value.int IntKind.i64 (G (G c 0) y)) (u2 := Value.bool false) (b := w1.heap.size) (by assumption) (kcell kx s1)
  have p0 := kset (u0 := Value.int IntKind.i64 (F (F r x) 0)) (u1 := Value.int IntKind.i64 (G (G c 0) y)) (u2 := Value.bool false) (b := w1.heap.size) (by assumption) (kcell kx p0)
  have p1 := kset (u0 := Value.int IntKind.i64 (F (F r x) 0)) (u1 := Value.int IntKind.i64 (G (G c 0) y)) (u2 := Value.bool false) (b := w1.heap.size) (by assumption) (kcell kx p1)
  have p2 := kset (u0 := Value.int IntKind.i64 (F (F r x) 0)) (u1 := Value.int IntKind.i64 (G (G c 0) y)) (u2 := Value.bool false) (b := w1.heap.size) (by assumption) (kcell kx p2)
  have z0 := kset (u0 := Value.int IntKind.i64 (F (F r x) 0)) (u1 := Value.int IntKind.i64 (G (G c 0) y)) (u2 := Value.bool false) (b := w1.heap.size) (by assumption) (kcell kx z0)
  have z1 := kset (u0 := Value.int IntKind.i64 (F (F r x) 0)) (u1 := Value.int IntKind.i64 (G (G c 0) y)) (u2 := Value.bool false) (b := w1.heap.size) (by assumption) (kcell kx z1)
  have hle : w.heap.size ≤ w1.heap.size := by have := hk.size; omega
  have hk := (hk.trans kx).later (Kept.set3 w5 (w1.heap.size) (Value.int IntKind.i64 (F (F r x) 0)) (Value.int IntKind.i64 (G (G c 0) y)) (Value.bool false)) (fun i hi e => by omega)
  generalize (((w5.setCell ⟨w1.heap.size, 0, none⟩ (Value.int IntKind.i64 (F (F r x) 0))).setCell ⟨w1.heap.size, 1, none⟩ (Value.int IntKind.i64 (G (G c 0) y))).setCell ⟨w1.heap.size, 2, none⟩ (Value.bool false)) = W at *
  generalize w1.heap.size = a0 at *
  rotate_left
  all_goals
    rw [HF.out, HG.out] at hX
    have l1 := World.block_lt_of_cell? W _ s0
    have l2 := World.block_lt_of_cell? W _ p0
    have l3 := World.block_lt_of_cell? W _ z0
    have l4 := hX.lt
    go_wp2_with fail
    refine (HS.out _ _ _ _ _ _).mono ?_
    rintro e wa ⟨rfl, hka⟩
    have s0 := kcell hka s0
    have s1 := kcell hka s1
    have p0 := kcell hka p0
    have p1 := kcell hka p1
    have hX := hX.kept0 hka
    have hk := hk.trans hka
    clear hka z0 z1 l1 l2 l3 l4
    have l1 := World.block_lt_of_cell? wa _ s0
    have l2 := World.block_lt_of_cell? wa _ p0
    have l4 := hX.lt
    go_wp2_with fail
    refine (HB.out _).mono ?_
    rintro e wb ⟨rfl, hkb⟩
    have hY : Three wb wa.heap.size (F r x) (G c y) false := (Three.of (heap_new _ _)).kept0 hkb
    have kk := ((Kept.refl (fun _ => False) wa).alloc _).trans hkb
    have s0 := kcell kk s0
    have s1 := kcell kk s1
    have p0 := kcell kk p0
    have p1 := kcell kk p1
    have hX := hX.kept0 kk
    have hk := hk.trans kk
    clear hkb kk l1 l2 l4
    generalize wa.heap.size = a1 at *
    have l1 := World.block_lt_of_cell? wb _ s0
    have l2 := World.block_lt_of_cell? wb _ p0
    have l3 := hX.lt
    have l4 := hY.lt
    go_wp2_with fail
    refine (HA.out _).mono ?_
    rintro e wc ⟨rfl, hkc⟩
    have hZ : Three wc wb.heap.size N1 B2 false := (Three.of (heap_new _ _)).kept0 hkc
    have kk := ((Kept.refl (fun _ => False) wb).alloc _).trans hkc
    have s0 := kcell kk s0
    have s1 := kcell kk s1
    have p0 := kcell kk p0
    have p1 := kcell kk p1
    have hX := hX.kept0 kk
    have hY := hY.kept0 kk
    have hk := hk.trans kk
    clear hkc kk l1 l2 l3 l4
    generalize wb.heap.size = a2 at *
    have l1 := World.block_lt_of_cell? wc _ s0
    have l2 := World.block_lt_of_cell? wc _ p0
    have l3 := hX.lt
    have l4 := hY.lt
    have l5 := hZ.lt
    go_wp2_with fail
    refine (HN.out _).mono ?_
    rintro e wd ⟨rfl, hkd⟩
    have hQ : Two wd wc.heap.size N1 N2 := (Two.of (heap_new _ _)).kept0 hkd
    have kk := ((Kept.refl (fun _ => False) wc).alloc _).trans hkd
    have s0 := kcell kk s0
    have s1 := kcell kk s1
    have hX := hX.kept0 kk
    have hY := hY.kept0 kk
    have hZ := hZ.kept0 kk
    have hk := hk.trans kk
    clear hkd kk l1 l2 l3 l4 l5 p0 p1
    generalize wc.heap.size = a3 at *
    have l1 := World.block_lt_of_cell? wd _ s0
    have l3 := hX.lt
    have l4 := hY.lt
    have l5 := hZ.lt
    have l6 := hQ.lt
    obtain ⟨x0, x1, x2, _, _, _⟩ := hX
    obtain ⟨y0, y1, y2, _, _, _⟩ := hY
    obtain ⟨t0, t1, t2, _, _, _⟩ := hZ
    obtain ⟨q0, q1, _, _⟩ := hQ
    have he := HE.out
    by_cases hc : C - 1 < N2 + 1
    · rw [if_pos hc] at he
      subst he
      go_wp2_with fail
      refine (awake_any _).mono ?_
      rintro e wz ⟨rfl, hkz⟩
      go_wp2_with fail
      go_ret
      exact ⟨rfl, (hk.alloc _).trans hkz⟩
    · rw [if_neg hc] at he
      subst he
      go_wp2_with fail
      refine (awake_any _).mono ?_
      rintro e wz ⟨rfl, hkz⟩
      go_wp2_with fail
      go_ret
      exact ⟨rfl, (hk.alloc _).trans hkz⟩

theorem cut0 : cut 0 255 = 0 := by decide

theorem parts_calls (R C r c x y : Int) (v : Bool) (w : World) :
    Calls Try.prog 8 #[pos R C, place r c v, pos x y] w fun e w' => e = .returned (.bool true) ∧ Below w.heap.size w w' := by
  by_cases hm : may R C
  · have hMay := refMay_any R C
    rw [decide_eq_true hm] at hMay
    have hR := hm.1
    have hC := hm.2.2.1
    have hC' := hm.2.2.2
    have hN := near_any R C r c
    rw [nearR_yes hm, nearC_yes hm] at hN
    have hA := ahead_plain R C r c
    rw [nearR_yes hm, nearC_yes hm] at hA
    have hS : ∀ r c v x y w, Calls Try.prog 10 #[pos R C, place r c v, .int .i64 x, .int .i64 y] w fun e w' => e = .returned (place ((fun r x => nr (nr r R + cut x 255) R) r x) ((fun c y => nr (nr c C + cut y 255) C) c y) false) ∧ Kept0 w w' := by
      intro r c v x y
      have h := step_any R C r c x y v
      rw [nearR_yes hm, nearC_yes hm, nearR_yes hm, nearC_yes hm] at h
      exact h
    have q0 := nr_lo c C
    have q1 := nr_hi c C hC
    have hB : Says 16 #[pos R C, pos r c, .int .i64 1] (.tuple #[place (nr r R) (if C - 1 < nr c C + 1 then C - 1 else nr c C + 1) false, .bool false]) := by
      by_cases h : nr c C < C - 1
      · rw [if_neg (by omega)]
        have hb := behind_core R C r c 1 hm true true false (decide_eq_true h) (by decide) (by decide)
        exact hb
      · rw [if_pos (by omega)]
        have hb := behind_core R C r c 1 hm false true false (decide_eq_false h) (by decide) (by decide)
        have he : nr c C = C - 1 := by omega
        rw [he] at hb
        exact hb
    refine (parts_core R C r c x y v _ _ _ (nr r R) (nr c C) hMay hN hS ?_ ?_ hB hA (IntWalk.i64_in _ (by constructor <;> omega)) (IntWalk.i64_in _ (by constructor <;> omega)) rfl w).mono fun e w' h => ⟨h.1, h.2.below⟩
    · show nr (nr (nr (nr r R + cut x 255) R) R + cut 0 255) R = nr (nr r R + cut x 255) R
      rw [cut0, Int.add_zero, nr_nr _ _ hR, nr_nr _ _ hR]
    · show nr (nr (nr (nr c C + cut 0 255) C) C + cut y 255) C = nr (nr c C + cut y 255) C
      rw [cut0, Int.add_zero, nr_nr _ _ hC, nr_nr _ _ hC]
  · exact (parts_no R C r c x y v hm w).mono fun e w' h => ⟨h.1, h.2.below⟩

end Go.Proofs.Ytonpkogafgnkjaa
