/-
  WalkBack: all answers are there, Of of Index is the place, and a step there and back, without an edge, is none.
-/
import Derived.Test.YtonpkogafgnkjaaSteps
import Derived.Test.YtonpkogafgnkjaaCount
namespace Go.Proofs.Ytonpkogafgnkjaa
open Go.RowKit

set_option maxHeartbeats 4000000 in
set_option maxRecDepth 100000 in
theorem back_no (R C r c x y : Int) (v : Bool) (hm : ¬ may R C) (w : World) :
    Calls Try.prog 6 #[pos R C, place r c v, pos x y] w fun e w' => e = .returned (.bool true) ∧ Kept0 w w' := by
  have HM := Lib.hid (refMay_any R C)
  rw [decide_eq_false hm] at HM
  clear hm
  go_enter Try.func6, Try.ntmps6
  go_wp2_with fail
  refine (HM.out _).mono ?_
  rintro e w1 ⟨rfl, hk1⟩
  have hk : Kept0 w w1 := ((((Kept.refl _ w).alloc _).alloc _).alloc _).trans hk1
  clear hk1
  go_wp2_with fail
  refine (awake_any _).mono ?_
  rintro e w4 ⟨rfl, hk4⟩
  go_wp2_with fail
  go_ret
  exact ⟨rfl, hk.trans hk4⟩

set_option maxHeartbeats 8000000 in
set_option maxRecDepth 100000 in
theorem back_core (R C r c x y : Int) (v : Bool) (A1 A2 I J B1 B2 D1 D2 : Int) (t1 t2 t3 t4 q1 q2 : Bool) (hM : Says 11 #[pos R C] (.bool true)) (hN : Says 9 #[pos R C, pos r c] (pos A1 A2))
    (hI : Says 19 #[pos R C, pos A1 A2] (.tuple #[.int .i64 I, .int .i64 0])) (hO : Says 20 #[pos R C, .int .i64 I] (.tuple #[pos A1 A2, .int .i64 0])) (hS : Says 10 #[pos R C, place A1 A2 false, .int .i64 x, .int .i64 y] (place B1 B2 false))
    (hJ : Says 19 #[pos R C, pos B1 B2] (.tuple #[.int .i64 J, .int .i64 0]))
    (hT : t1 = false → t2 = false → t3 = false → t4 = false → Says 10 #[pos R C, place B1 B2 false, .int .i64 (-x), .int .i64 (-y)] (place D1 D2 false) ∧ IntKind.i64.wrap (-x) = -x ∧ IntKind.i64.wrap (-y) = -y ∧ IntKind.i64.wrap (A1 + x) = A1 + x ∧ IntKind.i64.wrap (A2 + y) = A2 + y)
    (h1 : decide (x < -1000) = t1) (h2 : decide (1000 < x) = t2) (h3 : decide (y < -1000) = t3) (h4 : decide (1000 < y) = t4)
    (e1 : (B1 == A1 + x) = q1) (e2 : (B2 == A2 + y) = q2) (hq : q1 = true → q2 = true → D1 = A1 ∧ D2 = A2) (w : World) :
    Calls Try.prog 6 #[pos R C, place r c v, pos x y] w fun e w' => e = .returned (.bool true) ∧ Kept0 w w' := by
  have HM := Lib.hid hM
  have HN := Lib.hid hN
  have HI := Lib.hid hI
  have HO := Lib.hid hO
  have HS := Lib.hid hS
  have HJ := Lib.hid hJ
  have HT := Lib.hid hT
  have HQ := Lib.hid hq
  have E1 := Lib.hid e1
  have E2 := Lib.hid e2
  have T1 := Lib.hid h1
  have T2 := Lib.hid h2
  have T3 := Lib.hid h3
  have T4 := Lib.hid h4
  clear hM hN hI hO hS hJ hT hq e1 e2 h1 h2 h3 h4
  go_enter Try.func6, Try.ntmps6
  go_wp2_with fail
  refine (HM.out _).mono ?_
  rintro e w1 ⟨rfl, hk1⟩
  have hs : Two w1 w.heap.size R C := (Two.of (heap_old _ _ (heap_old _ _ (heap_new _ _)))).kept0 hk1
  have hp : Three w1 (w.heap.size + 1) r c v := (Three.of (heap_old _ _ (heap_new2 _ _ _))).kept0 hk1
  have ht : Two w1 (w.heap.size + 1 + 1) x y := (Two.of (heap_new3 _ _ _ _)).kept0 hk1
  have hk : Kept0 w w1 := ((((Kept.refl _ w).alloc _).alloc _).alloc _).trans hk1
  clear hk1
  have s0 := hs.c0
  have s1 := hs.c1
  have p0 := hp.c0
  have p1 := hp.c1
  go_wp2_with fail
  refine (HN.out _).mono ?_
  rintro e w2 ⟨rfl, hk2⟩
  clear hp p0 p1 s0 s1
  have hs := hs.kept0 hk2
  have ht := ht.kept0 hk2
  have hk := hk.trans hk2
  have l1 := hs.lt
  have l2 := ht.lt
  clear hk2
  have s0 := hs.c0
  have s1 := hs.c1
  go_wp2_with fail
  refine (HI.out _).mono ?_
  rintro e w3 ⟨rfl, hk3⟩
  have ha : Two w3 w2.heap.size A1 A2 := (Two.of (heap_new _ _)).kept0 hk3
  have kk := ((Kept.refl (fun _ => False) w2).alloc _).trans hk3
  have hs := hs.kept0 kk
  have ht := ht.kept0 kk
  have hk := hk.trans kk
  clear hk3 kk s0 s1 l1 l2
  generalize w2.heap.size = a1 at *
  have s0 := hs.c0
  have s1 := hs.c1
  go_wp2_with fail
  refine (HO.out _).mono ?_
  rintro e w4 ⟨rfl, hk4⟩
  have ha := ha.kept0 hk4
  have hs := hs.kept0 hk4
  have ht := ht.kept0 hk4
  have hk := hk.trans hk4
  have l1 := hs.lt
  have l2 := ht.lt
  have l3 := ha.lt
  clear hk4 s0 s1
  have s0 := hs.c0
  have s1 := hs.c1
  have c0 := ha.c0
  have c1 := ha.c1
  have z0 := ht.c0
  have z1 := ht.c1
  go_wp2_with fail
  refine (HS.out _).mono ?_
  rintro e w5 ⟨rfl, hk5⟩
  have kk := ((Kept.refl (fun _ => False) w4).alloc _).trans hk5
  have ha := ha.kept0 kk
  have hs := hs.kept0 kk
  have ht := ht.kept0 kk
  have hk := hk.trans kk
  clear hk5 kk s0 s1 c0 c1 z0 z1 l1 l2 l3
  have l1 := hs.lt
  have l2 := ht.lt
  have l3 := ha.lt
  have s0 := hs.c0
  have s1 := hs.c1
  go_wp2_with fail
  refine (HJ.out _).mono ?_
  rintro e w6 ⟨rfl, hk6⟩
  have hb : Three w6 w5.heap.size B1 B2 false := (Three.of (heap_new _ _)).kept0 hk6
  have kk := ((Kept.refl (fun _ => False) w5).alloc _).trans hk6
  have ha := ha.kept0 kk
  have hs := hs.kept0 kk
  have ht := ht.kept0 kk
  have hk := hk.trans kk
  clear hk6 kk s0 s1 l1 l2 l3
  generalize w5.heap.size = a2 at *
  have l1 := hs.lt
  have l2 := ht.lt
  have l3 := ha.lt
  have l4 := hb.lt
  obtain ⟨s0, s1, _, _⟩ := hs
  obtain ⟨z0, z1, _, _⟩ := ht
  obtain ⟨c0, c1, _, _⟩ := ha
  obtain ⟨b0, b1, b2, _, _, _⟩ := hb
  cases t1
  · cases t2
    · cases t3
      · cases t4
        · obtain ⟨hT, g1, g2, g3, g4⟩ := HT.out rfl rfl rfl rfl
          have HT' := Lib.hid hT
          have f1 := T1.out
          have f2 := T2.out
          have f3 := T3.out
          have f4 := T4.out
          clear hT HT
          go_wp2_with fail
          refine (HT'.out _).mono ?_
          rintro e w7 ⟨rfl, hk7⟩
          have s0 := kcell hk7 s0
          have s1 := kcell hk7 s1
          have z0 := kcell hk7 z0
          have z1 := kcell hk7 z1
          have c0 := kcell hk7 c0
          have c1 := kcell hk7 c1
          have b0 := kcell hk7 b0
          have b1 := kcell hk7 b1
          have b2 := kcell hk7 b2
          have hk := hk.trans hk7
          have l1 := World.block_lt_of_cell? w7 _ s0
          have l2 := World.block_lt_of_cell? w7 _ z0
          have l3 := World.block_lt_of_cell? w7 _ c0
          have l4 := World.block_lt_of_cell? w7 _ b0
          clear hk7
          cases q1
          · have u1 : ¬ (B1 = A1 + x) := by simpa using E1.out
            go_wp2_with fail
            refine (awake_any _).mono ?_
            rintro e w8 ⟨rfl, hk8⟩
            go_wp2_with fail
            go_ret
            exact ⟨rfl, (hk.alloc _).trans hk8⟩
          · cases q2
            · have u1 : B1 = A1 + x := by simpa using E1.out
              have u2 : ¬ (B2 = A2 + y) := by simpa using E2.out
              clear E1 E2
              subst u1
              go_wp2_with fail
              refine (awake_any _).mono ?_
              rintro e w8 ⟨rfl, hk8⟩
              go_wp2_with fail
              go_ret
              exact ⟨rfl, (hk.alloc _).trans hk8⟩
            · obtain ⟨rfl, rfl⟩ := HQ.out rfl rfl
              have u1 : B1 = D1 + x := by simpa using E1.out
              have u2 : B2 = D2 + y := by simpa using E2.out
              clear E1 E2
              subst u1
              subst u2
              go_wp2_with fail
              refine (awake_any _).mono ?_
              rintro e w8 ⟨rfl, hk8⟩
              go_wp2_with fail
              go_ret
              exact ⟨rfl, (hk.alloc _).trans hk8⟩
        · have f1 := T1.out
          have f2 := T2.out
          have f3 := T3.out
          have f4 := T4.out
          go_wp2_with fail
          refine (awake_any _).mono ?_
          rintro e w7 ⟨rfl, hk7⟩
          go_wp2_with fail
          go_ret
          exact ⟨rfl, hk.trans hk7⟩
      · have f1 := T1.out
        have f2 := T2.out
        have f3 := T3.out
        go_wp2_with fail
        refine (awake_any _).mono ?_
        rintro e w7 ⟨rfl, hk7⟩
        go_wp2_with fail
        go_ret
        exact ⟨rfl, hk.trans hk7⟩
    · have f1 := T1.out
      have f2 := T2.out
      go_wp2_with fail
      refine (awake_any _).mono ?_
      rintro e w7 ⟨rfl, hk7⟩
      go_wp2_with fail
      go_ret
      exact ⟨rfl, hk.trans hk7⟩
  · have f1 := T1.out
    go_wp2_with fail
    refine (awake_any _).mono ?_
    rintro e w7 ⟨rfl, hk7⟩
    go_wp2_with fail
    go_ret
    exact ⟨rfl, hk.trans hk7⟩

theorem index_there (R C p q : Int) (hm : may R C) (h0 : 0 ≤ p) (h1 : p < R) (h2 : 0 ≤ q) (h3 : q < C) : Says 19 #[pos R C, pos p q] (.tuple #[.int .i64 (p * C + q), .int .i64 0]) := by
  have h := index_core R C p q hm true true (by simpa using nr_in p R h0 h1) (by simpa using nr_in q C h2 h3)
  exact h
theorem of_there (R C p q : Int) (hm : may R C) (h0 : 0 ≤ p) (h1 : p < R) (h2 : 0 ≤ q) (h3 : q < C) : Says 20 #[pos R C, .int .i64 (p * C + q)] (.tuple #[pos p q, .int .i64 0]) := by
  have g0 : 0 ≤ p * C := Int.mul_nonneg h0 (by omega)
  have g1 : (p + 1) * C ≤ R * C := Int.mul_le_mul_of_nonneg_right (by omega) (by omega)
  have g2 : (p + 1) * C = p * C + C := by rw [Int.add_mul, Int.one_mul]
  have h := of_core R C (p * C + q) hm false false (by simp; omega) (by simp; omega)
  have d1 : (p * C + q) / C = p := by
    rw [Int.add_comm, Int.add_mul_ediv_right _ _ (by omega), Int.ediv_eq_zero_of_lt h2 h3, Int.zero_add]
  have d2 : (p * C + q) % C = q := by
    rw [Int.add_comm, Int.add_mul_emod_self_right, Int.emod_eq_of_lt h2 h3]
  rw [d1, d2] at h
  exact h

theorem back_calls (R C r c x y : Int) (v : Bool) (w : World) :
    Calls Try.prog 6 #[pos R C, place r c v, pos x y] w fun e w' => e = .returned (.bool true) ∧ Below w.heap.size w w' := by
  by_cases hm : may R C
  · have hMay := refMay_any R C
    rw [decide_eq_true hm] at hMay
    have hR := hm.1
    have hC := hm.2.2.1
    have hR' := hm.2.1
    have hC' := hm.2.2.2
    have hN := near_any R C r c
    rw [nearR_yes hm, nearC_yes hm] at hN
    obtain ⟨A, hA⟩ : ∃ A, A = nr r R := ⟨_, rfl⟩
    obtain ⟨B, hB⟩ : ∃ B, B = nr c C := ⟨_, rfl⟩
    have a0 : 0 ≤ A := by rw [hA]; exact nr_lo _ _
    have a1 : A < R := by rw [hA]; exact nr_hi _ _ hR
    have b0 : 0 ≤ B := by rw [hB]; exact nr_lo _ _
    have b1 : B < C := by rw [hB]; exact nr_hi _ _ hC
    rw [← hA, ← hB] at hN
    clear hA hB
    have hS := step_any R C A B x y false
    rw [nearR_yes hm, nearC_yes hm, nearR_yes hm, nearC_yes hm, nr_in A R a0 a1, nr_in B C b0 b1] at hS
    have c0 := nr_lo (A + cut x 255) R
    have c1 := nr_hi (A + cut x 255) R hR
    have d0 := nr_lo (B + cut y 255) C
    have d1 := nr_hi (B + cut y 255) C hC
    have hT := step_any R C (nr (A + cut x 255) R) (nr (B + cut y 255) C) (-x) (-y) false
    rw [nearR_yes hm, nearC_yes hm, nearR_yes hm, nearC_yes hm, nr_in _ R c0 c1, nr_in _ C d0 d1] at hT
    refine (back_core R C r c x y v A B _ _ _ _ (nr (nr (A + cut x 255) R + cut (-x) 255) R) (nr (nr (B + cut y 255) C + cut (-y) 255) C) _ _ _ _ _ _ hMay hN (index_there R C A B hm a0 a1 b0 b1) (of_there R C A B hm a0 a1 b0 b1) hS (index_there R C _ _ hm c0 c1 d0 d1) ?_ rfl rfl rfl rfl rfl rfl ?_ w).mono fun e w' h => ⟨h.1, h.2.below⟩
    · intro t1 t2 t3 t4
      have t1 : ¬ (x < -1000) := of_decide_eq_false t1
      have t2 : ¬ (1000 < x) := of_decide_eq_false t2
      have t3 : ¬ (y < -1000) := of_decide_eq_false t3
      have t4 : ¬ (1000 < y) := of_decide_eq_false t4
      exact ⟨hT, IntWalk.i64_in _ (by constructor <;> omega), IntWalk.i64_in _ (by constructor <;> omega), IntWalk.i64_in _ (by constructor <;> omega), IntWalk.i64_in _ (by constructor <;> omega)⟩
    · intro q1 q2
      have q1 : nr (A + cut x 255) R = A + x := by simpa using q1
      have q2 : nr (B + cut y 255) C = B + y := by simpa using q2
      refine ⟨?_, ?_⟩
      · rw [q1]; rw [q1] at c0 c1; unfold nr cut; omega
      · rw [q2]; rw [q2] at d0 d1; unfold nr cut; omega
  · exact (back_no R C r c x y v hm w).mono fun e w' h => ⟨h.1, h.2.below⟩

end Go.Proofs.Ytonpkogafgnkjaa
