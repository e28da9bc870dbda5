/-
  WalkCounts: which one a place is, row by row, and which place is the one of a number.
-/
import Derived.Test.YtonpkogafgnkjaaSteps
import Derived.Test.YtonpkogafgnkjaaCount
namespace Go.Proofs.Ytonpkogafgnkjaa
open Go.RowKit

set_option maxHeartbeats 4000000 in
set_option maxRecDepth 100000 in
theorem counts_no (R C r c n : Int) (hm : ¬ may R C) (w : World) :
    Calls Try.prog 5 #[pos R C, pos r c, .int .i64 n] w fun e w' => e = .returned (.bool true) ∧ Kept0 w w' := by
  have HM := Lib.hid (refMay_any R C)
  rw [decide_eq_false hm] at HM
  have HI := Lib.hid (index_no R C r c hm)
  have HO := Lib.hid (of_no R C n hm)
  clear hm
  go_enter Try.func5, Try.ntmps5
  go_wp2_with fail
  refine (HI.out _).mono ?_
  rintro e w1 ⟨rfl, hk1⟩
  have hs : Two w1 w.heap.size R C := (Two.of (heap_old _ _ (heap_new _ _))).kept0 hk1
  have hk : Kept0 w w1 := (((Kept.refl _ w).alloc _).alloc _).trans hk1
  clear hk1
  have s0 := hs.c0
  have s1 := hs.c1
  go_wp2_with fail
  refine (HO.out _).mono ?_
  rintro e w2 ⟨rfl, hk2⟩
  have hs := hs.kept0 hk2
  have hk := hk.trans hk2
  have l2 := hs.lt
  clear hk2 s0 s1
  have s0 := hs.c0
  have s1 := hs.c1
  go_wp2_with fail
  refine (HM.out _).mono ?_
  rintro e w3 ⟨rfl, hk3⟩
  have hq : Two w3 w2.heap.size 0 0 := (Two.of (heap_new _ _)).kept0 hk3
  have hk := (hk.alloc _).trans hk3
  clear hk3 s0 s1 l2
  generalize w2.heap.size = a1 at *
  obtain ⟨c0, c1, _, _⟩ := hq
  go_wp2_with fail
  refine (awake_any _).mono ?_
  rintro e w4 ⟨rfl, hk4⟩
  go_wp2_with fail
  go_ret
  exact ⟨rfl, hk.trans hk4⟩

set_option maxHeartbeats 4000000 in
set_option maxRecDepth 100000 in
theorem counts_core (R C r c n N1 N2 I E Q1 Q2 F : Int) (hM : Says 11 #[pos R C] (.bool true)) (hI : Says 19 #[pos R C, pos r c] (.tuple #[.int .i64 I, .int .i64 E])) (hO : Says 20 #[pos R C, .int .i64 n] (.tuple #[pos Q1 Q2, .int .i64 F])) (hN : Says 13 #[pos R C, pos r c] (pos N1 N2))
    (h1 : (N1 = r ∧ N2 = c ∧ I = r * C + c ∧ E = 0 ∧ IntKind.i64.wrap (r * C) = r * C ∧ IntKind.i64.wrap (r * C + c) = r * C + c) ∨ (¬ (N1 = r ∧ N2 = c) ∧ I = 0 ∧ E = 11))
    (e1 : IntKind.i64.wrap (R * C) = R * C) (n0 : ¬ (C = 0))
    (h2 : (decide (n < 0) = true ∧ Q1 = 0 ∧ Q2 = 0 ∧ F = 11) ∨ (decide (n < 0) = false ∧ decide (R * C ≤ n) = true ∧ Q1 = 0 ∧ Q2 = 0 ∧ F = 11) ∨ (decide (n < 0) = false ∧ decide (R * C ≤ n) = false ∧ IntKind.i64.wrap (n.tdiv C) = Q1 ∧ n.tmod C = Q2 ∧ F = 0)) (w : World) :
    Calls Try.prog 5 #[pos R C, pos r c, .int .i64 n] w fun e w' => e = .returned (.bool true) ∧ Kept0 w w' := by
  have HM := Lib.hid hM
  have HI := Lib.hid hI
  have HO := Lib.hid hO
  have HN := Lib.hid hN
  have H1 := Lib.hid h1
  have H2 := Lib.hid h2
  clear hM hI hO hN h1 h2
  go_enter Try.func5, Try.ntmps5
  go_wp2_with fail
  refine (HI.out _).mono ?_
  rintro e w1 ⟨rfl, hk1⟩
  have hs : Two w1 w.heap.size R C := (Two.of (heap_old _ _ (heap_new _ _))).kept0 hk1
  have hp : Two w1 (w.heap.size + 1) r c := (Two.of (heap_new2 _ _ _)).kept0 hk1
  have hk : Kept0 w w1 := (((Kept.refl _ w).alloc _).alloc _).trans hk1
  clear hk1
  have s0 := hs.c0
  have s1 := hs.c1
  go_wp2_with fail
  refine (HO.out _).mono ?_
  rintro e w2 ⟨rfl, hk2⟩
  have hs := hs.kept0 hk2
  have hp := hp.kept0 hk2
  have hk := hk.trans hk2
  have l2 := hs.lt
  have l3 := hp.lt
  clear hk2 s0 s1
  have s0 := hs.c0
  have s1 := hs.c1
  go_wp2_with fail
  refine (HM.out _).mono ?_
  rintro e w3 ⟨rfl, hk3⟩
  have hq : Two w3 w2.heap.size Q1 Q2 := (Two.of (heap_new _ _)).kept0 hk3
  have kk := ((Kept.refl (fun _ => False) w2).alloc _).trans hk3
  have hs := hs.kept0 kk
  have hp := hp.kept0 kk
  have hk := hk.trans kk
  clear hk3 kk s0 s1 l2 l3
  generalize w2.heap.size = a1 at *
  have s0 := hs.c0
  have s1 := hs.c1
  have p0 := hp.c0
  have p1 := hp.c1
  go_wp2_with fail
  refine (HN.out _).mono ?_
  rintro e w4 ⟨rfl, hk4⟩
  have hs := hs.kept0 hk4
  have hp := hp.kept0 hk4
  have hq := hq.kept0 hk4
  have hk := hk.trans hk4
  have l2 := hs.lt
  have l3 := hp.lt
  have l4 := hq.lt
  clear s0 s1 p0 p1 hk4
  obtain ⟨s0, s1, _, _⟩ := hs
  obtain ⟨p0, p1, _, _⟩ := hp
  obtain ⟨c0, c1, _, _⟩ := hq
  rcases H1.out with ⟨rfl, rfl, rfl, rfl, g1, g2⟩ | ⟨hne, rfl, rfl⟩
  · clear H1
    rcases H2.out with ⟨f1, rfl, rfl, rfl⟩ | ⟨f1, f2, rfl, rfl, rfl⟩ | ⟨f1, f2, f3, f4, rfl⟩
    · clear H2
      go_wp2_with fail
      refine (awake_any _).mono ?_
      rintro e w5 ⟨rfl, hk5⟩
      go_wp2_with fail
      go_ret
      exact ⟨rfl, (hk.alloc _).trans hk5⟩
    · clear H2
      go_wp2_with fail
      refine (awake_any _).mono ?_
      rintro e w5 ⟨rfl, hk5⟩
      go_wp2_with fail
      go_ret
      exact ⟨rfl, (hk.alloc _).trans hk5⟩
    · clear H2
      go_wp2_with fail
      have hk := hk.alloc (Obj.cells #[Value.int IntKind.i64 N1, Value.int IntKind.i64 N2] 25)
      have z0 := kcell ((Kept.refl _ w4).alloc (Obj.cells #[Value.int IntKind.i64 N1, Value.int IntKind.i64 N2] 25)) s0
      have z1 := kcell ((Kept.refl _ w4).alloc (Obj.cells #[Value.int IntKind.i64 N1, Value.int IntKind.i64 N2] 25)) s1
      have z2 := kcell ((Kept.refl _ w4).alloc (Obj.cells #[Value.int IntKind.i64 N1, Value.int IntKind.i64 N2] 25)) c0
      have z3 := kcell ((Kept.refl _ w4).alloc (Obj.cells #[Value.int IntKind.i64 N1, Value.int IntKind.i64 N2] 25)) c1
      generalize w4.alloc (Obj.cells #[Value.int IntKind.i64 N1, Value.int IntKind.i64 N2] 25) = W at *
      go_region_held3 (fun w' => w'.cell? ⟨w.heap.size, 0, none⟩ = some (.int .i64 R) ∧ w'.cell? ⟨w.heap.size, 1, none⟩ = some (.int .i64 C) ∧ w'.cell? ⟨a1, 0, none⟩ = some (.int .i64 Q1) ∧ w'.cell? ⟨a1, 1, none⟩ = some (.int .i64 Q2))
        (first | exact ⟨z0, z1, z2, z3⟩ | exact ⟨kcell kx z0, kcell kx z1, kcell kx z2, kcell kx z3⟩)
        (first
          | (go_at_call 12; refine (awake_any _).mono ?_; rintro e w7 ⟨rfl, hk7⟩; have kx : Kept0 W w7 := (Kept.refl _ W).drew.trans hk7))
      go_wp2_with fail
      go_ret
      exact ⟨rfl, hk.trans kx⟩
  · clear H1
    by_cases h : N1 = r
    · have h' : (N1 == r) = true := by simpa using h
      have h'' : (N2 == c) = false := by simpa using fun e => hne ⟨h, e⟩
      clear h hne
      rcases H2.out with ⟨f1, rfl, rfl, rfl⟩ | ⟨f1, f2, rfl, rfl, rfl⟩ | ⟨f1, f2, f3, f4, rfl⟩
      · clear H2
        go_wp2_with fail
        refine (awake_any _).mono ?_
        rintro e w5 ⟨rfl, hk5⟩
        go_wp2_with fail
        go_ret
        exact ⟨rfl, (hk.alloc _).trans hk5⟩
      · clear H2
        go_wp2_with fail
        refine (awake_any _).mono ?_
        rintro e w5 ⟨rfl, hk5⟩
        go_wp2_with fail
        go_ret
        exact ⟨rfl, (hk.alloc _).trans hk5⟩
      · clear H2
        go_wp2_with fail
        have hk := hk.alloc (Obj.cells #[Value.int IntKind.i64 N1, Value.int IntKind.i64 N2] 25)
        have z0 := kcell ((Kept.refl _ w4).alloc (Obj.cells #[Value.int IntKind.i64 N1, Value.int IntKind.i64 N2] 25)) s0
        have z1 := kcell ((Kept.refl _ w4).alloc (Obj.cells #[Value.int IntKind.i64 N1, Value.int IntKind.i64 N2] 25)) s1
        have z2 := kcell ((Kept.refl _ w4).alloc (Obj.cells #[Value.int IntKind.i64 N1, Value.int IntKind.i64 N2] 25)) c0
        have z3 := kcell ((Kept.refl _ w4).alloc (Obj.cells #[Value.int IntKind.i64 N1, Value.int IntKind.i64 N2] 25)) c1
        generalize w4.alloc (Obj.cells #[Value.int IntKind.i64 N1, Value.int IntKind.i64 N2] 25) = W at *
        go_region_held3 (fun w' => w'.cell? ⟨w.heap.size, 0, none⟩ = some (.int .i64 R) ∧ w'.cell? ⟨w.heap.size, 1, none⟩ = some (.int .i64 C) ∧ w'.cell? ⟨a1, 0, none⟩ = some (.int .i64 Q1) ∧ w'.cell? ⟨a1, 1, none⟩ = some (.int .i64 Q2))
          (first | exact ⟨z0, z1, z2, z3⟩ | exact ⟨kcell kx z0, kcell kx z1, kcell kx z2, kcell kx z3⟩)
          (first
            | (go_at_call 12; refine (awake_any _).mono ?_; rintro e w7 ⟨rfl, hk7⟩; have kx : Kept0 W w7 := (Kept.refl _ W).drew.trans hk7))
        go_wp2_with fail
        go_ret
        exact ⟨rfl, hk.trans kx⟩
    · have h' : (N1 == r) = false := by simpa using h
      clear h hne
      rcases H2.out with ⟨f1, rfl, rfl, rfl⟩ | ⟨f1, f2, rfl, rfl, rfl⟩ | ⟨f1, f2, f3, f4, rfl⟩
      · clear H2
        go_wp2_with fail
        refine (awake_any _).mono ?_
        rintro e w5 ⟨rfl, hk5⟩
        go_wp2_with fail
        go_ret
        exact ⟨rfl, (hk.alloc _).trans hk5⟩
      · clear H2
        go_wp2_with fail
        refine (awake_any _).mono ?_
        rintro e w5 ⟨rfl, hk5⟩
        go_wp2_with fail
        go_ret
        exact ⟨rfl, (hk.alloc _).trans hk5⟩
      · clear H2
        go_wp2_with fail
        have hk := hk.alloc (Obj.cells #[Value.int IntKind.i64 N1, Value.int IntKind.i64 N2] 25)
        have z0 := kcell ((Kept.refl _ w4).alloc (Obj.cells #[Value.int IntKind.i64 N1, Value.int IntKind.i64 N2] 25)) s0
        have z1 := kcell ((Kept.refl _ w4).alloc (Obj.cells #[Value.int IntKind.i64 N1, Value.int IntKind.i64 N2] 25)) s1
        have z2 := kcell ((Kept.refl _ w4).alloc (Obj.cells #[Value.int IntKind.i64 N1, Value.int IntKind.i64 N2] 25)) c0
        have z3 := kcell ((Kept.refl _ w4).alloc (Obj.cells #[Value.int IntKind.i64 N1, Value.int IntKind.i64 N2] 25)) c1
        generalize w4.alloc (Obj.cells #[Value.int IntKind.i64 N1, Value.int IntKind.i64 N2] 25) = W at *
        go_region_held3 (fun w' => w'.cell? ⟨w.heap.size, 0, none⟩ = some (.int .i64 R) ∧ w'.cell? ⟨w.heap.size, 1, none⟩ = some (.int .i64 C) ∧ w'.cell? ⟨a1, 0, none⟩ = some (.int .i64 Q1) ∧ w'.cell? ⟨a1, 1, none⟩ = some (.int .i64 Q2))
          (first | exact ⟨z0, z1, z2, z3⟩ | exact ⟨kcell kx z0, kcell kx z1, kcell kx z2, kcell kx z3⟩)
          (first
            | (go_at_call 12; refine (awake_any _).mono ?_; rintro e w7 ⟨rfl, hk7⟩; have kx : Kept0 W w7 := (Kept.refl _ W).drew.trans hk7))
        go_wp2_with fail
        go_ret
        exact ⟨rfl, hk.trans kx⟩

theorem counts_calls (R C r c n : Int) (w : World) :
    Calls Try.prog 5 #[pos R C, pos r c, .int .i64 n] w fun e w' => e = .returned (.bool true) ∧ Below w.heap.size w w' := by
  by_cases hm : may R C
  · have hMay := refMay_any R C
    rw [decide_eq_true hm] at hMay
    have ha := area_in hm
    have e1 : IntKind.i64.wrap (R * C) = R * C := IntWalk.i64_in _ (by constructor <;> omega)
    have n0 : ¬ (C = 0) := by have := hm.2.2.1; omega
    have hOf := of_core R C n hm _ _ rfl rfl
    have hIn := index_core R C r c hm _ _ rfl rfl
    have h2 : (decide (n < 0) = true ∧ (if decide (n < 0) || decide (R * C ≤ n) then 0 else n / C) = 0 ∧ (if decide (n < 0) || decide (R * C ≤ n) then 0 else n % C) = 0 ∧ (if decide (n < 0) || decide (R * C ≤ n) then (11 : Int) else 0) = 11) ∨ (decide (n < 0) = false ∧ decide (R * C ≤ n) = true ∧ (if decide (n < 0) || decide (R * C ≤ n) then 0 else n / C) = 0 ∧ (if decide (n < 0) || decide (R * C ≤ n) then 0 else n % C) = 0 ∧ (if decide (n < 0) || decide (R * C ≤ n) then (11 : Int) else 0) = 11) ∨ (decide (n < 0) = false ∧ decide (R * C ≤ n) = false ∧ IntKind.i64.wrap (n.tdiv C) = (if decide (n < 0) || decide (R * C ≤ n) then 0 else n / C) ∧ n.tmod C = (if decide (n < 0) || decide (R * C ≤ n) then 0 else n % C) ∧ (if decide (n < 0) || decide (R * C ≤ n) then (11 : Int) else 0) = 0) := by
      by_cases f1 : n < 0
      · left; simp [f1]
      · by_cases f2 : R * C ≤ n
        · right; left; simp [f1, f2]
        · right; right
          have f3 : 0 ≤ n := by omega
          have d1 : IntKind.i64.wrap (n.tdiv C) = n / C := by
            rw [Int.tdiv_eq_ediv_of_nonneg f3]
            have g1 : 0 ≤ n / C := Int.ediv_nonneg f3 (by have := hm.2.2.1; omega)
            have g2 : n / C ≤ n := Int.ediv_le_self _ f3
            exact IntWalk.i64_in _ (by constructor <;> omega)
          have d2 : n.tmod C = n % C := Int.tmod_eq_emod_of_nonneg f3
          simp [f1, f2, d1, d2]
    have h1 : (nr r R = r ∧ nr c C = c ∧ (if (nr r R == r) && (nr c C == c) then r * C + c else 0) = r * C + c ∧ (if (nr r R == r) && (nr c C == c) then (0 : Int) else 11) = 0 ∧ IntKind.i64.wrap (r * C) = r * C ∧ IntKind.i64.wrap (r * C + c) = r * C + c) ∨ (¬ (nr r R = r ∧ nr c C = c) ∧ (if (nr r R == r) && (nr c C == c) then r * C + c else 0) = 0 ∧ (if (nr r R == r) && (nr c C == c) then (0 : Int) else 11) = 11) := by
      by_cases f : nr r R = r ∧ nr c C = c
      · left
        obtain ⟨q1, q2⟩ := f
        have g1 : IntKind.i64.wrap (r * C) = r * C := IntWalk.i64_in _ (mul_in q1 hm)
        have g2 : IntKind.i64.wrap (r * C + c) = r * C + c := IntWalk.i64_in _ (by have := mul_in' q1 hm; have := nr_lo c C; have := nr_hi c C hm.2.2.1; have := hm.2.2.2; constructor <;> omega)
        simp [q1, q2, g1, g2]
      · right
        refine ⟨f, ?_, ?_⟩ <;> simp <;> exact fun a b => absurd ⟨a, b⟩ f
    exact (counts_core R C r c n (nr r R) (nr c C) _ _ _ _ _ hMay hIn hOf (refNear_any R C r c hm) h1 e1 n0 h2 w).mono fun e w' h => ⟨h.1, h.2.below⟩
  · exact (counts_no R C r c n hm w).mono fun e w' h => ⟨h.1, h.2.below⟩

end Go.Proofs.Ytonpkogafgnkjaa
