/-
  GlyphBack answers true.
-/
import Derived.Test.YtnnhkejflmjnhaaTurns
namespace Go.Proofs.Ytnnhkejflmjnhaa
open Go.RowKit

set_option maxRecDepth 100000 in
set_option maxHeartbeats 8000000 in
theorem backs_core (s0 s1 r g wi vi : Int) (xi yi b : Nat) (xb yb : Bool) (w : World) (hxi : xi < 256) (hyi : yi < 256)
    (HBk : Ans 13 #[.int .i64 s0, .int .i32 r] (.tuple #[.int .u8 (xi : Int), .bool xb])) (HRb : Ans 14 #[.int .i64 s0, .int .i32 r] (.int .i64 wi))
    (HTu : Ans 15 #[.int .i64 s0, .int .i64 s1, .int .u8 (b : Int)] (.tuple #[.int .u8 (yi : Int), .bool yb]))
    (HOf : Ans 10 #[.int .i64 s0, .int .u8 (b : Int)] (.int .i32 g)) (HRt : Ans 14 #[.int .i64 s1, .int .i32 g] (.int .i64 vi))
    (hx1 : xb = true → wi = xi) (hx2 : xb = false → wi = -1 ∧ xi = 0) (hy1 : yb = true → vi = yi) (hy2 : yb = false → vi = -1 ∧ yi = 0) :
    Calls Try.prog 4 #[.agg #[.int .i64 s0, .int .i64 s1], .int .i32 r, .int .u8 (b : Int)] w fun e w' => e = .returned (.bool true) ∧ Below w.heap.size w w' := by
  have H1 := Lib.hid HBk
  have H2 := Lib.hid HRb
  have H3 := Lib.hid HTu
  have H4 := Lib.hid HOf
  have H5 := Lib.hid HRt
  have HX1 := Lib.hid hx1
  have HX2 := Lib.hid hx2
  have HY1 := Lib.hid hy1
  have HY2 := Lib.hid hy2
  clear HBk HRb HTu HOf HRt hx1 hx2 hy1 hy2
  go_enter Try.func4, Try.ntmps4
  go_wp2_with fail
  obtain ⟨w0, hw0⟩ : ∃ w0, w0 = w.alloc (.cells #[.int .i64 s0, .int .i64 s1] 28) := ⟨_, rfl⟩
  have c0 : w0.cell? ⟨w.heap.size, 0, none⟩ = some (.int .i64 s0) := by rw [hw0]; simp [go_sem]
  have c1 : w0.cell? ⟨w.heap.size, 1, none⟩ = some (.int .i64 s1) := by rw [hw0]; simp [go_sem]
  have hk0 : Kept0 w w0 := by rw [hw0]; exact (Kept.refl _ w).alloc _
  rw [← hw0]
  clear hw0
  refine (H1.out _).mono ?_
  rintro e w1 ⟨rfl, hk1⟩
  replace c0 := kcell hk1 c0
  replace c1 := kcell hk1 c1
  replace hk0 := hk0.trans hk1
  clear hk1 H1
  go_wp2_with fail
  refine (H2.out _).mono ?_
  rintro e w2 ⟨rfl, hk1⟩
  replace c0 := kcell hk1 c0
  replace c1 := kcell hk1 c1
  replace hk0 := hk0.trans hk1
  clear hk1 H2
  have hcx : (xb = true ∧ wi = xi) ∨ (xb = false ∧ wi = -1 ∧ xi = 0) := by
    cases xb
    · exact Or.inr ⟨rfl, HX2.out rfl⟩
    · exact Or.inl ⟨rfl, HX1.out rfl⟩
  have hcy : (yb = true ∧ vi = yi) ∨ (yb = false ∧ vi = -1 ∧ yi = 0) := by
    cases yb
    · exact Or.inr ⟨rfl, HY2.out rfl⟩
    · exact Or.inl ⟨rfl, HY1.out rfl⟩
  clear HX1 HX2 HY1 HY2
  have HCY := Lib.hid hcy
  clear hcy
  rcases hcx with ⟨rfl, rfl⟩ | ⟨rfl, rfl, rfl⟩
  all_goals
    go_wp2_with fail
    refine (H3.out _).mono ?_
    rintro e w3 ⟨rfl, hk1⟩
    replace c0 := kcell hk1 c0
    replace c1 := kcell hk1 c1
    replace hk0 := hk0.trans hk1
    clear hk1 H3
    go_wp2_with fail
    refine wp_calm (fun w' => Kept0 w3 w') ((Kept.refl _ w3).drewN 1) (by kernel_rfl) (by kernel_rfl) ?_
    refine calm_op (.pointer (some ⟨w.heap.size, 1, none⟩)) (by kernel_rfl) (fun w' hw' => by go_simp) ?_
    simp only [Act.put, List.setIfInBounds_toArray, List.set_cons_zero, List.set_cons_succ]
    refine calm_op (.int .i64 s1) (by kernel_rfl) (fun w' hw' => by have y := kcell hw' c1; go_simp) ?_
    simp only [Act.put, List.setIfInBounds_toArray, List.set_cons_zero, List.set_cons_succ]
    refine calm_op (.pointer (some ⟨w.heap.size, 0, none⟩)) (by kernel_rfl) (fun w' hw' => by go_simp) ?_
    simp only [Act.put, List.setIfInBounds_toArray, List.set_cons_zero, List.set_cons_succ]
    refine calm_op (.int .i64 s0) (by kernel_rfl) (fun w' hw' => by have y := kcell hw' c0; go_simp) ?_
    simp only [Act.put, List.setIfInBounds_toArray, List.set_cons_zero, List.set_cons_succ]
    refine calm_op (.int .u8 (b : Int)) (by kernel_rfl) (fun w' hw' => by go_simp) ?_
    simp only [Act.put, List.setIfInBounds_toArray, List.set_cons_zero, List.set_cons_succ]
    refine calm_op (.int .i32 g) (by kernel_rfl) (fun w' hw' => ?_) ?_
    · go_simp
      exact (H4.out w').mono fun e w5 ⟨h1, h2⟩ => ⟨h1, hw'.trans h2⟩
    simp only [Act.put, List.setIfInBounds_toArray, List.set_cons_zero, List.set_cons_succ]
    refine calm_op (.int .i64 vi) (by kernel_rfl) (fun w' hw' => ?_) ?_
    · go_simp
      exact (H5.out w').mono fun e w5 ⟨h1, h2⟩ => ⟨h1, hw'.trans h2⟩
    simp only [Act.put, List.setIfInBounds_toArray, List.set_cons_zero, List.set_cons_succ]
    refine calm_op (.int .i64 vi) (by kernel_rfl) (fun w' hw' => by go_simp) ?_
    simp only [Act.put, List.setIfInBounds_toArray, List.set_cons_zero, List.set_cons_succ]
    refine wpQuiet_nil ?_
    rintro w4 hk1
    replace hk0 := hk0.trans hk1
    clear hk1 c0 c1 H4 H5
    rcases HCY.out with ⟨rfl, rfl⟩ | ⟨rfl, rfl, rfl⟩
    all_goals
      go_wp2_with fail
      refine (awake_any _).mono ?_
      rintro e w9 ⟨rfl, hk1⟩
      go_wp2_with fail
      go_ret
      exact ⟨rfl, Kept0.below (hk0.trans hk1)⟩

theorem bk_lt (set r : Int) : (bk set r).getD 0 < 256 := by
  cases h : bk set r with
  | none => simp
  | some b => exact (bk_some h).2.1

theorem backs_calls (s0 s1 r : Int) (b : Nat) (hb : b < 256) (w : World) :
    Calls Try.prog 4 #[.agg #[.int .i64 s0, .int .i64 s1], .int .i32 r, .int .u8 (b : Int)] w fun e w' => e = .returned (.bool true) ∧ Below w.heap.size w w' :=
  backs_core s0 s1 r (refN s0 b) (bkI (bk s0 r)) (bkI (bk s1 (refN s0 b))) ((bk s0 r).getD 0) ((bk s1 (refN s0 b)).getD 0) b (bk s0 r).isSome (bk s1 (refN s0 b)).isSome w (bk_lt _ _) (bk_lt _ _)
    (back_any s0 r) (refBack_any s0 r) (turn_any s0 s1 b hb) (ref_any s0 b hb) (refBack_any s1 _)
    (fun h => by obtain ⟨x, hx⟩ := Option.isSome_iff_exists.1 h; rw [hx]; rfl) (fun h => by cases hx : bk s0 r with
      | none => exact ⟨rfl, rfl⟩
      | some x => rw [hx] at h; cases h)
    (fun h => by obtain ⟨x, hx⟩ := Option.isSome_iff_exists.1 h; rw [hx]; rfl) (fun h => by cases hx : bk s1 (refN s0 b) with
      | none => exact ⟨rfl, rfl⟩
      | some x => rw [hx] at h; cases h)

#print axioms backs_calls
end Go.Proofs.Ytnnhkejflmjnhaa
