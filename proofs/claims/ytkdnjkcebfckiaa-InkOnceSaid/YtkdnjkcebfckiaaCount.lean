/-
  Index and Of.
-/
import Derived.Test.YtkdnjkcebfckiaaNear
namespace Go.Proofs.Ytkdnjkcebfckiaa
open Go.RowKit

set_option maxHeartbeats 1000000 in
/-- Of a size that may not be. -/
theorem index_no (R C r c : Int) (hm : ¬ may R C) (w : World) :
    Calls Try.prog 59 #[pos R C, pos r c] w fun e w' => e = .returned (.tuple #[.int .i64 0, .int .i64 10]) ∧ Kept0 w w' := by
  have HQ := Lib.hid (mayEno hm)
  clear hm
  go_enter Try.func59, Try.ntmps59
  go_wp2_with fail
  refine (may_any _ _ _).mono ?_
  rintro e w1 ⟨rfl, hk1⟩
  rw [HQ.out]
  go_wp2_with fail
  go_ret2
  exact ⟨rfl, (((Kept.refl _ w).alloc _).alloc _).trans hk1⟩

theorem mul_in' {R C r : Int} (h : nr r R = r) (hm : may R C) : 0 ≤ r * C ∧ r * C ≤ 255 * 255 := by
  have h0 : 0 ≤ r := by have := nr_lo r R; omega
  have h1 : r ≤ 255 := by have := nr_hi r R hm.1; have := hm.2.1; omega
  have h2 := hm.2.2.1
  have h3 := hm.2.2.2
  refine ⟨Int.mul_nonneg h0 (by omega), Int.mul_le_mul h1 h3 (by omega) (by omega)⟩
theorem mul_in {R C r : Int} (h : nr r R = r) (hm : may R C) : -9223372036854775808 ≤ r * C ∧ r * C ≤ 9223372036854775807 := by
  have := mul_in' h hm
  omega

/-- Which one a place is, or why none. -/
def indexV (b1 b2 : Bool) (x : Int) : Value := .tuple #[.int .i64 (if b1 && b2 then x else 0), .int .i64 (if b1 && b2 then 0 else 11)]

set_option maxHeartbeats 2000000 in
theorem index_core (R C r c : Int) (hm : may R C) (b1 b2 : Bool) (h1 : (nr r R == r) = b1) (h2 : (nr c C == c) = b2) (w : World) :
    Calls Try.prog 59 #[pos R C, pos r c] w fun e w' => e = .returned (indexV b1 b2 (r * C + c)) ∧ Kept0 w w' := by
  have HQ := Lib.hid (mayEyes hm)
  have HG1 := Lib.hid (show nearR R C r = nr r R from if_pos hm)
  have HG2 := Lib.hid (show nearC R C c = nr c C from if_pos hm)
  have HM := Lib.hid hm
  have H1 := Lib.hid h1
  have H2 := Lib.hid h2
  clear hm
  go_enter Try.func59, Try.ntmps59
  go_wp2_with fail
  refine (may_any _ _ _).mono ?_
  rintro e w1 ⟨rfl, hk1⟩
  rw [HQ.out]
  have hs : Two w1 w.heap.size R C := (Two.of (heap_old _ _ (heap_new _ _))).kept0 hk1
  have hp : Two w1 (w.heap.size + 1) r c := (Two.of (heap_new2 _ _ _)).kept0 hk1
  have hk : Kept0 w w1 := (((Kept.refl _ w).alloc _).alloc _).trans hk1
  clear hk1
  obtain ⟨s0, s1, s2, s3⟩ := hs
  obtain ⟨p0, p1, p2, p3⟩ := hp
  go_wp2_with fail
  cases b1
  · go_region_held3 (fun w' => w'.cell? ⟨w.heap.size, 0, none⟩ = some (.int .i64 R) ∧ w'.cell? ⟨w.heap.size, 1, none⟩ = some (.int .i64 C) ∧ w'.cell? ⟨w.heap.size + 1, 0, none⟩ = some (.int .i64 r) ∧ w'.cell? ⟨w.heap.size + 1, 1, none⟩ = some (.int .i64 c)) (go_keep)
     (first
       | (go_at_call 47; refine (near_any _ _ _ _ _).mono ?_; rintro e w2 ⟨rfl, hk2⟩; rw [HG1.out, HG2.out]; have z0 := kcell hk2 s0; have z1 := kcell hk2 s1; have z2 := kcell hk2 p0; have z3 := kcell hk2 p1))
    go_wp2_with fail
    go_ret2
    exact ⟨rfl, hk.drew.trans hk2⟩
  cases b2
  · go_region_held3 (fun w' => w'.cell? ⟨w.heap.size, 0, none⟩ = some (.int .i64 R) ∧ w'.cell? ⟨w.heap.size, 1, none⟩ = some (.int .i64 C) ∧ w'.cell? ⟨w.heap.size + 1, 0, none⟩ = some (.int .i64 r) ∧ w'.cell? ⟨w.heap.size + 1, 1, none⟩ = some (.int .i64 c)) (go_keep)
     (first
       | (go_at_call 47; refine (near_any _ _ _ _ _).mono ?_; rintro e w2 ⟨rfl, hk2⟩; rw [HG1.out, HG2.out]; have z0 := kcell hk2 s0; have z1 := kcell hk2 s1; have z2 := kcell hk2 p0; have z3 := kcell hk2 p1))
    go_wp2_with fail
    go_ret2
    exact ⟨rfl, hk.drew.trans hk2⟩
  · have hm := HM.out
    have q1 : nr r R = r := by simpa using H1.out
    have q2 : nr c C = c := by simpa using H2.out
    have e1 : IntKind.i64.wrap (r * C) = r * C := IntWalk.i64_in _ (mul_in q1 hm)
    have e2 : IntKind.i64.wrap (r * C + c) = r * C + c := IntWalk.i64_in _ (by have := mul_in' q1 hm; have := nr_lo c C; have := nr_hi c C hm.2.2.1; have := hm.2.2.2; constructor <;> omega)
    clear q1 q2 hm
    go_region_held3 (fun w' => w'.cell? ⟨w.heap.size, 0, none⟩ = some (.int .i64 R) ∧ w'.cell? ⟨w.heap.size, 1, none⟩ = some (.int .i64 C) ∧ w'.cell? ⟨w.heap.size + 1, 0, none⟩ = some (.int .i64 r) ∧ w'.cell? ⟨w.heap.size + 1, 1, none⟩ = some (.int .i64 c)) (go_keep)
     (first
       | (go_at_call 47; refine (near_any _ _ _ _ _).mono ?_; rintro e w2 ⟨rfl, hk2⟩; rw [HG1.out, HG2.out]; have z0 := kcell hk2 s0; have z1 := kcell hk2 s1; have z2 := kcell hk2 p0; have z3 := kcell hk2 p1))
    go_wp2_with fail
    go_ret2
    exact ⟨rfl, hk.drew.trans hk2⟩

set_option maxHeartbeats 1000000 in
/-- Of a size that may not be. -/
theorem of_no (R C n : Int) (hm : ¬ may R C) (w : World) :
    Calls Try.prog 60 #[pos R C, .int .i64 n] w fun e w' => e = .returned (.tuple #[pos 0 0, .int .i64 10]) ∧ Kept0 w w' := by
  have HQ := Lib.hid (mayEno hm)
  clear hm
  go_enter Try.func60, Try.ntmps60
  go_wp2_with fail
  refine (may_any _ _ _).mono ?_
  rintro e w1 ⟨rfl, hk1⟩
  rw [HQ.out]
  have ho : Two w1 (w.heap.size + 1) 0 0 := (Two.of (heap_new2 _ _ _)).kept0 hk1
  have hk : Kept0 w w1 := (((Kept.refl _ w).alloc _).alloc _).trans hk1
  clear hk1
  obtain ⟨o0, o1, o2, o3⟩ := ho
  go_wp2_with fail
  exact bodyPost_ret (v := .tuple #[pos 0 0, .int .i64 10]) (by simp [results, Try.results60, go_sem, *]) rfl ⟨rfl, (hk.setCell _ (Or.inl (Nat.le_add_right _ 1)) _).setCell _ (Or.inl (Nat.le_add_right _ 1)) _⟩

theorem area_in {R C : Int} (hm : may R C) : 1 ≤ R * C ∧ R * C ≤ 255 * 255 := by
  have h0 := hm.1
  have h1 := hm.2.1
  have h2 := hm.2.2.1
  have h3 := hm.2.2.2
  have h4 : 1 * 1 ≤ R * C := Int.mul_le_mul h0 h2 (by omega) (by omega)
  exact ⟨by omega, Int.mul_le_mul h1 h3 (by omega) (by omega)⟩

/-- The place of a number, or why none. -/
def ofV (b1 b2 : Bool) (x y : Int) : Value := .tuple #[pos (if b1 || b2 then 0 else x) (if b1 || b2 then 0 else y), .int .i64 (if b1 || b2 then 11 else 0)]

set_option maxHeartbeats 2000000 in
theorem of_core (R C n : Int) (hm : may R C) (b1 b2 : Bool) (h1 : decide (n < 0) = b1) (h2 : decide (R * C ≤ n) = b2) (w : World) :
    Calls Try.prog 60 #[pos R C, .int .i64 n] w fun e w' => e = .returned (ofV b1 b2 (n / C) (n % C)) ∧ Kept0 w w' := by
  have HQ := Lib.hid (mayEyes hm)
  have HM := Lib.hid hm
  have H1 := Lib.hid h1
  have H2 := Lib.hid h2
  have e1 : IntKind.i64.wrap (R * C) = R * C := IntWalk.i64_in _ (by have := area_in hm; constructor <;> omega)
  have n0 : ¬ (C = 0) := by have := hm.2.2.1; omega
  clear hm
  go_enter Try.func60, Try.ntmps60
  go_wp2_with fail
  refine (may_any _ _ _).mono ?_
  rintro e w1 ⟨rfl, hk1⟩
  rw [HQ.out]
  have hs : Two w1 w.heap.size R C := (Two.of (heap_old _ _ (heap_new _ _))).kept0 hk1
  have ho : Two w1 (w.heap.size + 1) 0 0 := (Two.of (heap_new2 _ _ _)).kept0 hk1
  have hk : Kept0 w w1 := (((Kept.refl _ w).alloc _).alloc _).trans hk1
  clear hk1
  obtain ⟨s0, s1, s2, s3⟩ := hs
  obtain ⟨o0, o1, o2, o3⟩ := ho
  cases b1
  · cases b2
    · have f1 : 0 ≤ n := by simpa using h1
      have f2 : n < R * C := by simpa using h2
      have hm := HM.out
      have f3 := area_in hm
      have d1 : IntKind.i64.wrap (n.tdiv C) = n / C := by
        rw [Int.tdiv_eq_ediv_of_nonneg f1]
        have g1 : 0 ≤ n / C := Int.ediv_nonneg f1 (by have := hm.2.2.1; omega)
        have g2 : n / C ≤ n := Int.ediv_le_self _ f1
        exact IntWalk.i64_in _ (by constructor <;> omega)
      have d2 : n.tmod C = n % C := Int.tmod_eq_emod_of_nonneg f1
      have DD1 := Lib.hid d1
      have DD2 := Lib.hid d2
      clear f1 f2 f3 hm d1 d2
      go_wp2_with fail
      go_region_held3 (fun w' => w'.cell? ⟨w.heap.size, 0, none⟩ = some (.int .i64 R) ∧ w'.cell? ⟨w.heap.size, 1, none⟩ = some (.int .i64 C)) (go_keep) (fail)
      rw [DD1.out, DD2.out]
      go_wp2_with fail
      exact bodyPost_ret (v := .tuple #[pos (n / C) (n % C), .int .i64 0]) (by simp [results, Try.results60, go_sem, *]) rfl ⟨rfl, ((hk.setCell _ (Or.inl (Nat.le_add_right _ 1)) _).setCell _ (Or.inl (Nat.le_add_right _ 1)) _).drew⟩
    · go_wp2_with fail
      exact bodyPost_ret (v := .tuple #[pos 0 0, .int .i64 11]) (by simp [results, Try.results60, go_sem, *]) rfl ⟨rfl, (hk.setCell _ (Or.inl (Nat.le_add_right _ 1)) _).setCell _ (Or.inl (Nat.le_add_right _ 1)) _⟩
  · go_wp2_with fail
    exact bodyPost_ret (v := .tuple #[pos 0 0, .int .i64 11]) (by simp [results, Try.results60, go_sem, *]) rfl ⟨rfl, (hk.setCell _ (Or.inl (Nat.le_add_right _ 1)) _).setCell _ (Or.inl (Nat.le_add_right _ 1)) _⟩

end Go.Proofs.Ytkdnjkcebfckiaa
