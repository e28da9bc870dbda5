/-
  The law WipeParts, of parts that are.
-/
import Derived.Test.YtedgnjideemfbaaAwake
import Derived.Test.YtedgnjideemfbaaPartC
namespace Go.Proofs.Ytedgnjideemfbaa
open Go.RowKit

theorem same_pos' (a b : Int) (w : World) : (Op.equalIn 10000 36 (.agg #[.int .i64 a, .int .i64 b]) (.agg #[.int .i64 a, .int .i64 b])).run Try.prog w = .ok true w := by
  rw [run_equalIn_agg w 9999 36 _ _ (by kernel_rfl) (by kernel_rfl)]
  simp [go_sem]

set_option maxHeartbeats 4000000 in
set_option maxRecDepth 100000 in
theorem parts_core (R C r c p A1 A2 B1 B2 A B : Int) (w : World) (h1 : 1 ≤ R ∧ R ≤ 255 ∧ 1 ≤ C ∧ C ≤ 255) (h2 : 0 ≤ r ∧ r < R ∧ 0 ≤ c ∧ c < C) (h3 : 1 ≤ p ∧ p ≤ 6)
    (hp : ∀ w', Calls Try.prog 15 #[.agg #[.int .i64 R, .int .i64 C], .agg #[.int .i64 r, .int .i64 c], .int .i64 p] w' fun e w'' => e = .returned (.tuple #[.agg #[.int .i64 A1, .int .i64 A2], .agg #[.int .i64 B1, .int .i64 B2], .int .i64 0]) ∧ Kept0 w' w'')
    (hq : ∀ w', Calls Try.prog 16 #[.agg #[.int .i64 R, .int .i64 C], .agg #[.int .i64 r, .int .i64 c], .int .i64 p] w' fun e w'' => e = .returned (.tuple #[.int .i64 A, .int .i64 B]) ∧ Kept0 w' w'')
    (hA : IntKind.i64.wrap (A.tdiv C) = A1 ∧ A.tmod C = A2) (hB : IntKind.i64.wrap (B.tdiv C) = B1 ∧ B.tmod C = B2) :
    Calls Try.prog 4 #[.agg #[.int .i64 R, .int .i64 C], .agg #[.int .i64 r, .int .i64 c], .int .i64 p] w fun e w' => e = .returned (.bool true) ∧ Kept0 w w' := by
  have HP := Lib.hid hp
  have HQ := Lib.hid hq
  obtain ⟨a1, a2, a3, a4⟩ := h1
  obtain ⟨b1, b2, b3, b4⟩ := h2
  obtain ⟨p1, p2⟩ := h3
  have hs1 : ∀ w, (Op.equalIn 10000 36 (.agg #[.int .i64 A1, .int .i64 A2]) (.agg #[.int .i64 (IntKind.i64.wrap (A.tdiv C)), .int .i64 (A.tmod C)])).run Try.prog w = .ok true w := fun w => by rw [hA.1, hA.2]; exact same_pos' A1 A2 w
  have hs2 : ∀ w, (Op.equalIn 10000 36 (.agg #[.int .i64 B1, .int .i64 B2]) (.agg #[.int .i64 (IntKind.i64.wrap (B.tdiv C)), .int .i64 (B.tmod C)])).run Try.prog w = .ok true w := fun w => by rw [hB.1, hB.2]; exact same_pos' B1 B2 w
  clear hp hq hA hB
  go_enter Try.func4, Try.ntmps4
  go_wp2_with fail
  refine (HP.out _).mono ?_
  rintro e w1 ⟨rfl, hk1⟩
  have kk : Kept0 w w1 := (((Kept.refl _ w).alloc _).alloc _).trans hk1
  have q0 : w1.cell? ⟨w.heap.size, 0, none⟩ = some (.int .i64 R) := kcell hk1 (by simp [go_sem])
  have q1 : w1.cell? ⟨w.heap.size, 1, none⟩ = some (.int .i64 C) := kcell hk1 (by simp [go_sem])
  have q2 : w1.cell? ⟨w.heap.size + 1, 0, none⟩ = some (.int .i64 r) := kcell hk1 (by simp [go_sem])
  have q3 : w1.cell? ⟨w.heap.size + 1, 1, none⟩ = some (.int .i64 c) := kcell hk1 (by simp [go_sem])
  clear hk1 HP
  have Z0 : ∀ o o', ((w1.alloc o).alloc o').cell? ⟨w.heap.size, 0, none⟩ = some (.int .i64 R) := fun _ _ => kcell (((Kept.refl _ w1).alloc _).alloc _) q0
  have Z1 : ∀ o o', ((w1.alloc o).alloc o').cell? ⟨w.heap.size, 1, none⟩ = some (.int .i64 C) := fun _ _ => kcell (((Kept.refl _ w1).alloc _).alloc _) q1
  have Z2 : ∀ o o', ((w1.alloc o).alloc o').cell? ⟨w.heap.size + 1, 0, none⟩ = some (.int .i64 r) := fun _ _ => kcell (((Kept.refl _ w1).alloc _).alloc _) q2
  have Z3 : ∀ o o', ((w1.alloc o).alloc o').cell? ⟨w.heap.size + 1, 1, none⟩ = some (.int .i64 c) := fun _ _ => kcell (((Kept.refl _ w1).alloc _).alloc _) q3
  go_wp2_with fail
  obtain ⟨W, hW⟩ : ∃ W, W = (w1.alloc (.cells #[.int .i64 A1, .int .i64 A2] 36)).alloc (.cells #[.int .i64 B1, .int .i64 B2] 36) := ⟨_, rfl⟩
  have kW : Kept0 w1 W := by rw [hW]; exact ((Kept.refl _ w1).alloc _).alloc _
  have x0 : W.cell? ⟨w1.heap.size, 0, none⟩ = some (.int .i64 A1) := by rw [hW]; simp [go_sem]
  have x1 : W.cell? ⟨w1.heap.size, 1, none⟩ = some (.int .i64 A2) := by rw [hW]; simp [go_sem]
  have x2 : W.cell? ⟨w1.heap.size + 1, 0, none⟩ = some (.int .i64 B1) := by rw [hW]; simp [go_sem]
  have x3 : W.cell? ⟨w1.heap.size + 1, 1, none⟩ = some (.int .i64 B2) := by rw [hW]; simp [go_sem]
  rw [← hW]
  clear hW Z0 Z1 Z2 Z3
  refine (HQ.out _).mono ?_
  rintro e w2 ⟨rfl, hk2⟩
  have k2 := kW.trans hk2
  replace q1 := kcell k2 q1
  replace x0 := kcell hk2 x0
  replace x1 := kcell hk2 x1
  replace x2 := kcell hk2 x2
  replace x3 := kcell hk2 x3
  have K2 := Lib.hid (kk.trans k2)
  clear hk2 k2 kW kk q0 q2 q3 HQ
  have hC0 : ¬ C = 0 := by omega
  have hC1 : (C == 0) = false := by simp; omega
  go_wp2_with fail
  try simp only [List.append_eq, List.cons_append, List.nil_append]
  have KD : Hid (Kept0 w2 w2.drew) := (Kept.refl _ w2).drew
  go_region_held3 (fun w' => w'.cell? ⟨w.heap.size, 1, none⟩ = some (.int .i64 C) ∧ w'.cell? ⟨w1.heap.size, 0, none⟩ = some (.int .i64 A1) ∧ w'.cell? ⟨w1.heap.size, 1, none⟩ = some (.int .i64 A2) ∧ w'.cell? ⟨w1.heap.size + 1, 0, none⟩ = some (.int .i64 B1) ∧ w'.cell? ⟨w1.heap.size + 1, 1, none⟩ = some (.int .i64 B2) ∧ Hid (Kept0 w2 w')) (go_keep)
    (first
      | (go_at_call 10; refine (awake_any _).mono ?_; rintro e9 w4 ⟨rfl, hk4⟩; have hk5 : Hid (Kept0 w2 w4) := Kept.trans (Hid.out (by assumption)) hk4; have v0 := kcell hk5.out q1; have v1 := kcell hk5.out x0; have v2 := kcell hk5.out x1; have v3 := kcell hk5.out x2; have v4 := kcell hk5.out x3))
  all_goals
    go_wp2_with fail
    go_ret
    exact ⟨rfl, K2.out.trans (Hid.out (by assumption))⟩

/-- A place's number tells its row and its column. -/
theorem num_place {a b C X : Int} (ha : 0 ≤ a) (ha2 : a ≤ 255) (hb : 0 ≤ b) (hb2 : b < C) (hC : C ≤ 255) (hX : X = a * C + b) : IntKind.i64.wrap (X.tdiv C) = a ∧ X.tmod C = b := by
  have h0 : 0 ≤ a * C := Int.mul_nonneg ha (by omega)
  have h1 : a * C ≤ 255 * 255 := Int.mul_le_mul ha2 (by omega) (by omega) (by omega)
  have h2 := (Int.ediv_emod_unique (a := X) (b := C) (q := a) (r := b) (by omega)).2 ⟨by rw [hX, Int.mul_comm C a]; omega, hb, hb2⟩
  constructor
  · rw [IntWalk.i64_quo X C ⟨by omega, by omega, by omega⟩]
    exact h2.1
  · rw [Int.tmod_eq_emod_of_nonneg (by omega)]
    exact h2.2

theorem num_from {R C r c p : Int} (h1 : 1 ≤ R ∧ R ≤ 255 ∧ 1 ≤ C ∧ C ≤ 255) (h2 : 0 ≤ r ∧ r < R ∧ 0 ≤ c ∧ c < C) (h3 : 1 ≤ p ∧ p ≤ 6) : IntKind.i64.wrap ((refA C r c p).tdiv C) = fromR r p ∧ (refA C r c p).tmod C = fromC c p := by
  have hp : p = 1 ∨ p = 2 ∨ p = 3 ∨ p = 4 ∨ p = 5 ∨ p = 6 := by omega
  rcases hp with rfl | rfl | rfl | rfl | rfl | rfl
  · exact num_place (a := 0) (b := 0) (by omega) (by omega) (by omega) (by omega) (by omega) (show (0 : Int) = 0 * C + 0 by omega)
  · exact num_place (a := r) (b := c) (by omega) (by omega) (by omega) (by omega) (by omega) rfl
  · exact num_place (a := 0) (b := 0) (by omega) (by omega) (by omega) (by omega) (by omega) (show (0 : Int) = 0 * C + 0 by omega)
  · exact num_place (a := r) (b := 0) (by omega) (by omega) (by omega) (by omega) (by omega) (show r * C = r * C + 0 by omega)
  · exact num_place (a := r) (b := c) (by omega) (by omega) (by omega) (by omega) (by omega) rfl
  · exact num_place (a := r) (b := 0) (by omega) (by omega) (by omega) (by omega) (by omega) (show r * C = r * C + 0 by omega)

theorem num_to {R C r c p : Int} (h1 : 1 ≤ R ∧ R ≤ 255 ∧ 1 ≤ C ∧ C ≤ 255) (h2 : 0 ≤ r ∧ r < R ∧ 0 ≤ c ∧ c < C) (h3 : 1 ≤ p ∧ p ≤ 6) : IntKind.i64.wrap ((refB R C r c p).tdiv C) = toR R r p ∧ (refB R C r c p).tmod C = toC C c p := by
  have hp : p = 1 ∨ p = 2 ∨ p = 3 ∨ p = 4 ∨ p = 5 ∨ p = 6 := by omega
  have e : R * C - 1 = (R - 1) * C + (C - 1) := by rw [Int.sub_mul]; omega
  rcases hp with rfl | rfl | rfl | rfl | rfl | rfl
  · exact num_place (a := R - 1) (b := C - 1) (by omega) (by omega) (by omega) (by omega) (by omega) e
  · exact num_place (a := R - 1) (b := C - 1) (by omega) (by omega) (by omega) (by omega) (by omega) e
  · exact num_place (a := r) (b := c) (by omega) (by omega) (by omega) (by omega) (by omega) rfl
  · exact num_place (a := r) (b := C - 1) (by omega) (by omega) (by omega) (by omega) (by omega) (show r * C + C - 1 = r * C + (C - 1) by omega)
  · exact num_place (a := r) (b := C - 1) (by omega) (by omega) (by omega) (by omega) (by omega) (show r * C + C - 1 = r * C + (C - 1) by omega)
  · exact num_place (a := r) (b := c) (by omega) (by omega) (by omega) (by omega) (by omega) rfl
end Go.Proofs.Ytedgnjideemfbaa
