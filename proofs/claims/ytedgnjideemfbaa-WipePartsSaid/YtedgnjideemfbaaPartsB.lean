/-
  The law WipeParts, of what is none.
-/
import Derived.Test.YtedgnjideemfbaaAwake
import Derived.Test.YtedgnjideemfbaaPartB
import Derived.Test.YtedgnjideemfbaaPartC
namespace Go.Proofs.Ytedgnjideemfbaa
open Go.RowKit

theorem same_pos (a b : Int) (w : World) : (Op.equalIn 10000 36 (.agg #[.int .i64 a, .int .i64 b]) (.agg #[.int .i64 a, .int .i64 b])).run Try.prog w = .ok true w := by
  rw [run_equalIn_agg w 9999 36 _ _ (by kernel_rfl) (by kernel_rfl)]
  simp [go_sem]

set_option maxHeartbeats 4000000 in
set_option maxRecDepth 100000 in
theorem parts_bad (R C r c p E : Int) (w : World) (hE : E = 10 ∨ E = 11 ∨ E = 12)
    (h10 : E = 10 → ¬ (1 ≤ R ∧ R ≤ 255 ∧ 1 ≤ C ∧ C ≤ 255)) (h11 : E = 11 → (1 ≤ R ∧ R ≤ 255 ∧ 1 ≤ C ∧ C ≤ 255) ∧ ¬ (0 ≤ r ∧ r < R ∧ 0 ≤ c ∧ c < C)) (h12 : E = 12 → (1 ≤ R ∧ R ≤ 255 ∧ 1 ≤ C ∧ C ≤ 255) ∧ (0 ≤ r ∧ r < R ∧ 0 ≤ c ∧ c < C) ∧ ¬ (1 ≤ p ∧ p ≤ 6))
    (hp : ∀ w', Calls Try.prog 15 #[.agg #[.int .i64 R, .int .i64 C], .agg #[.int .i64 r, .int .i64 c], .int .i64 p] w' fun e w'' => e = .returned (.tuple #[.agg #[.int .i64 0, .int .i64 0], .agg #[.int .i64 0, .int .i64 0], .int .i64 E]) ∧ Kept0 w' w'') :
    Calls Try.prog 4 #[.agg #[.int .i64 R, .int .i64 C], .agg #[.int .i64 r, .int .i64 c], .int .i64 p] w fun e w' => e = .returned (.bool true) ∧ Kept0 w w' := by
  have HP := Lib.hid hp
  have H10 := Lib.hid h10
  have H11 := Lib.hid h11
  have H12 := Lib.hid h12
  have HE := Lib.hid hE
  have hsm := same_pos 0 0
  clear hp h10 h11 h12 hE
  go_enter Try.func4, Try.ntmps4
  go_wp2_with fail
  refine (HP.out _).mono ?_
  rintro e w1 ⟨rfl, hk1⟩
  have kk : Kept0 w w1 := (((Kept.refl _ w).alloc _).alloc _).trans hk1
  have q0 : w1.cell? ⟨w.heap.size, 0, none⟩ = some (.int .i64 R) := kcell hk1 (by simp [go_sem])
  have q1 : w1.cell? ⟨w.heap.size, 1, none⟩ = some (.int .i64 C) := kcell hk1 (by simp [go_sem])
  have q2 : w1.cell? ⟨w.heap.size + 1, 0, none⟩ = some (.int .i64 r) := kcell hk1 (by simp [go_sem])
  have q3 : w1.cell? ⟨w.heap.size + 1, 1, none⟩ = some (.int .i64 c) := kcell hk1 (by simp [go_sem])
  clear hk1 HP
  have A0 : ∀ o o', ((w1.alloc o).alloc o').cell? ⟨w.heap.size, 0, none⟩ = some (.int .i64 R) := fun _ _ => kcell (((Kept.refl _ w1).alloc _).alloc _) q0
  have A1 : ∀ o o', ((w1.alloc o).alloc o').cell? ⟨w.heap.size, 1, none⟩ = some (.int .i64 C) := fun _ _ => kcell (((Kept.refl _ w1).alloc _).alloc _) q1
  have A2 : ∀ o o', ((w1.alloc o).alloc o').cell? ⟨w.heap.size + 1, 0, none⟩ = some (.int .i64 r) := fun _ _ => kcell (((Kept.refl _ w1).alloc _).alloc _) q2
  have A3 : ∀ o o', ((w1.alloc o).alloc o').cell? ⟨w.heap.size + 1, 1, none⟩ = some (.int .i64 c) := fun _ _ => kcell (((Kept.refl _ w1).alloc _).alloc _) q3
  rcases HE.out with rfl | rfl | rfl
  · have hor : R < 1 ∨ (¬ R < 1 ∧ 255 < R) ∨ (¬ R < 1 ∧ ¬ 255 < R ∧ C < 1) ∨ (¬ R < 1 ∧ ¬ 255 < R ∧ ¬ C < 1 ∧ 255 < C) := by have := H10.out rfl; omega
    clear H10 H11 H12 HE
    rcases hor with h1 | ⟨h1, h2⟩ | ⟨h1, h2, h3⟩ | ⟨h1, h2, h3, h4⟩
    all_goals
      go_wp2_with fail
      refine (awake_any _).mono ?_
      rintro e w2 ⟨rfl, k2⟩
      have k3 := ((kk.alloc _).alloc _).trans k2
      go_wp2_with fail
      go_ret
      exact ⟨rfl, k3⟩
  · obtain ⟨⟨a1, a2, a3, a4⟩, hn⟩ := H11.out rfl
    have hor : r < 0 ∨ (¬ r < 0 ∧ R ≤ r) ∨ (¬ r < 0 ∧ ¬ R ≤ r ∧ c < 0) ∨ (¬ r < 0 ∧ ¬ R ≤ r ∧ ¬ c < 0 ∧ C ≤ c) := by omega
    clear H10 H11 H12 HE hn
    rcases hor with h1 | ⟨h1, h2⟩ | ⟨h1, h2, h3⟩ | ⟨h1, h2, h3, h4⟩
    all_goals
      go_wp2_with fail
      refine (awake_any _).mono ?_
      rintro e w2 ⟨rfl, k2⟩
      have k3 := ((kk.alloc _).alloc _).trans k2
      go_wp2_with fail
      go_ret
      exact ⟨rfl, k3⟩
  · obtain ⟨⟨a1, a2, a3, a4⟩, ⟨b1, b2, b3, b4⟩, hn⟩ := H12.out rfl
    have hor : p < 1 ∨ (¬ p < 1 ∧ 6 < p) := by omega
    clear H10 H11 H12 HE hn
    rcases hor with h1 | ⟨h1, h2⟩
    all_goals
      go_wp2_with fail
      refine (awake_any _).mono ?_
      rintro e w2 ⟨rfl, k2⟩
      have k3 := ((kk.alloc _).alloc _).trans k2
      go_wp2_with fail
      go_ret
      exact ⟨rfl, k3⟩
end Go.Proofs.Ytedgnjideemfbaa
