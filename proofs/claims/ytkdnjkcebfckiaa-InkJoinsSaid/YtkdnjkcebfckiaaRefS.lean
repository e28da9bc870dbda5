/-
  The document's answer: a grid's size, the place of a number.
-/
import Derived.Test.YtkdnjkcebfckiaaPutF
import Derived.Test.YtkdnjkcebfckiaaRefD
namespace Go.Proofs.Ytkdnjkcebfckiaa
open Go.RowKit

set_option maxHeartbeats 400000 in
theorem sizeR (g : Nat) (R C : Nat) (w : World) (c0 : w.cell? ⟨g, 0, none⟩ = some (.int .i64 R)) (c1 : w.cell? ⟨g, 1, none⟩ = some (.int .i64 C)) :
    Calls Try.prog 39 #[.pointer (some ⟨g, 0, none⟩)] w fun e w' => e = .returned (pos R C) ∧ Kept0 w w' := by
  have hgl : g < w.heap.size := World.block_lt_of_cell? w _ c0
  have b1 : ¬ g = w.heap.size := by omega
  have b2 : ¬ w.heap.size = g := by omega
  go_enter Try.func39, Try.ntmps39
  go_wp2
  go_region_held3 (fun w' => w'.cell? ⟨g, 0, none⟩ = some (.int .i64 R) ∧ w'.cell? ⟨g, 1, none⟩ = some (.int .i64 C)) (go_keep) (first | fail)
  go_wp2
  exact bodyPost_ret (v := pos R C) (by simp [results, Try.results39, go_sem]) rfl ⟨rfl, ((Kept.refl _ w).alloc _).drew⟩

set_option maxHeartbeats 1000000 in
theorem placeR (g C k : Nat) (w : World) (c1 : w.cell? ⟨g, 1, none⟩ = some (.int .i64 C)) (hC : 1 ≤ C) (hC2 : C ≤ 255) (hk : k ≤ 70000) :
    Calls Try.prog 45 #[.pointer (some ⟨g, 0, none⟩), .int .i64 (k : Int)] w fun e w' => e = .returned (pos (rowOf C k : Int) (colOf C k : Int)) ∧ Kept0 w w' := by
  have hgl : g < w.heap.size := World.block_lt_of_cell? w _ c1
  have b1 : ¬ g = w.heap.size := by omega
  have b2 : ¬ w.heap.size = g := by omega
  have n0 : ¬ ((C : Int) = 0) := by omega
  have d1 : IntKind.i64.wrap ((k : Int).tdiv (C : Int)) = (rowOf C k : Int) := by
    rw [Int.tdiv_eq_ediv_of_nonneg (by omega)]
    have h1 : (k : Int) / (C : Int) = ((k / C : Nat) : Int) := by simp
    rw [h1]
    have h2 : k / C ≤ k := Nat.div_le_self k C
    show IntKind.i64.wrap ((k / C : Nat) : Int) = ((k / C : Nat) : Int)
    generalize k / C = m at h2
    exact IntWalk.i64_in _ ⟨by omega, by omega⟩
  have d2 : (k : Int).tmod (C : Int) = (colOf C k : Int) := by
    rw [Int.tmod_eq_emod_of_nonneg (by omega)]
    simp [colOf]
  generalize (rowOf C k : Int) = a at *
  generalize (colOf C k : Int) = b at *
  generalize (k : Int) = K at *
  generalize (C : Int) = Z at *
  have D1 := Lib.hid d1
  have D2 := Lib.hid d2
  clear d1 d2 hC hC2 hk
  go_enter Try.func45, Try.ntmps45
  go_wp2
  go_region_held3 (fun w' => w'.cell? ⟨g, 1, none⟩ = some (.int .i64 Z)) (go_keep) (first | fail)
  rw [D1.out, D2.out]
  go_wp2
  exact bodyPost_ret (v := pos a b) (by simp [results, Try.results45, go_sem]) rfl ⟨rfl, ((Kept.refl _ w).alloc _).drew⟩

/-- The document's way to reckon a place on the way, forward. -/
theorem way_fwd {C k N i : Nat} (hC : 1 ≤ C) (hk : k < N) (hN : N ≤ 70000) (hi : i < N) :
    (IntKind.i64.wrap (IntKind.i64.wrap (IntKind.i64.wrap ((rowOf C k : Int) * (C : Int)) + (colOf C k : Int)) + (i : Int))).tmod (N : Int) = (stp N false k i : Int) := by
  have h := row_mul C k
  have h0 : 0 ≤ (rowOf C k : Int) * (C : Int) := Int.mul_nonneg (by omega) (by omega)
  rw [IntWalk.i64_in ((rowOf C k : Int) * (C : Int)) ⟨by omega, by omega⟩, h, IntWalk.i64_in (k : Int) ⟨by omega, by omega⟩, IntWalk.i64_in ((k : Int) + (i : Int)) ⟨by omega, by omega⟩, Int.tmod_eq_emod_of_nonneg (by omega)]
  simp [stp]
/-- And back. -/
theorem way_back {C k N i : Nat} (hC : 1 ≤ C) (hk : k < N) (hN : N ≤ 70000) (hi : i < N) :
    (IntKind.i64.wrap (IntKind.i64.wrap (IntKind.i64.wrap (IntKind.i64.wrap ((rowOf C k : Int) * (C : Int)) + (colOf C k : Int)) - (i : Int)) + (N : Int))).tmod (N : Int) = (stp N true k i : Int) := by
  have h := row_mul C k
  have h0 : 0 ≤ (rowOf C k : Int) * (C : Int) := Int.mul_nonneg (by omega) (by omega)
  rw [IntWalk.i64_in ((rowOf C k : Int) * (C : Int)) ⟨by omega, by omega⟩, h, IntWalk.i64_in (k : Int) ⟨by omega, by omega⟩, IntWalk.i64_in ((k : Int) - (i : Int)) ⟨by omega, by omega⟩, IntWalk.i64_in ((k : Int) - (i : Int) + (N : Int)) ⟨by omega, by omega⟩, Int.tmod_eq_emod_of_nonneg (by omega)]
  rw [show (k : Int) - (i : Int) + (N : Int) = ((k + N - i : Nat) : Int) by omega]
  simp [stp]

theorem refNear_at (R C : Nat) (r c : Int) (w : World) (h1 : 1 ≤ R) (h2 : R ≤ 255) (h3 : 1 ≤ C) (h4 : C ≤ 255) :
    Calls Try.prog 38 #[pos R C, pos r c] w fun e w' => e = .returned (pos (rowOf C (st R C r c) : Int) (colOf C (st R C r c) : Int)) ∧ Kept0 w w' := by
  have := refNear_any (R : Int) (C : Int) r c (may_nat h1 h2 h3 h4) w
  rw [← (row_st (r := r) (c := c) h1 h3).1, ← (row_st (r := r) (c := c) h1 h3).2] at this
  exact this

end Go.Proofs.Ytkdnjkcebfckiaa
