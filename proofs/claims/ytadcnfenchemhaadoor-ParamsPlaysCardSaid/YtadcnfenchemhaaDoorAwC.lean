/-
  The chapter's example.
-/
import Derived.Test.YtadcnfenchemhaaDoorNumsC
namespace Go.Proofs.YtadcnfenchemhaaDoor
open Go.RowKit Go.Maps

theorem num_awake : numV [49, 59, 59, 48, 48, 48, 52, 50, 59, 55, 55, 55, 55, 55] = some [1, -1, 42, 9999] := by decide +kernel
/-- What an awake text answers. -/
theorem nums_awake (w : World) : Calls Tryd.prog 10 #[.string ⟨#[49, 59, 59, 48, 48, 48, 52, 50, 59, 55, 55, 55, 55, 55]⟩] w fun e w' => (∃ a cap, e = .returned (.tuple #[.slice a 4 cap, .bool true]) ∧ IntsIn w' a [1, -1, 42, 9999]) ∧ Kept0 w w' :=
  (numbers_any _ (by decide) w).mono fun e w' h => by
    obtain ⟨h1, h2⟩ := h
    have h3 : NumsAns (some [1, -1, 42, 9999]) e w' := by rw [← num_awake]; exact h1
    obtain ⟨a, cap, h4, h5⟩ := h3
    exact ⟨⟨a, cap, h4, h5⟩, h2⟩
set_option maxRecDepth 100000 in
set_option maxHeartbeats 4000000 in
theorem awake_any (w : World) : Calls Tryd.prog 9 #[] w fun e w' => e = .returned (.bool true) ∧ Kept0 w w' := by
  go_enter Tryd.func9, Tryd.ntmps9
  go_wp2_with fail
  refine (nums_awake _).mono ?_
  rintro e w1 ⟨⟨a, cap, rfl, hi⟩, k1⟩
  have HI := Lib.hid hi
  clear hi
  go_wp2_with fail
  obtain ⟨W, hW⟩ : ∃ W, W = w1.alloc (.cells #[.int .i64 1, .int .i64 (-1), .int .i64 42, .int .i64 9999] 3) := ⟨_, rfl⟩
  have kW : Kept0 w1 W := by rw [hW]; exact (Kept.refl _ _).alloc _
  have HL : Hid (IntsIn W (some ⟨w1.heap.size, 0, none⟩) [1, -1, 42, 9999]) := by
    intro k x hx
    refine ⟨w1.heap.size, 0, rfl, ?_⟩
    have hh : W.heap[w1.heap.size]? = some (.cells #[.int .i64 1, .int .i64 (-1), .int .i64 42, .int .i64 9999] 3 (0, 0)) := by rw [hW]; exact heap_new w1 _
    rcases k with _ | _ | _ | _ | k
    · cases hx; simp [World.cell?, hh]
    · cases hx; simp [World.cell?, hh]
    · cases hx; simp [World.cell?, hh]
    · cases hx; simp [World.cell?, hh]
    · simp at hx
  have HJ : Hid (IntsIn W a [1, -1, 42, 9999]) := HI.out.kept0 kW
  rw [← hW]
  clear hW HI
  refine (ints_same a (some ⟨w1.heap.size, 0, none⟩) cap 4 [1, -1, 42, 9999] W HJ.out HL.out (by decide)).mono ?_
  rintro e w2 ⟨rfl, k2⟩
  have HJ2 : Hid (IntsIn w2 a [1, -1, 42, 9999]) := HJ.out.kept0 k2
  clear HJ HL
  go_wp2_with fail
  refine (or_any a cap [1, -1, 42, 9999] 1 5 w2 HJ2.out).mono ?_
  rintro e w3 ⟨rfl, k3⟩
  have HJ3 : Hid (IntsIn w3 a [1, -1, 42, 9999]) := HJ2.out.kept0 k3
  clear HJ2
  rw [show orV [1, -1, 42, 9999] 1 5 = 5 by decide]
  go_wp2_with fail
  refine (or_any a cap [1, -1, 42, 9999] 2 5 w3 HJ3.out).mono ?_
  rintro e w4 ⟨rfl, k4⟩
  rw [show orV [1, -1, 42, 9999] 2 5 = 42 by decide]
  go_wp2_with fail
  go_ret
  exact ⟨rfl, (k1.trans kW).trans ((k2.trans k3).trans k4)⟩
end Go.Proofs.YtadcnfenchemhaaDoor
