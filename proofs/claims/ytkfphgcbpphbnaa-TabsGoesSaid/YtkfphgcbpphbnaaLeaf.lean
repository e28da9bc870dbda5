/-
  What the small calls do: may, New, near, stopsAt, Cols.
-/
import Derived.Test.YtkfphgcbpphbnaaSet
import Derived.Carry
namespace Go.Proofs.Ytkfphgcbpphbnaa
open Go.RowKit Go.Maps Go.ChangeMaps Go.MapKept

set_option maxHeartbeats 400000 in
theorem may_any (c : Int) (w : World) :
    Calls Try.prog 24 #[.int .i64 c] w fun e w' => e = .returned (.bool (decide (1 ≤ c ∧ c ≤ 255))) ∧ w = w' := by
  go_enter Try.func24, Try.ntmps24
  go_wp2
  all_goals
    go_ret
    refine ⟨ret_bool ?_, rfl⟩
    rw [Bool.eq_iff_iff]
    simp
    try omega

set_option maxHeartbeats 400000 in
theorem new_no (c : Int) (w : World) (h : ¬ (1 ≤ c ∧ c ≤ 255)) :
    Calls Try.prog 8 #[.int .i64 c] w fun e w' => e = .returned (.tuple #[.pointer none, .int .i64 10]) ∧ Kept0 w w' := by
  have HB : Hid (decide (1 ≤ c ∧ c ≤ 255) = false) := decide_eq_false h
  clear h
  go_enter Try.func8, Try.ntmps8
  go_wp2_with fail
  refine (may_any _ _).mono ?_
  rw [HB.out]
  rintro e w1 ⟨rfl, rfl⟩
  go_wp2_with fail
  go_ret2
  exact ⟨rfl, Kept.refl _ _⟩

set_option maxHeartbeats 400000 in
theorem new_yes (N : Nat) (w : World) (h1 : 1 ≤ N) (h2 : N ≤ 255) :
    Calls Try.prog 8 #[.int .i64 (N : Int)] w fun e w' => ∃ t m, e = .returned (.tuple #[.pointer (some ⟨t, 0, none⟩), .int .i64 0]) ∧ w.heap.size ≤ t ∧ w.heap.size ≤ m ∧ TabsAt w' t m N (fun _ => false) ∧ Kept0 w w' := by
  have HB : Hid (decide (1 ≤ (N : Int) ∧ (N : Int) ≤ 255) = true) := decide_eq_true ⟨by omega, by omega⟩
  have hmm := @run_makeMap Try.prog
  go_enter Try.func8, Try.ntmps8
  go_wp2_with fail
  refine (may_any _ _).mono ?_
  rw [HB.out]
  rintro e w1 ⟨rfl, rfl⟩
  go_wp2_with fail
  go_ret2
  refine ⟨w.heap.size + 1, w.heap.size, rfl, by omega, by omega, ⟨heap_new2 _ _ _, ?_, h1, h2⟩, ((Kept.refl _ w).alloc _).alloc _⟩
  exact (SetAt.of (World.ownsMap_made w Try.prog 3 uE) (SetIs.empty N)).kept ((Kept.refl (fun _ => False) _).alloc _) (fun e => e)

set_option maxHeartbeats 400000 in
theorem near_any (t : Nat) (N : Nat) (c : Int) (w : World) (c0 : w.cell? ⟨t, 0, none⟩ = some (.int .i64 (N : Int))) (h1 : 1 ≤ N) (h2 : N ≤ 255) :
    Calls Try.prog 34 #[.pointer (some ⟨t, 0, none⟩), .int .i64 c] w fun e w' => e = .returned (.int .i64 (nr c N)) ∧ w = w' := by
  go_enter Try.func34, Try.ntmps34
  go_wp2
  all_goals
    go_ret
    exact ⟨ret_int (by unfold nr; omega), rfl⟩

set_option maxHeartbeats 400000 in
theorem cols_any (t m N : Nat) (f : Nat → Bool) (w : World) (h : TabsAt w t m N f) :
    Calls Try.prog 16 #[.pointer (some ⟨t, 0, none⟩)] w fun e w' => e = .returned (.int .i64 (N : Int)) ∧ w = w' := by
  have c0 := h.c0
  go_enter Try.func16, Try.ntmps16
  go_wp2
  go_ret
  exact ⟨rfl, rfl⟩

set_option maxHeartbeats 400000 in
theorem stopsAt_any (t m N : Nat) (f : Nat → Bool) (c : Nat) (w : World) (h : TabsAt w t m N f) (hc : c < N) :
    Calls Try.prog 35 #[.pointer (some ⟨t, 0, none⟩), .int .i64 (c : Int)] w fun e w' => e = .returned (.bool (f c)) ∧ Kept0 w w' := by
  have c1 := h.c1
  have h2 := h.N2
  obtain ⟨D, hown, hs⟩ := h.set
  have hb := hs.at hc
  go_enter Try.func35, Try.ntmps35
  go_wp2_with (at_lookup; refine wpList_lookup_own_unit _ rfl _ _ 54 rfl 3 62 law Try.underlying54 (zero62 _) m N D rfl hown _ _ rfl (key_nat (by omega)) ?_; rw [hb])
  go_ret
  exact ⟨rfl, (Kept.refl _ w).alloc _⟩
end Go.Proofs.Ytkfphgcbpphbnaa
