/-
  What run does.
-/
import Derived.Test.YtkdnjkcebfckiaaMove
namespace Go.Proofs.Ytkdnjkcebfckiaa
open Go.RowKit
set_option maxRecDepth 100000

/-- The slice of a run. -/
def runV (t cap C : Nat) (r c r' c' : Int) : Value := .slice (some ⟨t, idx C r c * 4, none⟩) (idx C r' c' + 1 - idx C r c) (cap - idx C r c)

set_option maxHeartbeats 1000000 in
theorem stretch_yes (g t cap R C : Nat) (f : Nat → Cel) (r c r' c' : Int) (w : World) (hg : GridAt w g t cap R C f) (h1 : There R C r c) (h2 : There R C r' c') (hle : idx C r c ≤ idx C r' c') :
    Calls Try.prog 65 #[.pointer (some ⟨g, 0, none⟩), .agg #[.int .i64 r, .int .i64 c], .agg #[.int .i64 r', .int .i64 c']] w fun e w' =>
      e = .returned (.tuple #[runV t cap C r c r' c', .int .i64 0]) ∧ Kept0 w w' := by
  have hl1 := idx_lt h1
  have hl2 := idx_lt h2
  have hcap := hg.cap
  have hR2 := hg.R2
  have hC2 := hg.C2
  have hRC : R * C ≤ 65025 := Nat.mul_le_mul hR2 hC2
  obtain ⟨N, hN⟩ : ∃ N, N = R * C := ⟨_, rfl⟩
  rw [← hN] at hl1 hl2 hcap hRC
  obtain ⟨p1, p2, p3, p4⟩ := h1
  obtain ⟨q1, q2, q3, q4⟩ := h2
  have hgl := hg.lt
  have c0 := hg.c0
  have c1 := hg.c1
  have c2 := hg.c2
  rw [← hN] at c2
  have HN := Lib.hid hN
  clear hN
  have i0 : ∀ w, (Instr.index 119 (.agg #[.int .i64 r, .int .i64 c, .int .i64 r', .int .i64 c']) (.int .i64 0)).run Try.prog w = .ok (.agg #[.int .i64 r, .int .i64 c]) w := fun _ => by kernel_rfl
  have i1 : ∀ w, (Instr.index 119 (.agg #[.int .i64 r, .int .i64 c, .int .i64 r', .int .i64 c']) (.int .i64 1)).run Try.prog w = .ok (.agg #[.int .i64 r', .int .i64 c']) w := fun _ => by kernel_rfl
  go_enter Try.func65, Try.ntmps65
  go_wp2
  refine wp_loop_rounds 3 ?_
  rw [rounds_succ]
  go_wp2_with fail
  refine (check_in g _ _ R C _ ?_ ?_ p1 p2 p3 p4).mono ?_
  · exact kcell ((((Kept.refl _ w).alloc _).alloc _).alloc _) c0
  · exact kcell ((((Kept.refl _ w).alloc _).alloc _).alloc _) c1
  rintro e w1 ⟨rfl, hk1⟩
  have kk : Kept0 w w1 := ((((Kept.refl _ w).alloc _).alloc _).alloc _).later hk1 (fun _ _ e => e)
  have b0 : w1.cell? ⟨w.heap.size, 0, none⟩ = some (.int .i64 r) := kcell hk1 (by simp [go_sem])
  have b1 : w1.cell? ⟨w.heap.size, 1, none⟩ = some (.int .i64 c) := kcell hk1 (by simp [go_sem])
  have b2 : w1.cell? ⟨w.heap.size + 1, 0, none⟩ = some (.int .i64 r') := kcell hk1 (by simp [go_sem])
  have b3 : w1.cell? ⟨w.heap.size + 1, 1, none⟩ = some (.int .i64 c') := kcell hk1 (by simp [go_sem])
  have s1 : w.heap.size + 1 < w1.heap.size := by have := hk1.size; simp at this; omega
  replace c0 := kcell kk c0
  replace c1 := kcell kk c1
  replace c2 := kcell kk c2
  replace hgl : g < w1.heap.size := by omega
  clear hk1
  go_wp2_with fail
  rw [rounds_succ]
  go_wp2_with fail
  refine (check_in g _ _ R C _ ?_ ?_ q1 q2 q3 q4).mono ?_
  · simp [go_sem, hgl, c0]
  · simp [go_sem, hgl, c1]
  rintro e w2 ⟨rfl, hk2⟩
  replace hk2 : Kept0 w1 w2 := ((Kept.refl _ w1).alloc _).later hk2 (fun _ _ e => e)
  replace kk := kk.trans hk2
  replace c0 := kcell hk2 c0
  replace c1 := kcell hk2 c1
  replace c2 := kcell hk2 c2
  replace b0 := kcell hk2 b0
  replace b1 := kcell hk2 b1
  replace b2 := kcell hk2 b2
  replace b3 := kcell hk2 b3
  have s2 : w.heap.size + 1 < w2.heap.size := by have := hk2.size; omega
  replace hgl : g < w2.heap.size := by have := hk2.size; omega
  have s3 : w.heap.size < w2.heap.size := by omega
  clear hk2 s1
  go_wp2_with fail
  rw [rounds_succ]
  go_wp2_with fail
  go_region_held3 (fun w' => w'.cell? ⟨w.heap.size, 0, none⟩ = some (.int .i64 r) ∧ w'.cell? ⟨w.heap.size, 1, none⟩ = some (.int .i64 c) ∧ w'.cell? ⟨w.heap.size + 1, 0, none⟩ = some (.int .i64 r') ∧ w'.cell? ⟨w.heap.size + 1, 1, none⟩ = some (.int .i64 c') ∧ w'.cell? ⟨g, 1, none⟩ = some (.int .i64 C) ∧ w'.cell? ⟨g, 2, none⟩ = some (.slice (some ⟨t, 0, none⟩) N cap)) (go_keep)
    (first
      | (go_at_call 51; refine (index_at g _ _ C _ ?_ (by omega) (by omega) (by omega) (by omega) (by omega)).mono ?_; (simp [*, go_sem]); rintro e w3 ⟨rfl, n, rfl⟩))
  have hne : ¬ cap = idx C r c := by omega
  have hd : decide ((idx C r' c' : Int) < (idx C r c : Int)) = false := by simp; omega
  go_wp2
  go_ret2
  refine ⟨rfl, ?_⟩
  exact (((kk.alloc _).drewN _).alloc _).drewN _

set_option maxHeartbeats 1000000 in
theorem run_arg (g t cap R C : Nat) (f : Nat → Cel) (r c r' c' : Int) (w : World) (hg : GridAt w g t cap R C f) (h1 : There R C r c) (h2 : There R C r' c') (hle : idx C r' c' < idx C r c) :
    Calls Try.prog 65 #[.pointer (some ⟨g, 0, none⟩), .agg #[.int .i64 r, .int .i64 c], .agg #[.int .i64 r', .int .i64 c']] w fun e w' =>
      e = .returned (.tuple #[.slice none 0 0, .int .i64 1]) ∧ Kept0 w w' := by
  have hl1 := idx_lt h1
  have hl2 := idx_lt h2
  have hR2 := hg.R2
  have hC2 := hg.C2
  have hRC : R * C ≤ 65025 := Nat.mul_le_mul hR2 hC2
  obtain ⟨N, hN⟩ : ∃ N, N = R * C := ⟨_, rfl⟩
  rw [← hN] at hl1 hl2 hRC
  obtain ⟨p1, p2, p3, p4⟩ := h1
  obtain ⟨q1, q2, q3, q4⟩ := h2
  have hgl := hg.lt
  have c0 := hg.c0
  have c1 := hg.c1
  have HN := Lib.hid hN
  clear hN
  have i0 : ∀ w, (Instr.index 119 (.agg #[.int .i64 r, .int .i64 c, .int .i64 r', .int .i64 c']) (.int .i64 0)).run Try.prog w = .ok (.agg #[.int .i64 r, .int .i64 c]) w := fun _ => by kernel_rfl
  have i1 : ∀ w, (Instr.index 119 (.agg #[.int .i64 r, .int .i64 c, .int .i64 r', .int .i64 c']) (.int .i64 1)).run Try.prog w = .ok (.agg #[.int .i64 r', .int .i64 c']) w := fun _ => by kernel_rfl
  go_enter Try.func65, Try.ntmps65
  go_wp2
  refine wp_loop_rounds 3 ?_
  rw [rounds_succ]
  go_wp2_with fail
  refine (check_in g _ _ R C _ ?_ ?_ p1 p2 p3 p4).mono ?_
  · exact kcell ((((Kept.refl _ w).alloc _).alloc _).alloc _) c0
  · exact kcell ((((Kept.refl _ w).alloc _).alloc _).alloc _) c1
  rintro e w1 ⟨rfl, hk1⟩
  have kk : Kept0 w w1 := ((((Kept.refl _ w).alloc _).alloc _).alloc _).later hk1 (fun _ _ e => e)
  have b0 : w1.cell? ⟨w.heap.size, 0, none⟩ = some (.int .i64 r) := kcell hk1 (by simp [go_sem])
  have b1 : w1.cell? ⟨w.heap.size, 1, none⟩ = some (.int .i64 c) := kcell hk1 (by simp [go_sem])
  have b2 : w1.cell? ⟨w.heap.size + 1, 0, none⟩ = some (.int .i64 r') := kcell hk1 (by simp [go_sem])
  have b3 : w1.cell? ⟨w.heap.size + 1, 1, none⟩ = some (.int .i64 c') := kcell hk1 (by simp [go_sem])
  have s1 : w.heap.size + 1 < w1.heap.size := by have := hk1.size; simp at this; omega
  replace c0 := kcell kk c0
  replace c1 := kcell kk c1
  replace hgl : g < w1.heap.size := by omega
  clear hk1
  go_wp2_with fail
  rw [rounds_succ]
  go_wp2_with fail
  refine (check_in g _ _ R C _ ?_ ?_ q1 q2 q3 q4).mono ?_
  · simp [go_sem, hgl, c0]
  · simp [go_sem, hgl, c1]
  rintro e w2 ⟨rfl, hk2⟩
  replace hk2 : Kept0 w1 w2 := ((Kept.refl _ w1).alloc _).later hk2 (fun _ _ e => e)
  replace kk := kk.trans hk2
  replace c0 := kcell hk2 c0
  replace c1 := kcell hk2 c1
  replace b0 := kcell hk2 b0
  replace b1 := kcell hk2 b1
  replace b2 := kcell hk2 b2
  replace b3 := kcell hk2 b3
  have s2 : w.heap.size + 1 < w2.heap.size := by have := hk2.size; omega
  replace hgl : g < w2.heap.size := by have := hk2.size; omega
  have s3 : w.heap.size < w2.heap.size := by omega
  clear hk2 s1
  go_wp2_with fail
  rw [rounds_succ]
  go_wp2_with fail
  go_region_held3 (fun w' => w'.cell? ⟨w.heap.size, 0, none⟩ = some (.int .i64 r) ∧ w'.cell? ⟨w.heap.size, 1, none⟩ = some (.int .i64 c) ∧ w'.cell? ⟨w.heap.size + 1, 0, none⟩ = some (.int .i64 r') ∧ w'.cell? ⟨w.heap.size + 1, 1, none⟩ = some (.int .i64 c') ∧ w'.cell? ⟨g, 1, none⟩ = some (.int .i64 C)) (go_keep)
    (first
      | (go_at_call 51; refine (index_at g _ _ C _ ?_ (by omega) (by omega) (by omega) (by omega) (by omega)).mono ?_; (simp [*, go_sem]); rintro e w3 ⟨rfl, n, rfl⟩))
  have hd : decide ((idx C r' c' : Int) < (idx C r c : Int)) = true := by simp; omega
  go_wp2
  go_ret2
  exact ⟨rfl, (((kk.alloc _).drewN _).alloc _).drewN _⟩

set_option maxHeartbeats 1000000 in
/-- The first place, or the second one, is not there. -/
theorem run_out (g R C : Nat) (r c r' c' : Int) (w : World) (c0 : w.cell? ⟨g, 0, none⟩ = some (.int .i64 R)) (c1 : w.cell? ⟨g, 1, none⟩ = some (.int .i64 C)) (h : ¬ There R C r c ∨ ¬ There R C r' c') :
    Calls Try.prog 65 #[.pointer (some ⟨g, 0, none⟩), .agg #[.int .i64 r, .int .i64 c], .agg #[.int .i64 r', .int .i64 c']] w fun e w' =>
      e = .returned (.tuple #[.slice none 0 0, .int .i64 11]) ∧ Kept0 w w' := by
  have hgl := World.block_lt_of_cell? w _ c0
  have H := Lib.hid h
  clear h
  have i0 : ∀ w, (Instr.index 119 (.agg #[.int .i64 r, .int .i64 c, .int .i64 r', .int .i64 c']) (.int .i64 0)).run Try.prog w = .ok (.agg #[.int .i64 r, .int .i64 c]) w := fun _ => by kernel_rfl
  have i1 : ∀ w, (Instr.index 119 (.agg #[.int .i64 r, .int .i64 c, .int .i64 r', .int .i64 c']) (.int .i64 1)).run Try.prog w = .ok (.agg #[.int .i64 r', .int .i64 c']) w := fun _ => by kernel_rfl
  go_enter Try.func65, Try.ntmps65
  go_wp2
  refine wp_loop_rounds 3 ?_
  rw [rounds_succ]
  go_wp2_with fail
  by_cases h1 : There R C r c
  · obtain ⟨p1, p2, p3, p4⟩ := id h1
    have H2 : Hid (¬ There R C r' c') := H.out.resolve_left (fun n => n h1)
    clear H h1
    refine (check_in g _ _ R C _ ?_ ?_ p1 p2 p3 p4).mono ?_
    · exact kcell ((((Kept.refl _ w).alloc _).alloc _).alloc _) c0
    · exact kcell ((((Kept.refl _ w).alloc _).alloc _).alloc _) c1
    rintro e w1 ⟨rfl, hk1⟩
    have kk : Kept0 w w1 := ((((Kept.refl _ w).alloc _).alloc _).alloc _).later hk1 (fun _ _ e => e)
    replace c0 := kcell kk c0
    replace c1 := kcell kk c1
    replace hgl : g < w1.heap.size := by have := kk.size; have h9 : g < w.heap.size := hgl; omega
    clear hk1
    go_wp2_with fail
    rw [rounds_succ]
    go_wp2_with fail
    refine (check_out g _ _ R C _ ?_ ?_ H2.out).mono ?_
    · simp [go_sem, hgl, c0]
    · simp [go_sem, hgl, c1]
    rintro e w2 ⟨rfl, hk2⟩
    replace hk2 : Kept0 w1 w2 := ((Kept.refl _ w1).alloc _).later hk2 (fun _ _ e => e)
    go_wp2_with fail
    go_ret2
    exact ⟨rfl, kk.trans hk2⟩
  · have H1 := Lib.hid h1
    clear h1
    refine (check_out g _ _ R C _ ?_ ?_ H1.out).mono ?_
    · exact kcell ((((Kept.refl _ w).alloc _).alloc _).alloc _) c0
    · exact kcell ((((Kept.refl _ w).alloc _).alloc _).alloc _) c1
    rintro e w1 ⟨rfl, hk1⟩
    have kk : Kept0 w w1 := ((((Kept.refl _ w).alloc _).alloc _).alloc _).later hk1 (fun _ _ e => e)
    go_wp2_with fail
    go_ret2
    exact ⟨rfl, kk⟩

theorem run_nil (r c r' c' : Int) (w : World) :
    Calls Try.prog 65 #[.pointer none, .agg #[.int .i64 r, .int .i64 c], .agg #[.int .i64 r', .int .i64 c']] w fun e w' =>
      e = .returned (.tuple #[.slice none 0 0, .int .i64 2]) ∧ Kept0 w w' := by
  have i0 : ∀ w, (Instr.index 119 (.agg #[.int .i64 r, .int .i64 c, .int .i64 r', .int .i64 c']) (.int .i64 0)).run Try.prog w = .ok (.agg #[.int .i64 r, .int .i64 c]) w := fun _ => by kernel_rfl
  go_enter Try.func65, Try.ntmps65
  go_wp2
  refine wp_loop_rounds 1 ?_
  rw [rounds_succ]
  go_wp2_with fail
  refine (check_nil _ _ _).mono ?_
  rintro e w1 ⟨rfl, hk1⟩
  have kk : Kept0 w w1 := ((((Kept.refl _ w).alloc _).alloc _).alloc _).later hk1 (fun _ _ e => e)
  go_wp2_with fail
  go_ret2
  exact ⟨rfl, kk⟩
end Go.Proofs.Ytkdnjkcebfckiaa
