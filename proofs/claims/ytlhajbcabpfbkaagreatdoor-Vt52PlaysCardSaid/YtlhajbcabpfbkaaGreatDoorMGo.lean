/-
  Texts merged: Run Roll Up.
-/
import Derived.Test.YtlhajbcabpfbkaaGreatDoorMLo
/-
  What run does.
-/
namespace Go.Proofs.YtlhajbcabpfbkaaGreatDoor
open Go.RowKit
set_option maxRecDepth 100000

/-- The slice of a run. -/
def runV (t cap C : Nat) (r c r' c' : Int) : Value := .slice (some ⟨t, idx C r c * 4, none⟩) (idx C r' c' + 1 - idx C r c) (cap - idx C r c)

set_option maxHeartbeats 1000000 in
theorem stretch_yes (g t cap R C : Nat) (f : Nat → Cel) (r c r' c' : Int) (w : World) (hg : GridAt w g t cap R C f) (h1 : There R C r c) (h2 : There R C r' c') (hle : idx C r c ≤ idx C r' c') :
    Calls Tryz.prog 120 #[.pointer (some ⟨g, 0, none⟩), .agg #[.int .i64 r, .int .i64 c], .agg #[.int .i64 r', .int .i64 c']] w fun e w' =>
      e = .returned (.tuple #[runV t cap C r c r' c', .int .i64 0]) ∧ Kept0 w w' := by
  have hl1 := idx_lt h1
  have hl2 := idx_lt h2
  have hcap := hg.cap
  have hR2 := hg.R2
  have hC2 := hg.C2
  have hRC : R * C ≤ 65025 := Nat.mul_le_mul hR2 hC2
  obtain ⟨N, hN⟩ : ∃ N, N = R * C := ⟨_, rfl⟩
  rw [← hN] at hl1 hl2 hcap hRC
  obtain ⟨p1, p2, p3, p4⟩ := h1
  obtain ⟨q1, q2, q3, q4⟩ := h2
  have hgl := hg.lt
  have c0 := hg.c0
  have c1 := hg.c1
  have c2 := hg.c2
  rw [← hN] at c2
  have HN := Lib.hid hN
  clear hN
  have i0 : ∀ w, (Instr.index 174 (.agg #[.int .i64 r, .int .i64 c, .int .i64 r', .int .i64 c']) (.int .i64 0)).run Tryz.prog w = .ok (.agg #[.int .i64 r, .int .i64 c]) w := fun _ => by kernel_rfl
  have i1 : ∀ w, (Instr.index 174 (.agg #[.int .i64 r, .int .i64 c, .int .i64 r', .int .i64 c']) (.int .i64 1)).run Tryz.prog w = .ok (.agg #[.int .i64 r', .int .i64 c']) w := fun _ => by kernel_rfl
  go_enter Tryz.func120, Tryz.ntmps120
  go_wp2
  refine wp_loop_rounds 3 ?_
  rw [rounds_succ]
  go_wp2_with fail
  refine (check_in g _ _ R C _ ?_ ?_ p1 p2 p3 p4).mono ?_
  · exact kcell ((((Kept.refl _ w).alloc _).alloc _).alloc _) c0
  · exact kcell ((((Kept.refl _ w).alloc _).alloc _).alloc _) c1
  rintro e w1 ⟨rfl, hk1⟩
  have kk : Kept0 w w1 := ((((Kept.refl _ w).alloc _).alloc _).alloc _).later hk1 (fun _ _ e => e)
  have b0 : w1.cell? ⟨w.heap.size, 0, none⟩ = some (.int .i64 r) := kcell hk1 (by simp [go_sem])
  have b1 : w1.cell? ⟨w.heap.size, 1, none⟩ = some (.int .i64 c) := kcell hk1 (by simp [go_sem])
  have b2 : w1.cell? ⟨w.heap.size + 1, 0, none⟩ = some (.int .i64 r') := kcell hk1 (by simp [go_sem])
  have b3 : w1.cell? ⟨w.heap.size + 1, 1, none⟩ = some (.int .i64 c') := kcell hk1 (by simp [go_sem])
  have s1 : w.heap.size + 1 < w1.heap.size := by have := hk1.size; simp at this; omega
  replace c0 := kcell kk c0
  replace c1 := kcell kk c1
  replace c2 := kcell kk c2
  replace hgl : g < w1.heap.size := by omega
  clear hk1
  go_wp2_with fail
  rw [rounds_succ]
  go_wp2_with fail
  refine (check_in g _ _ R C _ ?_ ?_ q1 q2 q3 q4).mono ?_
  · simp [go_sem, hgl, c0]
  · simp [go_sem, hgl, c1]
  rintro e w2 ⟨rfl, hk2⟩
  replace hk2 : Kept0 w1 w2 := ((Kept.refl _ w1).alloc _).later hk2 (fun _ _ e => e)
  replace kk := kk.trans hk2
  replace c0 := kcell hk2 c0
  replace c1 := kcell hk2 c1
  replace c2 := kcell hk2 c2
  replace b0 := kcell hk2 b0
  replace b1 := kcell hk2 b1
  replace b2 := kcell hk2 b2
  replace b3 := kcell hk2 b3
  have s2 : w.heap.size + 1 < w2.heap.size := by have := hk2.size; omega
  replace hgl : g < w2.heap.size := by have := hk2.size; omega
  have s3 : w.heap.size < w2.heap.size := by omega
  clear hk2 s1
  go_wp2_with fail
  rw [rounds_succ]
  go_wp2_with fail
  go_region_held3 (fun w' => w'.cell? ⟨w.heap.size, 0, none⟩ = some (.int .i64 r) ∧ w'.cell? ⟨w.heap.size, 1, none⟩ = some (.int .i64 c) ∧ w'.cell? ⟨w.heap.size + 1, 0, none⟩ = some (.int .i64 r') ∧ w'.cell? ⟨w.heap.size + 1, 1, none⟩ = some (.int .i64 c') ∧ w'.cell? ⟨g, 1, none⟩ = some (.int .i64 C) ∧ w'.cell? ⟨g, 2, none⟩ = some (.slice (some ⟨t, 0, none⟩) N cap)) (go_keep)
    (first
      | (go_at_call 49; refine (index_at g _ _ C _ ?_ (by omega) (by omega) (by omega) (by omega) (by omega)).mono ?_; (simp [*, go_sem]); rintro e w3 ⟨rfl, n, rfl⟩))
  have hne : ¬ cap = idx C r c := by omega
  have hd : decide ((idx C r' c' : Int) < (idx C r c : Int)) = false := by simp; omega
  go_wp2
  go_ret2
  refine ⟨rfl, ?_⟩
  exact (((kk.alloc _).drewN _).alloc _).drewN _

set_option maxHeartbeats 1000000 in
theorem run_arg (g t cap R C : Nat) (f : Nat → Cel) (r c r' c' : Int) (w : World) (hg : GridAt w g t cap R C f) (h1 : There R C r c) (h2 : There R C r' c') (hle : idx C r' c' < idx C r c) :
    Calls Tryz.prog 120 #[.pointer (some ⟨g, 0, none⟩), .agg #[.int .i64 r, .int .i64 c], .agg #[.int .i64 r', .int .i64 c']] w fun e w' =>
      e = .returned (.tuple #[.slice none 0 0, .int .i64 1]) ∧ Kept0 w w' := by
  have hl1 := idx_lt h1
  have hl2 := idx_lt h2
  have hR2 := hg.R2
  have hC2 := hg.C2
  have hRC : R * C ≤ 65025 := Nat.mul_le_mul hR2 hC2
  obtain ⟨N, hN⟩ : ∃ N, N = R * C := ⟨_, rfl⟩
  rw [← hN] at hl1 hl2 hRC
  obtain ⟨p1, p2, p3, p4⟩ := h1
  obtain ⟨q1, q2, q3, q4⟩ := h2
  have hgl := hg.lt
  have c0 := hg.c0
  have c1 := hg.c1
  have HN := Lib.hid hN
  clear hN
  have i0 : ∀ w, (Instr.index 174 (.agg #[.int .i64 r, .int .i64 c, .int .i64 r', .int .i64 c']) (.int .i64 0)).run Tryz.prog w = .ok (.agg #[.int .i64 r, .int .i64 c]) w := fun _ => by kernel_rfl
  have i1 : ∀ w, (Instr.index 174 (.agg #[.int .i64 r, .int .i64 c, .int .i64 r', .int .i64 c']) (.int .i64 1)).run Tryz.prog w = .ok (.agg #[.int .i64 r', .int .i64 c']) w := fun _ => by kernel_rfl
  go_enter Tryz.func120, Tryz.ntmps120
  go_wp2
  refine wp_loop_rounds 3 ?_
  rw [rounds_succ]
  go_wp2_with fail
  refine (check_in g _ _ R C _ ?_ ?_ p1 p2 p3 p4).mono ?_
  · exact kcell ((((Kept.refl _ w).alloc _).alloc _).alloc _) c0
  · exact kcell ((((Kept.refl _ w).alloc _).alloc _).alloc _) c1
  rintro e w1 ⟨rfl, hk1⟩
  have kk : Kept0 w w1 := ((((Kept.refl _ w).alloc _).alloc _).alloc _).later hk1 (fun _ _ e => e)
  have b0 : w1.cell? ⟨w.heap.size, 0, none⟩ = some (.int .i64 r) := kcell hk1 (by simp [go_sem])
  have b1 : w1.cell? ⟨w.heap.size, 1, none⟩ = some (.int .i64 c) := kcell hk1 (by simp [go_sem])
  have b2 : w1.cell? ⟨w.heap.size + 1, 0, none⟩ = some (.int .i64 r') := kcell hk1 (by simp [go_sem])
  have b3 : w1.cell? ⟨w.heap.size + 1, 1, none⟩ = some (.int .i64 c') := kcell hk1 (by simp [go_sem])
  have s1 : w.heap.size + 1 < w1.heap.size := by have := hk1.size; simp at this; omega
  replace c0 := kcell kk c0
  replace c1 := kcell kk c1
  replace hgl : g < w1.heap.size := by omega
  clear hk1
  go_wp2_with fail
  rw [rounds_succ]
  go_wp2_with fail
  refine (check_in g _ _ R C _ ?_ ?_ q1 q2 q3 q4).mono ?_
  · simp [go_sem, hgl, c0]
  · simp [go_sem, hgl, c1]
  rintro e w2 ⟨rfl, hk2⟩
  replace hk2 : Kept0 w1 w2 := ((Kept.refl _ w1).alloc _).later hk2 (fun _ _ e => e)
  replace kk := kk.trans hk2
  replace c0 := kcell hk2 c0
  replace c1 := kcell hk2 c1
  replace b0 := kcell hk2 b0
  replace b1 := kcell hk2 b1
  replace b2 := kcell hk2 b2
  replace b3 := kcell hk2 b3
  have s2 : w.heap.size + 1 < w2.heap.size := by have := hk2.size; omega
  replace hgl : g < w2.heap.size := by have := hk2.size; omega
  have s3 : w.heap.size < w2.heap.size := by omega
  clear hk2 s1
  go_wp2_with fail
  rw [rounds_succ]
  go_wp2_with fail
  go_region_held3 (fun w' => w'.cell? ⟨w.heap.size, 0, none⟩ = some (.int .i64 r) ∧ w'.cell? ⟨w.heap.size, 1, none⟩ = some (.int .i64 c) ∧ w'.cell? ⟨w.heap.size + 1, 0, none⟩ = some (.int .i64 r') ∧ w'.cell? ⟨w.heap.size + 1, 1, none⟩ = some (.int .i64 c') ∧ w'.cell? ⟨g, 1, none⟩ = some (.int .i64 C)) (go_keep)
    (first
      | (go_at_call 49; refine (index_at g _ _ C _ ?_ (by omega) (by omega) (by omega) (by omega) (by omega)).mono ?_; (simp [*, go_sem]); rintro e w3 ⟨rfl, n, rfl⟩))
  have hd : decide ((idx C r' c' : Int) < (idx C r c : Int)) = true := by simp; omega
  go_wp2
  go_ret2
  exact ⟨rfl, (((kk.alloc _).drewN _).alloc _).drewN _⟩

set_option maxHeartbeats 1000000 in
/-- The first place, or the second one, is not there. -/
theorem run_out (g R C : Nat) (r c r' c' : Int) (w : World) (c0 : w.cell? ⟨g, 0, none⟩ = some (.int .i64 R)) (c1 : w.cell? ⟨g, 1, none⟩ = some (.int .i64 C)) (h : ¬ There R C r c ∨ ¬ There R C r' c') :
    Calls Tryz.prog 120 #[.pointer (some ⟨g, 0, none⟩), .agg #[.int .i64 r, .int .i64 c], .agg #[.int .i64 r', .int .i64 c']] w fun e w' =>
      e = .returned (.tuple #[.slice none 0 0, .int .i64 11]) ∧ Kept0 w w' := by
  have hgl := World.block_lt_of_cell? w _ c0
  have H := Lib.hid h
  clear h
  have i0 : ∀ w, (Instr.index 174 (.agg #[.int .i64 r, .int .i64 c, .int .i64 r', .int .i64 c']) (.int .i64 0)).run Tryz.prog w = .ok (.agg #[.int .i64 r, .int .i64 c]) w := fun _ => by kernel_rfl
  have i1 : ∀ w, (Instr.index 174 (.agg #[.int .i64 r, .int .i64 c, .int .i64 r', .int .i64 c']) (.int .i64 1)).run Tryz.prog w = .ok (.agg #[.int .i64 r', .int .i64 c']) w := fun _ => by kernel_rfl
  go_enter Tryz.func120, Tryz.ntmps120
  go_wp2
  refine wp_loop_rounds 3 ?_
  rw [rounds_succ]
  go_wp2_with fail
  by_cases h1 : There R C r c
  · obtain ⟨p1, p2, p3, p4⟩ := id h1
    have H2 : Hid (¬ There R C r' c') := H.out.resolve_left (fun n => n h1)
    clear H h1
    refine (check_in g _ _ R C _ ?_ ?_ p1 p2 p3 p4).mono ?_
    · exact kcell ((((Kept.refl _ w).alloc _).alloc _).alloc _) c0
    · exact kcell ((((Kept.refl _ w).alloc _).alloc _).alloc _) c1
    rintro e w1 ⟨rfl, hk1⟩
    have kk : Kept0 w w1 := ((((Kept.refl _ w).alloc _).alloc _).alloc _).later hk1 (fun _ _ e => e)
    replace c0 := kcell kk c0
    replace c1 := kcell kk c1
    replace hgl : g < w1.heap.size := by have := kk.size; have h9 : g < w.heap.size := hgl; omega
    clear hk1
    go_wp2_with fail
    rw [rounds_succ]
    go_wp2_with fail
    refine (check_out g _ _ R C _ ?_ ?_ H2.out).mono ?_
    · simp [go_sem, hgl, c0]
    · simp [go_sem, hgl, c1]
    rintro e w2 ⟨rfl, hk2⟩
    replace hk2 : Kept0 w1 w2 := ((Kept.refl _ w1).alloc _).later hk2 (fun _ _ e => e)
    go_wp2_with fail
    go_ret2
    exact ⟨rfl, kk.trans hk2⟩
  · have H1 := Lib.hid h1
    clear h1
    refine (check_out g _ _ R C _ ?_ ?_ H1.out).mono ?_
    · exact kcell ((((Kept.refl _ w).alloc _).alloc _).alloc _) c0
    · exact kcell ((((Kept.refl _ w).alloc _).alloc _).alloc _) c1
    rintro e w1 ⟨rfl, hk1⟩
    have kk : Kept0 w w1 := ((((Kept.refl _ w).alloc _).alloc _).alloc _).later hk1 (fun _ _ e => e)
    go_wp2_with fail
    go_ret2
    exact ⟨rfl, kk⟩

theorem run_nil (r c r' c' : Int) (w : World) :
    Calls Tryz.prog 120 #[.pointer none, .agg #[.int .i64 r, .int .i64 c], .agg #[.int .i64 r', .int .i64 c']] w fun e w' =>
      e = .returned (.tuple #[.slice none 0 0, .int .i64 2]) ∧ Kept0 w w' := by
  have i0 : ∀ w, (Instr.index 174 (.agg #[.int .i64 r, .int .i64 c, .int .i64 r', .int .i64 c']) (.int .i64 0)).run Tryz.prog w = .ok (.agg #[.int .i64 r, .int .i64 c]) w := fun _ => by kernel_rfl
  go_enter Tryz.func120, Tryz.ntmps120
  go_wp2
  refine wp_loop_rounds 1 ?_
  rw [rounds_succ]
  go_wp2_with fail
  refine (check_nil _ _ _).mono ?_
  rintro e w1 ⟨rfl, hk1⟩
  have kk : Kept0 w w1 := ((((Kept.refl _ w).alloc _).alloc _).alloc _).later hk1 (fun _ _ e => e)
  go_wp2_with fail
  go_ret2
  exact ⟨rfl, kk⟩
end Go.Proofs.YtlhajbcabpfbkaaGreatDoor

/-
  What Roll does.
-/
namespace Go.Proofs.YtlhajbcabpfbkaaGreatDoor
open Go.RowKit

theorem roll_len {C : Nat} {r r' : Int} (h1 : 0 ≤ r) (hle : r ≤ r') (hC : 1 ≤ C) : idx C r' ((C : Int) - 1) + 1 - idx C r 0 = (r' - r + 1).toNat * C ∧ idx C r 0 = r.toNat * C ∧ idx C r 0 ≤ idx C r' ((C : Int) - 1) := by
  obtain ⟨a, rfl⟩ := Int.eq_ofNat_of_zero_le h1
  obtain ⟨b, rfl⟩ := Int.eq_ofNat_of_zero_le (show 0 ≤ r' by omega)
  obtain ⟨d, rfl⟩ : ∃ d, b = a + d := ⟨b - a, by omega⟩
  unfold idx
  have e1 : (((a + d : Nat) : Int) - (a : Int) + 1).toNat = d + 1 := by omega
  rw [e1]
  simp only [Int.toNat_natCast, Int.toNat_zero]
  rw [Nat.add_mul, Nat.add_mul]
  omega

set_option maxHeartbeats 1000000 in
theorem roll_in (g t cap R C : Nat) (f : Nat → Cel) (r r' n : Int) (x : Cel) (w : World) (hg : GridAt w g t cap R C f) (h1 : 0 ≤ r) (h2 : r < R) (h3 : 0 ≤ r') (h4 : r' < R) (hle : r ≤ r') :
    Calls Tryz.prog 114 #[.pointer (some ⟨g, 0, none⟩), .int .i64 r, .int .i64 r', .int .i64 n, (.agg #[.int .i32 x.g, .int .i64 x.a, .bool x.b, .int .i64 x.m])] w fun e w' =>
      e = .returned (.int .i64 0) ∧ GridAt w' g t cap R C (moveF f (r.toNat * C) ((r' - r + 1).toNat * C) (bnd n (r' - r + 1) * C) x) ∧ Kept (· = t) w w' := by
  have hC1 := hg.C1
  have hC2 := hg.C2
  have hR2 := hg.R2
  have hcap := hg.cap
  have hRC : R * C ≤ 65025 := Nat.mul_le_mul hR2 hC2
  obtain ⟨e1, e2, e3⟩ := roll_len h1 hle hC1
  have hT1 : There R C r 0 := ⟨h1, h2, by omega, by omega⟩
  have hT2 : There R C r' ((C : Int) - 1) := ⟨h3, h4, by omega, by omega⟩
  have hl2 := idx_lt hT2
  obtain ⟨L, hL⟩ : ∃ L, L = (r' - r + 1).toNat * C := ⟨_, rfl⟩
  obtain ⟨o, ho⟩ : ∃ o, o = r.toNat * C := ⟨_, rfl⟩
  obtain ⟨N, hN⟩ : ∃ N, N = R * C := ⟨_, rfl⟩
  obtain ⟨m, hm⟩ : ∃ m, m = r' - r + 1 := ⟨_, rfl⟩
  have hm2 : m ≤ 255 := by omega
  have hm0 : 0 ≤ m := by omega
  obtain ⟨z, hz⟩ : ∃ z, z = bnd n m := ⟨_, rfl⟩
  have hz1 : -m ≤ z := by rw [hz]; unfold bnd; omega
  have hz2 : z ≤ m := by rw [hz]; unfold bnd; omega
  obtain ⟨y, hy⟩ : ∃ y, y = z * C := ⟨_, rfl⟩
  have hLm : (L : Int) = m * C := by rw [hL, hm]; rw [Int.natCast_mul, Int.toNat_of_nonneg (by omega)]
  have hy1 : -(L : Int) ≤ y := by
    rw [hy, hLm, ← Int.neg_mul]
    exact Int.mul_le_mul_of_nonneg_right hz1 (by omega)
  have hy2 : y ≤ L := by
    rw [hy, hLm]
    exact Int.mul_le_mul_of_nonneg_right hz2 (by omega)
  have hlen : o + L ≤ N := by rw [hN]; omega
  have hcap' : L ≤ cap - o := by omega
  have hN2 : N ≤ 65025 := by omega
  have hw : wrap64 (z * (C : Int)) = y := by rw [← hy]; exact w64 (by omega) (by omega)
  have Hw : Hid (IntKind.i64.wrap (z * (C : Int)) = y) := by rw [IntWalk.i64_left]; exact hw
  have Hs : Hid (IntKind.i64.wrap (IntKind.i64.wrap (r' - r) + 1) = m) := by
    rw [IntWalk.i64_left, IntWalk.i64_left, w64 (n := r' - r) (by omega) (by omega), w64 (by omega) (by omega)]; exact hm.symm
  have hm3 : m ≤ 70000 := by omega
  have hN3 : N ≤ 70000 := by omega
  clear hw
  have hrow := hg.row
  rw [← hN] at hrow
  have H1 := Lib.hid hT1
  have H2 := Lib.hid hT2
  have E1 : Hid (idx C r' ((C : Int) - 1) + 1 - idx C r 0 = L) := by rw [hL]; exact e1
  have E2 : Hid (idx C r 0 = o) := by rw [ho]; exact e2
  rw [← hL, ← ho, ← hm, ← hz, ← hy]
  have HN := Lib.hid hN
  have HM := Lib.hid hm
  have HZ := Lib.hid hz
  have HRR := Lib.hid hle
  clear hN hm hz hL ho hy e1 e2 hT1 hT2 hl2 hcap hRC hLm
  have hfld : ∀ w, (Instr.field 23 (.agg #[.int .i64 R, .int .i64 C]) 1).run Tryz.prog w = .ok (.int .i64 C) w := fun _ => by kernel_rfl
  have c1 := hg.c1
  have hx := CelAt.new w x 52
  have htl := hg.row.lt
  go_enter Tryz.func114, Tryz.ntmps114
  go_wp2_with fail
  have k0 : Kept0 w (w.alloc (.cells #[.int .i32 x.g, .int .i64 x.a, .bool x.b, .int .i64 x.m] 52)) := (Kept.refl _ w).alloc _
  have hg0 := hg.kept k0 (fun e => e) (fun e => e)
  refine (size_any g R C _ hg0.c0 hg0.c1).mono ?_
  rintro e w0 ⟨rfl, hk0⟩
  replace hx := hx.kept hk0 (fun e => e)
  replace hk0 := k0.trans hk0
  clear hg0
  go_wp2_with fail
  refine (stretch_yes g t cap R C f _ _ _ _ _ (hg.kept hk0 (fun e => e) (fun e => e)) H1.out H2.out e3).mono ?_
  unfold runV
  rw [E1.out, E2.out]
  rintro e w1 ⟨rfl, hk1⟩
  replace hx := hx.kept hk1 (fun e => e)
  have kk : Kept0 w w1 := hk0.trans hk1
  have hrow1 := hrow.kept kk (fun e => e)
  have j1 := kcell kk c1
  have hne : g ≠ t := hg.ne
  obtain ⟨z0, z1, z2, z3⟩ := hx
  clear hk0 hk1 c1 hfld e3
  go_wp2_with fail
  go_region_held3 (fun w' => w'.cell? ⟨g, 1, none⟩ = some (.int .i64 C) ∧ w'.cell? ⟨w.heap.size, 0, none⟩ = some (.int .i32 x.g) ∧ w'.cell? ⟨w.heap.size, 1, none⟩ = some (.int .i64 x.a) ∧ w'.cell? ⟨w.heap.size, 2, none⟩ = some (.bool x.b) ∧ w'.cell? ⟨w.heap.size, 3, none⟩ = some (.int .i64 x.m)) (go_keep)
    (first
      | (go_at_call 122; rw [Hs.out]; refine (bound_any _ _ _ hm0 hm3).mono ?_; rw [← HZ.out]; rintro e w3 ⟨rfl, rfl⟩)
      | (go_at_call 121; rw [Hw.out]; refine (move_any t o L N _ y x f _ (CellsAt.drewN hrow1 1) hlen hN3 hcap' hy1 hy2).mono ?_; rintro e w3 ⟨rfl, hI, hk3⟩; have j2 := kcellS hk3 (show w1.drew.cell? _ = _ from j1) hne; obtain ⟨v0, v1, v2, v3⟩ := (CelAt.drew ⟨z0, z1, z2, z3⟩).kept hk3 (by omega)))
  go_wp2
  go_ret
  obtain rfl := HN.out
  have kt : Kept (· = t) w w3 := (Kept0.to (Kept.drew kk)).later hk3 (fun _ _ e => e)
  exact ⟨rfl, hg.withRow kt hI, kt⟩

theorem roll_out (g t cap R C : Nat) (f : Nat → Cel) (r r' n : Int) (x : Cel) (w : World) (hg : GridAt w g t cap R C f) (h : ¬ (0 ≤ r ∧ r < R) ∨ ¬ (0 ≤ r' ∧ r' < R)) :
    Calls Tryz.prog 114 #[.pointer (some ⟨g, 0, none⟩), .int .i64 r, .int .i64 r', .int .i64 n, (.agg #[.int .i32 x.g, .int .i64 x.a, .bool x.b, .int .i64 x.m])] w fun e w' => e = .returned (.int .i64 11) ∧ Kept0 w w' := by
  have hC1 := hg.C1
  have hC2 := hg.C2
  have H : Hid (¬ There R C r 0 ∨ ¬ There R C r' ((C : Int) - 1)) := by
    rcases h with h | h
    · exact Or.inl (fun e => h ⟨e.1, e.2.1⟩)
    · exact Or.inr (fun e => h ⟨e.1, e.2.1⟩)
  clear h
  have hfld : ∀ w, (Instr.field 23 (.agg #[.int .i64 R, .int .i64 C]) 1).run Tryz.prog w = .ok (.int .i64 C) w := fun _ => by kernel_rfl
  go_enter Tryz.func114, Tryz.ntmps114
  go_wp2_with fail
  have k0 : Kept0 w (w.alloc (.cells #[.int .i32 x.g, .int .i64 x.a, .bool x.b, .int .i64 x.m] 52)) := (Kept.refl _ w).alloc _
  refine (size_any g R C _ (kcell k0 hg.c0) (kcell k0 hg.c1)).mono ?_
  rintro e w0 ⟨rfl, hk0⟩
  replace hk0 := k0.trans hk0
  go_wp2_with fail
  refine (run_out g R C _ _ _ _ _ (kcell hk0 hg.c0) (kcell hk0 hg.c1) H.out).mono ?_
  rintro e w1 ⟨rfl, hk1⟩
  go_wp2_with fail
  go_ret
  exact ⟨rfl, hk0.trans hk1⟩

theorem roll_arg (g t cap R C : Nat) (f : Nat → Cel) (r r' n : Int) (x : Cel) (w : World) (hg : GridAt w g t cap R C f) (h1 : 0 ≤ r) (h2 : r < R) (h3 : 0 ≤ r') (h4 : r' < R) (hlt : r' < r) :
    Calls Tryz.prog 114 #[.pointer (some ⟨g, 0, none⟩), .int .i64 r, .int .i64 r', .int .i64 n, (.agg #[.int .i32 x.g, .int .i64 x.a, .bool x.b, .int .i64 x.m])] w fun e w' => e = .returned (.int .i64 1) ∧ Kept0 w w' := by
  have hC1 := hg.C1
  have hC2 := hg.C2
  have H1 : Hid (There R C r 0) := ⟨h1, h2, by omega, by omega⟩
  have H2 : Hid (There R C r' ((C : Int) - 1)) := ⟨h3, h4, by omega, by omega⟩
  have H3 : Hid (idx C r' ((C : Int) - 1) < idx C r 0) := by
    show r'.toNat * C + ((C : Int) - 1).toNat < r.toNat * C + (0 : Int).toNat
    have := place_lt (a := r'.toNat) (b := ((C : Int) - 1).toNat) (R := r.toNat) (C := C) (by omega) (by omega)
    simpa using this
  have hfld : ∀ w, (Instr.field 23 (.agg #[.int .i64 R, .int .i64 C]) 1).run Tryz.prog w = .ok (.int .i64 C) w := fun _ => by kernel_rfl
  go_enter Tryz.func114, Tryz.ntmps114
  go_wp2_with fail
  have k0 : Kept0 w (w.alloc (.cells #[.int .i32 x.g, .int .i64 x.a, .bool x.b, .int .i64 x.m] 52)) := (Kept.refl _ w).alloc _
  refine (size_any g R C _ (kcell k0 hg.c0) (kcell k0 hg.c1)).mono ?_
  rintro e w0 ⟨rfl, hk0⟩
  replace hk0 := k0.trans hk0
  go_wp2_with fail
  refine (run_arg g t cap R C f _ _ _ _ _ (hg.kept hk0 (fun e => e) (fun e => e)) H1.out H2.out H3.out).mono ?_
  rintro e w1 ⟨rfl, hk1⟩
  go_wp2_with fail
  go_ret
  exact ⟨rfl, hk0.trans hk1⟩
end Go.Proofs.YtlhajbcabpfbkaaGreatDoor

/-
  What Up of package shift does.
-/
namespace Go.Proofs.YtlhajbcabpfbkaaGreatDoor
open Go.RowKit

/-- A cell as a value. -/
abbrev Cel.v (x : Cel) : Value := .agg #[.int .i32 x.g, .int .i64 x.a, .bool x.b, .int .i64 x.m]

set_option maxHeartbeats 1000000 in
theorem up_core (T : Nat → Prop) (P : World → Prop) (g : Value) (R C n E : Int) (x : Cel) (w : World) (hT : ∀ k, T k → k < w.heap.size) (hR : 0 ≤ R ∧ R ≤ 255)
    (hsize : ∀ w', Kept0 w w' → Calls Tryz.prog 56 #[g] w' fun e w'' => e = .returned (.agg #[.int .i64 R, .int .i64 C]) ∧ Kept0 w' w'')
    (hroll : ∀ w', Kept0 w w' → Calls Tryz.prog 114 #[g, .int .i64 0, .int .i64 (R - 1), .int .i64 n, x.v] w' fun e w'' => e = .returned (.int .i64 E) ∧ P w'' ∧ Kept T w' w'') :
    Calls Tryz.prog 107 #[g, .int .i64 n, x.v] w fun e w' => e = .returned (.int .i64 E) ∧ P w' := by
  have HS := Lib.hid hsize
  have HRL := Lib.hid hroll
  have Hs : Hid (IntKind.i64.wrap (R - 1) = R - 1) := by
    show _ = _
    rw [IntWalk.i64_left, w64 (by omega) (by omega)]
  have hfld : ∀ w, (Instr.field 23 (.agg #[.int .i64 R, .int .i64 C]) 0).run Tryz.prog w = .ok (.int .i64 R) w := fun _ => by kernel_rfl
  have HT := Lib.hid hT
  clear hsize hroll hT hR
  have hx := CelAt.new w x 52
  go_enter Tryz.func107, Tryz.ntmps107
  go_wp2_with fail
  obtain ⟨W, hW⟩ : ∃ W, W = w.alloc (.cells #[.int .i32 x.g, .int .i64 x.a, .bool x.b, .int .i64 x.m] 52) := ⟨_, rfl⟩
  have k0 : Kept0 w W := by rw [hW]; exact (Kept.refl _ w).alloc _
  rw [← hW] at hx ⊢
  clear hW
  have KK := Lib.hid k0
  obtain ⟨z0, z1, z2, z3⟩ := hx
  have hx2 : Hid (CelAt W w.heap.size x) := ⟨z0, z1, z2, z3⟩
  go_region_held3 (fun w' => w'.cell? ⟨w.heap.size, 0, none⟩ = some (.int .i32 x.g) ∧ w'.cell? ⟨w.heap.size, 1, none⟩ = some (.int .i64 x.a) ∧ w'.cell? ⟨w.heap.size, 2, none⟩ = some (.bool x.b) ∧ w'.cell? ⟨w.heap.size, 3, none⟩ = some (.int .i64 x.m)) (go_keep)
    (first
      | (go_at_call 56; refine (HS.out _ (Kept.drew KK.out)).mono ?_; rintro e w3 ⟨rfl, hk3⟩; have kn : Hid (Kept0 W w3) := (Kept.refl _ W).drew.trans hk3; obtain ⟨v0, v1, v2, v3⟩ := hx2.out.kept kn.out (fun e => e))
      | (go_at_call 114; rw [Hs.out]; refine (HRL.out _ (KK.out.trans kn.out)).mono ?_; rintro e w4 ⟨rfl, hP, hk4⟩; obtain ⟨v0, v1, v2, v3⟩ := (hx2.out.kept kn.out (fun e => e)).kept hk4 (fun e => Nat.lt_irrefl _ (HT.out _ e))))
  all_goals
    go_wp2
    go_ret
    exact ⟨rfl, hP⟩

theorem moveF_bnd (f : Nat → Cel) (o L : Nat) (n : Int) (x : Cel) (k : Nat) : moveF f o L (bnd n L) x k = moveF f o L n x k := by
  unfold moveF bnd
  by_cases h : o ≤ k ∧ k < o + L
  · rw [if_pos h, if_pos h]
    by_cases h1 : (o : Int) ≤ k + n ∧ (k : Int) + n < o + L
    · rw [if_pos h1, if_pos (by omega)]
      congr 2; omega
    · rw [if_neg h1, if_neg (by omega)]
  · rw [if_neg h, if_neg h]

theorem mul_bnd {m C : Nat} {n : Int} (hC : 1 ≤ C) : bnd (bnd n m * C) ((m * C : Nat) : Int) = bnd (n * C) ((m * C : Nat) : Int) := by
  have hm : (0 : Int) ≤ (m : Int) * C := Int.mul_nonneg (by omega) (by omega)
  rw [Int.natCast_mul]
  by_cases h1 : n ≤ m
  · by_cases h2 : -(m : Int) ≤ n
    · rw [show bnd n m = n by unfold bnd; omega]
    · rw [show bnd n m = -(m : Int) by unfold bnd; omega]
      have h3 : n * C ≤ -(m : Int) * C := Int.mul_le_mul_of_nonneg_right (by omega) (by omega)
      rw [Int.neg_mul] at h3 ⊢
      unfold bnd; omega
  · rw [show bnd n m = (m : Int) by unfold bnd; omega]
    have h3 : (m : Int) * C ≤ n * C := Int.mul_le_mul_of_nonneg_right (by omega) (by omega)
    unfold bnd; omega

theorem moveF_bndC (f : Nat → Cel) (o m C : Nat) (n : Int) (x : Cel) (k : Nat) (hC : 1 ≤ C) : moveF f o (m * C) (bnd n m * C) x k = moveF f o (m * C) (n * C) x k := by
  rw [← moveF_bnd, mul_bnd hC, moveF_bnd]

/-- All lines by n. -/
def upF (R C : Nat) (f : Nat → Cel) (n : Int) (x : Cel) : Nat → Cel := moveF f 0 (R * C) (n * C) x
theorem up_any (g t cap R C : Nat) (f : Nat → Cel) (n : Int) (x : Cel) (w : World) (hg : GridAt w g t cap R C f) :
    Calls Tryz.prog 107 #[.pointer (some ⟨g, 0, none⟩), .int .i64 n, x.v] w fun e w' => e = .returned (.int .i64 0) ∧ GridAt w' g t cap R C (upF R C f n x) ∧ Kept (· = t) w w' := by
  have hR1 := hg.R1
  have hR2 := hg.R2
  have hl := hg.row.lt
  refine up_core (· = t) _ _ (R : Int) (C : Int) n 0 x w (fun k e => by omega) ⟨by omega, by omega⟩ (fun w' k => size_any g R C w' (kcell k hg.c0) (kcell k hg.c1)) (fun w' k => ?_)
  refine (roll_in g t cap R C f 0 ((R : Int) - 1) n x w' (hg.kept k (fun e => e) (fun e => e)) (by omega) (by omega) (by omega) (by omega) (by omega)).mono ?_
  rintro e w2 ⟨rfl, h2, k2⟩
  refine ⟨rfl, ⟨h2.congr (fun j hj => ?_), (Kept0.to k).trans k2⟩, k2⟩
  have e1 : ((R : Int) - 1 - 0 + 1) = (R : Int) := by omega
  rw [e1]
  simp only [Int.toNat_natCast, Int.toNat_zero, Nat.zero_mul]
  exact moveF_bndC f 0 R C n x j hg.C1

end Go.Proofs.YtlhajbcabpfbkaaGreatDoor
