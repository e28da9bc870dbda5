/-
  The law WipeMeets.
-/
import Derived.Test.YtedgnjideemfbaaMeetsN
namespace Go.Proofs.Ytedgnjideemfbaa
open Go.RowKit

/-- What the numbers are, when d parts were counted. -/
def fD (R C r c d : Nat) : Nat → Int := fun j => if 1 ≤ j ∧ j ≤ d then (nP R C r c (j : Int) : Int) else 0
theorem fD_step (R C r c d : Nat) : (fun j => if j = d + 1 then (nP R C r c ((d + 1 : Nat) : Int) : Int) else fD R C r c d j) = fD R C r c (d + 1) := by
  funext j
  unfold fD
  by_cases e : j = d + 1
  · subst e
    rw [if_pos rfl, if_pos ⟨by omega, by omega⟩]
  · rw [if_neg e]
    by_cases h : 1 ≤ j ∧ j ≤ d
    · rw [if_pos h, if_pos ⟨h.1, by omega⟩]
    · rw [if_neg h, if_neg (by omega)]

set_option maxHeartbeats 8000000 in
set_option maxRecDepth 100000 in
theorem meets_yes (a : Option Addr) (cap C R : Nat) (r c : Nat) (w : World) (h1 : 1 ≤ R ∧ R ≤ 8 ∧ 1 ≤ C ∧ C ≤ 12) (hr : r < R) (hc : c < C) :
    Calls Try.prog 6 #[.agg #[.slice a R cap, .int .i64 (C : Int)], .agg #[.int .i64 (r : Int), .int .i64 (c : Int)]] w fun e w' => e = .returned (.bool true) ∧ Kept0 w w' := by
  have HB : Hid (fewB R (C : Int) = true) := decide_eq_true (by omega)
  obtain ⟨bl, hbl⟩ : ∃ bl, bl = celB 32 := ⟨_, rfl⟩
  obtain ⟨st, hst⟩ : ∃ st : Cel, st = ⟨42, 5, false, 0⟩ := ⟨_, rfl⟩
  have hne : ¬ st = bl := by rw [hst, hbl]; decide
  have hbb : bl.b = false := by rw [hbl]; decide
  have HC : Hid (∀ w : World, Calls Try.prog 21 #[.int .u8 32] w fun e w' => e = .returned bl.v ∧ Kept0 w w') := fun w => by rw [hbl]; exact cellL 32 w (by omega) (by omega)
  have HW : Hid (∀ (p : Int) (g t cg : Nat) (w' : World), 1 ≤ p → p ≤ 6 → GridAt w' g t cg R C (fun _ => bl) → Calls Try.prog 22 #[.pointer (some ⟨g, 0, none⟩), .agg #[.int .i64 (fromR r p), .int .i64 (fromC c p)], .agg #[.int .i64 (toR R r p), .int .i64 (toC C c p)], st.v, .bool true] w' fun e w'' => e = .returned (.tuple #[.int .i64 (nP R C r c p : Int), .int .i64 0]) ∧ (∃ f, GridAt w'' g t cg R C f ∧ f (idx C (r : Int) (c : Int)) = st) ∧ Kept (· = t) w' w'') := fun p g t cg w' hp1 hp2 hg => by
    obtain ⟨e1, e2, e3⟩ := meet_wipe R C r c p bl st hne hbb hr hc ⟨hp1, hp2⟩
    refine (wipe_any g t cg R C _ _ _ _ _ st true w' hg).mono ?_
    unfold Turns
    rw [e1, e2]
    rintro e w'' ⟨rfl, h1, h2⟩
    exact ⟨rfl, ⟨_, h1, e3⟩, h2⟩
  have HP : Hid (∀ (p : Int) (w' : World), 1 ≤ p → p ≤ 6 → Calls Try.prog 15 #[.agg #[.int .i64 (R : Int), .int .i64 (C : Int)], .agg #[.int .i64 (r : Int), .int .i64 (c : Int)], .int .i64 p] w' fun e w'' => e = .returned (.tuple #[.agg #[.int .i64 (fromR r p), .int .i64 (fromC c p)], .agg #[.int .i64 (toR R r p), .int .i64 (toC C c p)], .int .i64 0]) ∧ Kept0 w' w'') := fun p w' hp1 hp2 => part_ok R C r c p w' (by omega) (by omega) ⟨hp1, hp2⟩
  have HS := Lib.hid (nP_sums R C r c hr hc)
  have HSC := Lib.hid (same_cel st)
  have HST := Lib.hid hst
  have HTH : Hid (There R C (r : Int) (c : Int)) := ⟨by omega, by omega, by omega, by omega⟩
  have hRC : R * C ≤ 8 * 12 := Nat.mul_le_mul h1.2.1 h1.2.2.2
  obtain ⟨a1, a2, a3, a4⟩ := h1
  have d1 : decide ((r : Int) < 0) = false := decide_eq_false (by omega)
  have d2 : decide (R ≤ r) = false := decide_eq_false (by omega)
  have d3 : decide ((c : Int) < 0) = false := decide_eq_false (by omega)
  have d4 : decide (C ≤ c) = false := decide_eq_false (by omega)
  have d5 : decide ((R : Int) ≤ (r : Int)) = false := decide_eq_false (by omega)
  have d6 : decide ((C : Int) ≤ (c : Int)) = false := decide_eq_false (by omega)
  clear hne hbb hbl hst
  go_enter Try.func6, Try.ntmps6
  go_wp2_with fail
  refine (few_any a R cap (C : Int) _ (by omega)).mono ?_
  rw [HB.out]
  rintro e w1 ⟨rfl, k1⟩
  have kk : Kept0 w w1 := (((Kept.refl _ w).alloc _).alloc _).trans k1
  have s0 : w1.cell? ⟨w.heap.size, 0, none⟩ = some (.slice a R cap) := kcell k1 (by simp [go_sem])
  have s1 : w1.cell? ⟨w.heap.size, 1, none⟩ = some (.int .i64 (C : Int)) := kcell k1 (by simp [go_sem])
  have p0 : w1.cell? ⟨w.heap.size + 1, 0, none⟩ = some (.int .i64 (r : Int)) := kcell k1 (by simp [go_sem])
  have p1 : w1.cell? ⟨w.heap.size + 1, 1, none⟩ = some (.int .i64 (c : Int)) := kcell k1 (by simp [go_sem])
  have l0 : w.heap.size < w1.heap.size := World.block_lt_of_cell? w1 _ s0
  have l1 : w.heap.size + 1 < w1.heap.size := World.block_lt_of_cell? w1 _ p0
  clear k1
  go_wp2_with fail
  obtain ⟨W, hW⟩ : ∃ W, W = ((w1.alloc (.cells #[.int .i64 (R : Int), .int .i64 (C : Int)] 45)).alloc (.cells #[.int .i32 42, .int .i64 5, .bool false, .int .i64 0] 38)).alloc (.cells #[.int .i64 0, .int .i64 0, .int .i64 0, .int .i64 0, .int .i64 0, .int .i64 0, .int .i64 0] 3) := ⟨_, rfl⟩
  have kW : Kept0 w1 W := by rw [hW]; exact (((Kept.refl _ w1).alloc _).alloc _).alloc _
  have hW3 : w1.heap.size + 1 + 1 < W.heap.size := by rw [hW]; simp
  have HM : Hid (Pm w w1.heap.size (w.heap.size + 1) (w1.heap.size + 1) (w1.heap.size + 1 + 1) R C (r : Int) (c : Int) st (fD R C r c 0) W) := by
    have kz : Kept0 ((w1.alloc (.cells #[.int .i64 (R : Int), .int .i64 (C : Int)] 45)).alloc (.cells #[.int .i32 42, .int .i64 5, .bool false, .int .i64 0] 38)) W := by rw [hW]; exact (Kept.refl _ _).alloc _
    have ky : Kept0 (w1.alloc (.cells #[.int .i64 (R : Int), .int .i64 (C : Int)] 45)) W := by rw [hW]; exact ((Kept.refl _ _).alloc _).alloc _
    refine ⟨kcell ky (by simp [go_sem]), kcell ky (by simp [go_sem]), kcell kW p0, kcell kW p1, ?_, fun j hj => ?_, kk.trans kW⟩
    · rw [HST.out]
      exact ⟨kcell kz (by simp [go_sem]), kcell kz (by simp [go_sem]), kcell kz (by simp [go_sem]), kcell kz (by simp [go_sem])⟩
    · rw [show fD R C r c 0 j = 0 from if_neg (by omega)]
      have hh : W.heap[w1.heap.size + 1 + 1]? = some (.cells #[.int .i64 0, .int .i64 0, .int .i64 0, .int .i64 0, .int .i64 0, .int .i64 0, .int .i64 0] 3 (0, 0)) := by rw [hW]; exact heap_new3 w1 _ _ _
      have hj2 : j = 0 ∨ j = 1 ∨ j = 2 ∨ j = 3 ∨ j = 4 ∨ j = 5 ∨ j = 6 := by omega
      refine ⟨?_, by simp [World.frozen?, hh]⟩
      rcases hj2 with rfl | rfl | rfl | rfl | rfl | rfl | rfl
      all_goals simp [World.cell?, hh]
  rw [← hW]
  clear hW kW s0 s1 p0 p1 kk
  go_loopw [8, 9, 10, 11, 12, 13, 14, 15, 16, 17] (fun s8 _ _ _ _ _ _ _ _ _ wr => ∃ d : Nat, d ≤ 6 ∧ s8 = .int .i64 ((d : Int) + 1) ∧ W.heap.size ≤ wr.heap.size ∧ Hid (Pm w w1.heap.size (w.heap.size + 1) (w1.heap.size + 1) (w1.heap.size + 1 + 1) R C (r : Int) (c : Int) st (fD R C r c d) wr)) (fun s8 _ _ _ _ _ _ _ _ _ _ => 7 - (intOf s8).toNat)
  case atStart => exact ⟨0, by omega, rfl, Nat.le_refl _, HM⟩
  case round =>
    clear HM
    obtain ⟨d, hd, rfl, hwr, HM⟩ := hrel
    by_cases hlt : d < 6
    · have hdt : decide ((d : Int) + 1 ≤ 6) = true := by simp; omega
      have z0 := HM.out.s0
      have z1 := HM.out.s1
      have z2 := HM.out.p0
      have z3 := HM.out.p1
      have KD : Hid (Kept0 wr wr.drew) := (Kept.refl _ wr).drew
      go_wp2_with fail
      go_region_held3 (fun w' => w'.cell? ⟨w1.heap.size, 0, none⟩ = some (.int .i64 (R : Int)) ∧ w'.cell? ⟨w1.heap.size, 1, none⟩ = some (.int .i64 (C : Int))) (go_keep)
        (first
          | (go_at_call 21; refine (HC.out _).mono ?_; rintro e9 w4 ⟨rfl, hk4⟩; have hk5 : Kept0 wr w4 := ((Kept.refl _ wr).drew).trans hk4; have v0 := kcell hk5 z0; have v1 := kcell hk5 z1)
          | (go_at_call 20; refine (new_yes R C bl _ a1 (by omega) a3 (by omega)).mono ?_; rintro e9 w5 ⟨g, t, rfl, hg1, ht1, hG, hk6⟩; have v2 := kcell hk6 v0; have v3 := kcell hk6 v1))
      have k5 := hk5.trans hk6
      have hs4 := hk5.size
      have hs5 := k5.size
      have htl := hG.row.lt
      have hgl := hG.lt
      have HM5 := Lib.hid (HM.out.keep k5)
      clear hk5 hk6 k5 HM z0 z1 z2 z3 v0 v1 v2 v3 KD
      have z0 := HM5.out.s0
      have z1 := HM5.out.s1
      have z2 := HM5.out.p0
      have z3 := HM5.out.p1
      go_wp2_with fail
      refine (HP.out ((d : Int) + 1) w5 (by omega) (by omega)).mono ?_
      rintro e w6 ⟨rfl, k6⟩
      have hs6 := k6.size
      obtain ⟨W7, hW7⟩ : ∃ W7, W7 = (w6.alloc (.cells #[.int .i64 (fromR (r : Int) ((d : Int) + 1)), .int .i64 (fromC (c : Int) ((d : Int) + 1))] 36)).alloc (.cells #[.int .i64 (toR (R : Int) (r : Int) ((d : Int) + 1)), .int .i64 (toC (C : Int) (c : Int) ((d : Int) + 1))] 36) := ⟨_, rfl⟩
      have k7 : Kept0 w6 W7 := by rw [hW7]; exact ((Kept.refl _ w6).alloc _).alloc _
      have x0 : W7.cell? ⟨w6.heap.size, 0, none⟩ = some (.int .i64 (fromR (r : Int) ((d : Int) + 1))) := by rw [hW7]; simp [go_sem]
      have x1 : W7.cell? ⟨w6.heap.size, 1, none⟩ = some (.int .i64 (fromC (c : Int) ((d : Int) + 1))) := by rw [hW7]; simp [go_sem]
      have x2 : W7.cell? ⟨w6.heap.size + 1, 0, none⟩ = some (.int .i64 (toR (R : Int) (r : Int) ((d : Int) + 1))) := by rw [hW7]; simp [go_sem]
      have x3 : W7.cell? ⟨w6.heap.size + 1, 1, none⟩ = some (.int .i64 (toC (C : Int) (c : Int) ((d : Int) + 1))) := by rw [hW7]; simp [go_sem]
      have HM7 := Lib.hid ((HM5.out.keep k6).keep k7)
      have HG7 := Lib.hid ((hG.kept k6 (fun e => e) (fun e => e)).kept k7 (fun e => e) (fun e => e))
      have hs7 := k7.size
      obtain ⟨c0, c1, c2, c3⟩ := HM7.out.cel
      have B0 : ∀ o o', ((w6.alloc o).alloc o').cell? ⟨w1.heap.size + 1, 0, none⟩ = some (.int .i32 st.g) := fun _ _ => kcell (((Kept.refl _ w6).alloc _).alloc _) (HM5.out.keep k6).cel.c0
      have B1 : ∀ o o', ((w6.alloc o).alloc o').cell? ⟨w1.heap.size + 1, 1, none⟩ = some (.int .i64 st.a) := fun _ _ => kcell (((Kept.refl _ w6).alloc _).alloc _) (HM5.out.keep k6).cel.c1
      have B2 : ∀ o o', ((w6.alloc o).alloc o').cell? ⟨w1.heap.size + 1, 2, none⟩ = some (.bool st.b) := fun _ _ => kcell (((Kept.refl _ w6).alloc _).alloc _) (HM5.out.keep k6).cel.c2
      have B3 : ∀ o o', ((w6.alloc o).alloc o').cell? ⟨w1.heap.size + 1, 3, none⟩ = some (.int .i64 st.m) := fun _ _ => kcell (((Kept.refl _ w6).alloc _).alloc _) (HM5.out.keep k6).cel.c3
      have dd1 : decide ((d : Int) + 1 < 1) = false := decide_eq_false (by omega)
      have dd2 : decide ((6 : Int) < (d : Int) + 1) = false := decide_eq_false (by omega)
      clear hG z0 z1 z2 z3
      go_wp2_with fail
      rw [← hW7]
      clear hW7 B0 B1 B2 B3 c0 c1 c2 c3 x0 x1 x2 x3 k6 k7
      refine (HW.out ((d : Int) + 1) g t (R * C) W7 (by omega) (by omega) HG7.out).mono ?_
      rintro e w8 ⟨rfl, ⟨f, hG8, hf8⟩, k8⟩
      have hs8 := k8.size
      have hW1 : w1.heap.size + 1 + 1 < W7.heap.size := by omega
      have HM8 := Lib.hid (HM7.out.keepS k8 (by omega) (by omega) (by omega) (by omega) (fun i hi e => by omega))
      have HG8 := Lib.hid hG8
      have HF8 := Lib.hid hf8
      clear HM7 HG7 hG8 hf8 k8
      have z2 := HM8.out.p0
      have z3 := HM8.out.p1
      go_wp2_with fail
      refine (at_in g t (R * C) R C f (r : Int) (c : Int) w8 HG8.out HTH.out).mono ?_
      rw [HF8.out]
      rintro e w9 ⟨rfl, k9⟩
      have HM9 := Lib.hid (HM8.out.keep k9)
      have hs9 := k9.size
      clear HM8 HG8 k9 z2 z3
      obtain ⟨c0, c1, c2, c3⟩ := HM9.out.cel
      have hcl : w1.heap.size + 1 < w9.heap.size := World.block_lt_of_cell? w9 _ c0
      have hsc := HSC.out
      obtain ⟨n0, n1⟩ := HM9.out.num (d + 1) (by omega)
      have hnl : w1.heap.size + 1 + 1 < w9.heap.size := World.block_lt_of_cell? w9 _ n0
      have HMA := Lib.hid (HM9.out.set (d + 1) (nP R C r c ((d + 1 : Nat) : Int) : Int) (by omega) (by omega) (by omega) (by omega))
      rw [fD_step, show ((d + 1 : Nat) : Int) = (d : Int) + 1 by omega] at HMA
      go_wp2_with fail
      refine ⟨⟨d + 1, by omega, congrArg (Value.int IntKind.i64) (by omega), ?_, HMA.out.keep ((Kept.refl _ _).alloc _)⟩, by simp [intOf]; omega⟩
      simp [World.setCell]
      omega
    · obtain rfl : d = 6 := by omega
      have z0 := HM.out.s0
      have z1 := HM.out.s1
      have v1 := (HM.out.num 1 (by omega)).1
      have v2 := (HM.out.num 2 (by omega)).1
      have v3 := (HM.out.num 3 (by omega)).1
      have v4 := (HM.out.num 4 (by omega)).1
      have v5 := (HM.out.num 5 (by omega)).1
      have v6 := (HM.out.num 6 (by omega)).1
      rw [show fD R C r c 6 1 = (nP R C r c 1 : Int) from if_pos ⟨by omega, by omega⟩] at v1
      rw [show fD R C r c 6 2 = (nP R C r c 2 : Int) from if_pos ⟨by omega, by omega⟩] at v2
      rw [show fD R C r c 6 3 = (nP R C r c 3 : Int) from if_pos ⟨by omega, by omega⟩] at v3
      rw [show fD R C r c 6 4 = (nP R C r c 4 : Int) from if_pos ⟨by omega, by omega⟩] at v4
      rw [show fD R C r c 6 5 = (nP R C r c 5 : Int) from if_pos ⟨by omega, by omega⟩] at v5
      rw [show fD R C r c 6 6 = (nP R C r c 6 : Int) from if_pos ⟨by omega, by omega⟩] at v6
      obtain ⟨q1, q2, q3, q4, q5, q6⟩ := HS.out
      generalize nP R C r c 1 = m1 at *
      generalize nP R C r c 2 = m2 at *
      generalize nP R C r c 3 = m3 at *
      generalize nP R C r c 4 = m4 at *
      generalize nP R C r c 5 = m5 at *
      generalize nP R C r c 6 = m6 at *
      have hcast : ((R : Int) * (C : Int)) = ((R * C : Nat) : Int) := by simp
      have g1 : ((m1 : Int) == IntKind.i64.wrap ((R : Int) * (C : Int))) = true := by
        rw [hcast, IntWalk.i64_left, w64 (by omega) (by omega), q1]
        simp
      have g2 : (IntKind.i64.wrap ((m2 : Int) + (m3 : Int)) == IntKind.i64.wrap ((m1 : Int) + 1)) = true := by
        rw [show (m2 : Int) + (m3 : Int) = (m1 : Int) + 1 by omega]
        simp
      have g3 : ((m4 : Int) == (C : Int)) = true := by rw [q3]; simp
      have g4 : (IntKind.i64.wrap ((m5 : Int) + (m6 : Int)) == IntKind.i64.wrap ((C : Int) + 1)) = true := by
        rw [show (m5 : Int) + (m6 : Int) = (C : Int) + 1 by omega]
        simp
      have g5 : decide ((m5 : Int) ≤ (m2 : Int)) = true := decide_eq_true (by omega)
      have g6 : decide ((m6 : Int) ≤ (m3 : Int)) = true := decide_eq_true (by omega)
      have g7 : decide (m5 ≤ m2) = true := decide_eq_true (by omega)
      have g8 : decide (m6 ≤ m3) = true := decide_eq_true (by omega)
      have hdt : decide ((6 : Int) + 1 ≤ 6) = false := by decide
      have KD : Hid (Kept0 wr wr.drew) := (Kept.refl _ wr).drew
      have HK := Lib.hid HM.out.kept
      clear q1 q2 q3 q4 q5 q6 hcast HS HW HP HC HSC HST
      go_wp2_with fail
      try simp only [List.append_eq, List.cons_append, List.nil_append]
      go_region_held3 (fun w' => w'.cell? ⟨w1.heap.size, 0, none⟩ = some (.int .i64 (R : Int)) ∧ w'.cell? ⟨w1.heap.size, 1, none⟩ = some (.int .i64 (C : Int)) ∧ w'.cell? ⟨w1.heap.size + 1 + 1, 1, none⟩ = some (.int .i64 (m1 : Int)) ∧ w'.cell? ⟨w1.heap.size + 1 + 1, 2, none⟩ = some (.int .i64 (m2 : Int)) ∧ w'.cell? ⟨w1.heap.size + 1 + 1, 3, none⟩ = some (.int .i64 (m3 : Int)) ∧ w'.cell? ⟨w1.heap.size + 1 + 1, 4, none⟩ = some (.int .i64 (m4 : Int)) ∧ w'.cell? ⟨w1.heap.size + 1 + 1, 5, none⟩ = some (.int .i64 (m5 : Int)) ∧ w'.cell? ⟨w1.heap.size + 1 + 1, 6, none⟩ = some (.int .i64 (m6 : Int)) ∧ Hid (Kept0 wr w')) (go_keep)
        (first
          | (go_at_call 10; refine (awake_any _).mono ?_; rintro e9 w4 ⟨rfl, hk4⟩; have hk5 : Hid (Kept0 wr w4) := Kept.trans (Hid.out (by assumption)) hk4; have y0 := kcell hk5.out z0; have y1 := kcell hk5.out z1; have y2 := kcell hk5.out v1; have y3 := kcell hk5.out v2; have y4 := kcell hk5.out v3; have y5 := kcell hk5.out v4; have y6 := kcell hk5.out v5; have y7 := kcell hk5.out v6))
      all_goals
        go_wp2_with fail
        go_ret
        exact ⟨rfl, HK.out.trans (Hid.out (by assumption))⟩

theorem meets_calls (a : Option Addr) (cap : Nat) (C : Int) (l : List ByteArray) (r c : Int) (w : World) (_ : StrsIn w a l) (hL : l.length ≤ 9223372036854775807) :
    Calls Try.prog 6 #[.agg #[.slice a l.length cap, .int .i64 C], .agg #[.int .i64 r, .int .i64 c]] w fun e w' => e = .returned (.bool true) ∧ Below w.heap.size w w' := by
  have H : Calls Try.prog 6 #[.agg #[.slice a l.length cap, .int .i64 C], .agg #[.int .i64 r, .int .i64 c]] w fun e w' => e = .returned (.bool true) ∧ Kept0 w w' := by
    by_cases hf : (1 ≤ l.length ∧ l.length ≤ 8 ∧ 1 ≤ C ∧ C ≤ 12) ∧ 0 ≤ r ∧ r < l.length ∧ 0 ≤ c ∧ c < C
    · obtain ⟨C, rfl⟩ := Int.eq_ofNat_of_zero_le (show 0 ≤ C by omega)
      obtain ⟨r, rfl⟩ := Int.eq_ofNat_of_zero_le hf.2.1
      obtain ⟨c, rfl⟩ := Int.eq_ofNat_of_zero_le hf.2.2.2.1
      exact meets_yes a cap C l.length r c w (by omega) (by omega) (by omega)
    · exact meets_no a cap C l.length r c w hL hf
  refine H.mono ?_
  rintro e w' ⟨rfl, k⟩
  exact ⟨rfl, Kept0.below k⟩
end Go.Proofs.Ytedgnjideemfbaa
