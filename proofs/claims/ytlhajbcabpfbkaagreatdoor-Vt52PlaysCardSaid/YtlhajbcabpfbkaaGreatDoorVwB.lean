/-
  The document's terminal: Reset, New.
-/
import Derived.Test.YtlhajbcabpfbkaaGreatDoorVwA
namespace Go.Proofs.YtlhajbcabpfbkaaGreatDoor
open Go.RowKit
attribute [local go_sem] Oper.semAt_some

def headS (L : Value) (v : Vt) : Array Value :=
  #[.int .i64 v.z.R, .int .i64 v.z.C, L, .int .i64 v.z.r, .int .i64 v.z.c, .bool v.g, .bool v.k, .bool v.h, .string (Qu.str v.pre), .string (Qu.str v.xs), .int .i64 v.most, .bool v.over]
def blankR (v : Vt) : Vt := { v with z := { v.z with F := fun _ => blk, r := 0, c := 0 }, g := false, k := false, h := false, pre := [] }

theorem mul_wraps {R C n : Nat} (hn : n = R * C) (hR : R ≤ 255) (hC : C ≤ 255) : n ≤ 65025 ∧ IntKind.i64.wrap ((R : Int) * (C : Int)) = (n : Int) ∧ wrap64 ((R : Int) * (C : Int)) = (n : Int) := by
  have h : n ≤ 65025 := by rw [hn]; exact Nat.mul_le_mul hR hC
  have e : (R : Int) * (C : Int) = (n : Int) := by rw [hn, Int.natCast_mul]
  refine ⟨h, ?_, ?_⟩
  · rw [e, IntKind.wrap_i64]; omega
  · rw [e]; exact w64 (by omega) (by omega)

set_option maxRecDepth 100000 in
set_option maxHeartbeats 4000000 in
theorem reset_core {w : World} {x n : Nat} {v : Vt} {L : Value} (hh : w.heap[x]? = some (.cells (headS L v) 41 (0, 0))) (hn : n = v.z.R * v.z.C) (hR : v.z.R ≤ 255) (hC : v.z.C ≤ 255) (hm : v.most ≤ 4096) (ho : v.xs.length ≤ 4096) : Calls Tryz.prog 10 #[ptr x] w fun e w' => e = .returned (.tuple #[]) ∧ RefIn w' x w.heap.size n (blankR v) ∧ Kept (· = x) w w' := by
  obtain ⟨hn16, e1, e2⟩ := mul_wraps hn hR hC
  have c0 : w.cell? ⟨x, 0, none⟩ = some (.int .i64 v.z.R) := by simp [World.cell?, hh, headS]
  have c1 : w.cell? ⟨x, 1, none⟩ = some (.int .i64 v.z.C) := by simp [World.cell?, hh, headS]
  have c2 : w.cell? ⟨x, 2, none⟩ = some L := by simp [World.cell?, hh, headS]
  have f2 : w.frozen? ⟨x, 2, none⟩ = false := by simp [World.frozen?, hh]
  have hlx : x < w.heap.size := (Array.getElem?_eq_some_iff.1 hh).1
  have hmk := run_make_row' (P := Tryz.prog) 39 21 (.int .i32 0) 4 Tryz.underlying39 Tryz.infoRune rfl .i64 .i64 n (by omega) (by omega)
  have HH := Lib.hid hh
  have HN := Lib.hid hn
  clear hh hn
  obtain ⟨ob, hob⟩ : ∃ ob, ob = w.heap.size := ⟨_, rfl⟩
  obtain ⟨W, hW⟩ : ∃ W, W = ((w.setCell ⟨x, 2, none⟩ (.slice (some ⟨w.heap.size, 0, none⟩) n n)).alloc (.cells (madeCells #[.int .i32 0] n) 21)).drew := ⟨_, rfl⟩
  have kW : Kept (· = x) w W := by rw [hW]; exact ((Kept.set1 _ _ _ _).alloc _).drew
  have rW : RunesAt W ob n (fun _ => 0) := by
    rw [hW, hob]
    have h := made_runes (w.setCell ⟨x, 2, none⟩ (.slice (some ⟨w.heap.size, 0, none⟩) n n)) n
    have e : (w.setCell ⟨x, 2, none⟩ (.slice (some ⟨w.heap.size, 0, none⟩) n n)).heap.size = w.heap.size := by simp [go_sem]
    rw [e] at h
    exact h.kept0 (Kept.refl _ _).drew
  have hX : RefIn W x ob n { v with z := { v.z with F := fun _ => ⟨0, 0, false, 0⟩ } } := by
    refine ⟨?_, rW, HN.out, hR, hC, hm, ho⟩
    have h1 : (w.setCell ⟨x, 2, none⟩ (.slice (some ⟨w.heap.size, 0, none⟩) n n)).heap[x]? = some (.cells (headR ob n v) 41 (0, 0)) := by
      rw [heap_setCell_same w x 2 _ 41 _ HH.out, hob]; simp [headS, headR]
    rw [hW]
    exact ((Kept.refl (fun _ => False) _).alloc _).drew.block x (by simp [go_sem]; exact hlx) (fun e => e) |>.trans h1
  have HX := Lib.hid hX
  have KW := Lib.hid kW
  have HOB := Lib.hid hob
  have HW := Lib.hid hW
  have hxo : ¬ x = ob := by omega
  clear hX kW rW hob hW HH
  go_enter Tryz.func10, Tryz.ntmps10
  go_wp2_with fail
  go_region_with (fail)
  all_goals
    rw [← HW.out]
    clear c0 c1 c2 f2 hmk e1 e2
    go_wp2_with fail
    go_loopw [2] (fun s2 wr => ∃ k : Nat, k ≤ n ∧ s2 = .int .i64 (k : Int) ∧ Hid (RunesAt wr ob n (fun i => if i < k then (fun _ => (32 : Int)) i else 0)) ∧ Hid (Kept (· = ob) W wr)) (fun s2 _ => n - (Qu.num s2).toNat)
    case atStart => exact ⟨0, Nat.zero_le _, rfl, HX.out.row.congr (fun k _ => by rw [if_neg (by omega)]), Kept.refl _ _⟩
    case round =>
      obtain ⟨k, hk, rfl, hr, kr⟩ := hrel
      have c2 := kcellS kr.out HX.out.cL hxo
      by_cases hlt : k < n
      · have hlt' : (k : Int) < (n : Int) := by omega
        have c3 := hr.out.cell hlt
        have f3 := hr.out.frozen k
        have R9 := Lib.hid (row_step (y := 32) hr.out rfl)
        have K9 : Hid (Kept (· = ob) W (wr.setCell ⟨ob, k, none⟩ (.int .i32 32))) := kr.out.trans (Kept.set1 _ _ _ _)
        clear hr kr
        go_wp2_with fail
        go_roundw
        case rel => exact ⟨k + 1, hlt, by go_num, R9.out, K9.out⟩
        case measure => simp [Qu.num]; omega
      · have hkn : k = n := by omega
        have hlt' : ¬ (k : Int) < (n : Int) := by omega
        have X0 : RefIn wr x ob n { v with z := { v.z with F := fun _ => blk } } := HX.out.onRow kr.out (hr.out.congr (fun i hi => by rw [hkn, if_pos hi]; rfl))
        have X : Hid (RefIn ((((((wr.setCell ⟨x, 3, none⟩ (.int .i64 0)).setCell ⟨x, 4, none⟩ (.int .i64 0)).setCell ⟨x, 5, none⟩ (.bool false)).setCell ⟨x, 6, none⟩ (.bool false)).setCell ⟨x, 7, none⟩ (.bool false)).setCell ⟨x, 8, none⟩ (.string (Qu.str []))) x ob n (blankR v)) := ((((((X0.setR 0).setC 0).setG false).setK false).setH false).setP [])
        have K0 : Kept (· = x) w wr := KW.out.later kr.out (fun i hi e => by have := HOB.out; omega)
        have K : Hid (Kept (· = x) w ((((((wr.setCell ⟨x, 3, none⟩ (.int .i64 0)).setCell ⟨x, 4, none⟩ (.int .i64 0)).setCell ⟨x, 5, none⟩ (.bool false)).setCell ⟨x, 6, none⟩ (.bool false)).setCell ⟨x, 7, none⟩ (.bool false)).setCell ⟨x, 8, none⟩ (.string (Qu.str [])))) := (((((K0.trans (Kept.set1 _ _ _ _)).trans (Kept.set1 _ _ _ _)).trans (Kept.set1 _ _ _ _)).trans (Kept.set1 _ _ _ _)).trans (Kept.set1 _ _ _ _)).trans (Kept.set1 _ _ _ _)
        have g3 := X0.cr
        have g4 := X0.cc
        have g5 := X0.cG
        have g6 := X0.cK
        have g7 := X0.cH
        have g8 := X0.cP
        have q3 := X0.fz 3
        have q4 := X0.fz 4
        have q5 := X0.fz 5
        have q6 := X0.fz 6
        have q7 := X0.fz 7
        have q8 := X0.fz 8
        have es : (⟨#[]⟩ : ByteArray) = Qu.str [] := rfl
        clear X0 K0 hr kr hkn
        go_wp2_with fail
        go_end0
        rw [← HOB.out]
        exact ⟨rfl, X.out, K.out⟩

theorem blank_reset {v : Vt} {k : Nat} (h1 : 1 ≤ v.z.R) (h2 : 1 ≤ v.z.C) (hk : k < v.z.R * v.z.C) : ((resetV v).z.F k).g = blk.g := by
  have t0 : There v.z.R v.z.C 0 0 := ⟨by omega, by omega, by omega, by omega⟩
  have t1 : There v.z.R v.z.C ((v.z.R : Int) - 1) ((v.z.C : Int) - 1) := ⟨by omega, by omega, by omega, by omega⟩
  have e : idx v.z.C ((v.z.R : Int) - 1) ((v.z.C : Int) - 1) + 1 = v.z.R * v.z.C := by
    unfold idx
    rw [show ((v.z.R : Int) - 1).toNat = v.z.R - 1 by omega, show ((v.z.C : Int) - 1).toNat = v.z.C - 1 by omega]
    have : v.z.R = (v.z.R - 1) + 1 := by omega
    conv => rhs; rw [this, Nat.add_mul]
    omega
  have e0 : idx v.z.C 0 0 = 0 := by simp [idx]
  show (swipeF v.z.R v.z.C v.z.F (nr 0 v.z.R) (nr 0 v.z.C) ((v.z.R : Int) - 1) ((v.z.C : Int) - 1) blk false k).g = _
  rw [nr_in 0 v.z.R (by omega) (by omega), nr_in 0 v.z.C (by omega) (by omega), wipe_from t0 t1 (by omega) k, if_pos (by omega)]
theorem RefIn.reset {w : World} {x lb n : Nat} {v : Vt} (h : RefIn w x lb n (blankR v)) (h1 : 1 ≤ v.z.R) (h2 : 1 ≤ v.z.C) : RefIn w x lb n (resetV v) :=
  h.asZ (z := (resetV v).z) rfl rfl (fun k hk => blank_reset h1 h2 (by have := h.size; exact this ▸ hk)) (nr_in 0 v.z.R (by omega) (by omega)) (nr_in 0 v.z.C (by omega) (by omega))
theorem reset_any {w : World} {x lb n B : Nat} {v : Vt} (h : RefIn w x lb n v) (hF : Flat v) (hx : B ≤ x) : Calls Tryz.prog 10 #[ptr x] w (EndsR B x n (resetV v) w) := by
  refine (reset_core (L := .slice (some ⟨lb, 0, none⟩) n n) h.head h.size h.R2 h.C2 h.most h.out).mono ?_
  rintro e w' ⟨rfl, h2, k2⟩
  exact (h2.reset hF.R1 hF.C1).ends (Nat.le_trans hx (Nat.le_of_lt h.lt)) k2 (fun i e => e ▸ hx)

set_option maxRecDepth 100000 in
set_option maxHeartbeats 4000000 in
theorem rnew_any (R C most : Nat) (w : World) (hR : R ≤ 255) (hC : C ≤ 255) (hm : most ≤ 4096) : Calls Tryz.prog 8 #[.int .i64 R, .int .i64 C, .int .i64 most] w fun e w' => ∃ x lb, e = .returned (ptr x) ∧ RefIn w' x lb (R * C) (newV R C most) ∧ w.heap.size ≤ x ∧ w.heap.size ≤ lb ∧ Kept0 w w' := by
  obtain ⟨w1, hw1⟩ : ∃ w1, w1 = w.alloc (.cells (headS (.slice none 0 0) (newV R C most)) 41) := ⟨_, rfl⟩
  have hh : w1.heap[w.heap.size]? = some (.cells (headS (.slice none 0 0) (newV R C most)) 41 (0, 0)) := by rw [hw1]; exact heap_new _ _
  have k1 : Kept0 w w1 := by rw [hw1]; exact (Kept.refl _ w).alloc _
  have HC := Lib.hid (reset_core hh rfl hR hC hm (Nat.zero_le _))
  have K1 := Lib.hid k1
  have HW := Lib.hid hw1
  have hs1 : w1.heap.size = w.heap.size + 1 := by rw [hw1]; simp
  clear hh k1 hw1
  go_enter Tryz.func8, Tryz.ntmps8
  go_wp2_with fail
  show Calls Tryz.prog 10 #[ptr w.heap.size] (w.alloc (.cells (headS (.slice none 0 0) (newV R C most)) 41)) _
  rw [← HW.out]
  refine HC.out.mono ?_
  rintro e w2 ⟨rfl, h2, k2⟩
  have H2 : Hid (RefIn w2 w.heap.size w1.heap.size (R * C) (newV R C most)) := h2
  have K2 : Hid (Kept0 w w2) := K1.out.later k2 (fun i hi e => by omega)
  clear h2 k2
  go_wp2_with fail
  go_ret
  exact ⟨_, _, rfl, H2.out, Nat.le_refl _, by omega, K2.out⟩

end Go.Proofs.YtlhajbcabpfbkaaGreatDoor
