/-
  A screen that holds what the document's holds is said to be the same.
-/
import Derived.Test.YtkpfhgfdfndliaaGreatDoorEq
import Derived.Test.YtkpfhgfdfndliaaGreatDoorRScA
namespace Go.Proofs.YtkpfhgfdfndliaaGreatDoor
open Go.RowKit

set_option maxRecDepth 100000 in
set_option maxHeartbeats 8000000 in
theorem same_any {B1 : Nat → Prop} {s q : Nat} {z : St} {g t cap tb m : Nat} (w : World) (h1 : Scr w B1 s z) (h2 : RIn w q g t cap tb m z.R z.C z.F z.S z.r z.c z.b) :
    Calls Tryz.prog 13 #[ptr s, ptr q] w fun e w' => e = .returned (.bool true) ∧ Kept0 w w' := by
  have HS := Lib.hid h1
  have HR := Lib.hid h2
  obtain ⟨R, hR⟩ : ∃ R, R = z.R := ⟨_, rfl⟩
  obtain ⟨C, hC⟩ : ∃ C, C = z.C := ⟨_, rfl⟩
  obtain ⟨zr, hzr⟩ : ∃ zr, zr = z.r := ⟨_, rfl⟩
  obtain ⟨zC, hzC⟩ : ∃ zC, zC = z.c := ⟨_, rfl⟩
  obtain ⟨zb, hzb⟩ : ∃ zb, zb = z.b := ⟨_, rfl⟩
  have HCur : Hid (∀ w', Kept0 w w' → Calls Tryz.prog 19 #[ptr s] w' fun e w'' => e = .returned (.tuple #[pos zr zC, .bool zb]) ∧ Kept0 w' w'') := fun w' k => by
    rw [hzr, hzC, hzb]
    exact cur_scr (HS.out.kept0 k)
  have HSz : Hid (∀ w', Kept0 w w' → Calls Tryz.prog 20 #[ptr s] w' fun e w'' => e = .returned (pos R C) ∧ Kept0 w' w'') := fun w' k => by
    rw [hR, hC]
    exact size_scr (HS.out.kept0 k)
  have HRz : Hid (∀ w', Kept0 w w' → Calls Tryz.prog 32 #[ptr q] w' fun e w'' => e = .returned (pos R C) ∧ Kept0 w' w'') := fun w' k => by
    rw [hR, hC]
    exact rsize_any w' (HR.out.kept0 k)
  have d0 := h2.c0
  have d1 := h2.c1
  have d2 := h2.c2
  have d3 := h2.c3
  have d4 := h2.c4
  have g0 := h2.grid.c0
  have g1 := h2.grid.c1
  rw [← hzr] at d1
  rw [← hzC] at d2
  rw [← hzb] at d3
  rw [← hR] at g0
  rw [← hC] at g1
  have hRb : 1 ≤ R ∧ R ≤ 255 := ⟨by rw [hR]; exact h2.grid.R1, by rw [hR]; exact h2.grid.R2⟩
  have hCb : 1 ≤ C ∧ C ≤ 255 := ⟨by rw [hC]; exact h2.grid.C1, by rw [hC]; exact h2.grid.C2⟩
  have HRC : Hid (R = z.R ∧ C = z.C) := ⟨hR, hC⟩
  clear h1 h2 hzr hzC hzb hR hC
  go_enter Tryz.func13, Tryz.ntmps13
  go_wp2_with fail
  refine (HCur.out _ (Kept.refl _ _)).mono ?_
  rintro e w1 ⟨rfl, k1⟩
  obtain ⟨W1, hW1⟩ : ∃ W1, W1 = w1.alloc (.cells #[.int .i64 zr, .int .i64 zC] 40) := ⟨_, rfl⟩
  have kW1 : Kept0 w W1 := by rw [hW1]; exact k1.alloc _
  have p0 : W1.cell? ⟨w1.heap.size, 0, none⟩ = some (.int .i64 zr) := by rw [hW1]; simp [go_sem]
  have p1 : W1.cell? ⟨w1.heap.size, 1, none⟩ = some (.int .i64 zC) := by rw [hW1]; simp [go_sem]
  go_wp2_with fail
  rw [← hW1]
  clear hW1 k1
  have KW1 := Lib.hid kW1
  have e1 := fun w' (k : Kept0 W1 w') => kcell (KW1.out.trans k) d1
  have e2 := fun w' (k : Kept0 W1 w') => kcell (KW1.out.trans k) d2
  have e3 := fun w' (k : Kept0 W1 w') => kcell (KW1.out.trans k) d3
  have p0 := fun w' (k : Kept0 W1 w') => kcell k p0
  have p1 := fun w' (k : Kept0 W1 w') => kcell k p1
  clear kW1
  go_region_held3 (fun w' => Kept0 W1 w') (repeat (first | assumption | exact Kept.refl _ _ | refine Kept.drew ?_))
    (first
      | (go_at_call 32; refine (HRz.out _ (KW1.out.trans ka)).mono ?_; rintro e w3 ⟨rfl, hk3⟩; have kb : Kept0 W1 w3 := ka.trans hk3)
      | (go_at_call 20; refine (HSz.out _ (KW1.out.trans (Kept.refl _ W1).drew)).mono ?_; rintro e w2 ⟨rfl, hk2⟩; have ka : Kept0 W1 w2 := (Kept.refl _ W1).drew.trans hk2))
  have KB := Lib.hid (KW1.out.trans kb)
  clear ka kb hk2 hk3 e1 e2 e3 p0 p1 KW1 HCur HSz HRz d1 d2 d3
  obtain ⟨ls, hls⟩ : ∃ ls, ls = Tb.listN z.C z.S := ⟨_, rfl⟩
  obtain ⟨N, hN⟩ : ∃ N, N = ls.length := ⟨_, rfl⟩
  have HX : Hid (∀ i, i < N → ∃ x, ls[i]? = some x) := fun i hi => ⟨_, List.getElem?_eq_getElem (by omega)⟩
  have HL1 : Hid (∀ w', Kept0 w w' → Calls Tryz.prog 25 #[ptr s] w' fun e w'' => ∃ a cap, e = .returned (.slice a N cap) ∧ Tb.IntsIn w'' a ls ∧ Kept0 w' w'') := fun w' k => (listed_scr (HS.out.kept0 k)).mono fun e w'' ⟨a, cap, h1, h2, _, h3⟩ => by
    rw [← hls] at h1 h2
    rw [← hN] at h1
    exact ⟨a, cap, h1, h2, h3⟩
  have HL2 : Hid (∀ w', Kept0 w w' → Calls Tryz.prog 33 #[ptr tb] w' fun e w'' => ∃ a cap, e = .returned (.slice a N cap) ∧ Tb.IntsIn w'' a ls ∧ Kept0 w' w'') := fun w' k => (Tb.refList_any tb m z.C z.S w' (HR.out.kept0 k).tabs).mono fun e w'' ⟨a, cap, h1, h2, _, h3⟩ => by
    rw [← hls] at h1 h2
    rw [← hN] at h1
    exact ⟨a, cap, h1, h2, h3⟩
  have hNb : N ≤ 255 := by
    have := Tb.listN_len z.C z.S
    have h2 := HRC.out.2
    rw [hN, hls]
    omega
  clear hls hN
  go_wp2_with fail
  refine (HL1.out _ KB.out).mono ?_
  rintro e w4 ⟨la, lc, rfl, li, k4⟩
  have HLI := Lib.hid li
  have K4 := Lib.hid (KB.out.trans k4)
  have c4 := kcell K4.out d4
  clear li k4 KB HL1
  go_wp2_with fail
  refine (HL2.out _ K4.out).mono ?_
  rintro e w5 ⟨ma, mc, rfl, mi, k5⟩
  have HMI := Lib.hid mi
  have HLI5 := Lib.hid (HLI.out.kept0 k5)
  have K5 := Lib.hid (K4.out.trans k5)
  clear mi k5 HLI K4 c4 HL2
  go_wp2_with fail
  go_loopw [9] (fun s9 wr => ∃ i : Nat, i ≤ N ∧ s9 = .int .i64 (i : Int) ∧ Kept0 w5 wr) (fun s9 _ => N - (intOf s9).toNat)
  case atStart => exact ⟨0, by omega, rfl, Kept.refl _ _⟩
  case round =>
    obtain ⟨i, hi, rfl, ki⟩ := hrel
    by_cases hlt : i < N
    · have hdt : decide ((i : Int) < (N : Int)) = true := by simp; omega
      obtain ⟨x, hx⟩ := HX.out i hlt
      obtain ⟨b1, o1, rfl, x1⟩ := HLI5.out i x hx
      obtain ⟨b2, o2, rfl, x2⟩ := HMI.out i x hx
      replace x1 := kcell ki x1
      replace x2 := kcell ki x2
      clear hx
      go_wp2_with fail
      go_quiet (fail)
      go_wp2_with fail
      go_roundw
      case rel => exact ⟨i + 1, by omega, by go_num, ki.drewN _⟩
      case measure => simp [intOf]; omega
    · obtain rfl : i = N := by omega
      have hdt : decide ((i : Int) < (i : Int)) = false := by simp
      have KI := Lib.hid (K5.out.trans ki)
      have HRW : Hid (∀ w', Kept0 w w' → Calls Tryz.prog 24 #[ptr s] w' fun e w'' => ∃ l, e = .returned (.slice (some ⟨l, 0, none⟩) R R) ∧ w'.heap.size ≤ l ∧ RowsAt w'' w'.heap.size l R C (fun i k => z.F (i * C + k)) ∧ Kept0 w' w'') := fun w' k => by
        rw [HRC.out.1, HRC.out.2]
        exact rows_scr (HS.out.kept0 k)
      clear ki K5 HLI5 HMI
      go_wp2_with fail
      refine (HRW.out _ KI.out).mono ?_
      rintro e w6 ⟨l1, rfl, hl1, r1, k6⟩
      have HRO := Lib.hid r1
      have K6 := Lib.hid (KI.out.trans k6)
      have c0 := kcell K6.out d0
      have gg0 := kcell K6.out g0
      have hl1w : l1 < w6.heap.size := by obtain ⟨_, _, hc, _⟩ := r1.len 0 (by omega); exact World.block_lt_of_cell? _ _ hc
      clear r1 k6 HRW
      go_wp2_with fail
      go_loopw [11] (fun s11 wr => ∃ i : Nat, i ≤ R ∧ s11 = .int .i64 (i : Int) ∧ Kept0 w6 wr) (fun s11 _ => R - (intOf s11).toNat)
      case atStart => exact ⟨0, by omega, rfl, Kept.refl _ _⟩
      case round =>
        clear c0 gg0
        obtain ⟨i, hi, rfl, ki⟩ := hrel
        by_cases hlt : i < R
        · have hdt : decide ((i : Int) < (R : Int)) = true := by simp; omega
          obtain ⟨t1, cap1, x1, _, _, _, _⟩ := HRO.out.len i hlt
          replace x1 := kcell ki x1
          have c0 := kcell (K6.out.trans ki) d0
          have gg1 := kcell (K6.out.trans ki) g1
          go_wp2_with fail
          go_quiet (fail)
          go_wp2_with fail
          go_roundw
          case rel => exact ⟨i + 1, by omega, by go_num, ki.drewN _⟩
          case measure => simp [intOf]; omega
        · obtain rfl : i = R := by omega
          have hdt : decide ((i : Int) < (i : Int)) = false := by simp
          have hk9 := K6.out.trans ki
          have HOf : Hid (∀ w', Kept0 wr w' → Calls Tryz.prog 35 #[.slice (some ⟨l1, 0, none⟩) i i] w' fun e w'' => ∃ g t cap, e = .returned (.pointer (some ⟨g, 0, none⟩)) ∧ RefAt w'' g t cap i C z.F ∧ Kept0 w' w'') := fun w' k => by
            have hk := ki.trans k
            refine (ofR_any l1 _ i C i z.F w' (HRO.out.kept hk hl1w (fun _ _ e => e) hl1) (by have := hk.size; omega) ⟨hRb.1, hRb.2, hCb.1, hCb.2⟩).mono ?_
            rintro e w'' ⟨g', t', cap', h1, _, _, h2, h3⟩
            exact ⟨g', t', cap', h1, h2, h3⟩
          have HAl : Hid (∀ w' g' t' cap', Kept0 wr w' → RefAt w' g' t' cap' i C z.F → Calls Tryz.prog 34 #[.pointer (some ⟨g', 0, none⟩), ptr g] w' fun e w'' => e = .returned (.bool true) ∧ Kept0 w' w'') := fun w' g' t' cap' k hg' => by
            have h9 := ((HR.out.kept0 hk9).kept0 k).grid
            rw [← HRC.out.1, ← HRC.out.2] at h9
            exact alike_same g' t' cap' g t cap i C z.F w' hg' h9
          have KK := Lib.hid hk9
          have c0 := fun w' (k : Kept0 wr w') => kcell (KK.out.trans k) d0
          clear hk9
          go_wp2_with fail
          go_region_held3 (fun w' => Kept0 wr w') (repeat (first | assumption | exact Kept.refl _ _ | refine Kept.drew ?_))
            (first
              | (go_at_call 34; refine (HAl.out _ _ _ _ ka HG.out).mono ?_; rintro e w8 ⟨rfl, hk8⟩; have kb : Kept0 wr w8 := ka.trans hk8)
              | (go_at_call 35; refine (HOf.out _ (Kept.refl _ wr).drew).mono ?_; rintro e w7 ⟨g7, t7, cap7, rfl, hg7, hk7⟩; have ka : Kept0 wr w7 := (Kept.refl _ wr).drew.trans hk7; have HG := Lib.hid hg7; clear hg7))
          go_wp2_with fail
          go_ret
          exact ⟨rfl, KK.out.trans kb⟩
end Go.Proofs.YtkpfhgfdfndliaaGreatDoor
