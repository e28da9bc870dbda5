/-
  Two screens that hold the same are said to be equal.
-/
import Derived.Test.YtkpfhgfdfndliaaGreatDoorLvl
import Derived.Test.YtkpfhgfdfndliaaGreatDoorAlk
import Derived.Test.YtkpfhgfdfndliaaGreatDoorOf
namespace Go.Proofs.YtkpfhgfdfndliaaGreatDoor
open Go.RowKit

set_option maxRecDepth 100000 in
set_option maxHeartbeats 8000000 in
theorem equal_same {B1 B2 : Nat → Prop} {s c : Nat} {z : St} (w : World) (h1 : Scr w B1 s z) (h2 : Scr w B2 c z) :
    Calls Tryz.prog 18 #[ptr s, ptr c] w fun e w' => e = .returned (.bool true) ∧ Kept0 w w' := by
  have HS := Lib.hid h1
  have HC := Lib.hid h2
  clear h1 h2
  go_enter Tryz.func18, Tryz.ntmps18
  go_wp2_with fail
  refine (cur_scr HS.out).mono ?_
  rintro e w1 ⟨rfl, k1⟩
  obtain ⟨W1, hW1⟩ : ∃ W1, W1 = w1.alloc (.cells #[.int .i64 z.r, .int .i64 z.c] 40) := ⟨_, rfl⟩
  have kW1 : Kept0 w W1 := by rw [hW1]; exact k1.alloc _
  have p0 : W1.cell? ⟨w1.heap.size, 0, none⟩ = some (.int .i64 z.r) := by rw [hW1]; simp [go_sem]
  have p1 : W1.cell? ⟨w1.heap.size, 1, none⟩ = some (.int .i64 z.c) := by rw [hW1]; simp [go_sem]
  go_wp2_with fail
  rw [← hW1]
  clear hW1 k1
  refine (cur_scr (HC.out.kept0 kW1)).mono ?_
  rintro e w2 ⟨rfl, k2⟩
  obtain ⟨W2, hW2⟩ : ∃ W2, W2 = w2.alloc (.cells #[.int .i64 z.r, .int .i64 z.c] 40) := ⟨_, rfl⟩
  have k22 : Kept0 W1 W2 := by rw [hW2]; exact k2.alloc _
  have q0 : W2.cell? ⟨w2.heap.size, 0, none⟩ = some (.int .i64 z.r) := by rw [hW2]; simp [go_sem]
  have q1 : W2.cell? ⟨w2.heap.size, 1, none⟩ = some (.int .i64 z.c) := by rw [hW2]; simp [go_sem]
  replace p0 := kcell k22 p0
  replace p1 := kcell k22 p1
  have kW2 := kW1.trans k22
  clear kW1 k22 k2
  go_wp2_with fail
  rw [← hW2]
  clear hW2
  obtain ⟨ls, hls⟩ : ∃ ls, ls = Tb.listN z.C z.S := ⟨_, rfl⟩
  obtain ⟨N, hN⟩ : ∃ N, N = ls.length := ⟨_, rfl⟩
  have HX : Hid (∀ i, i < N → ∃ x, ls[i]? = some x) := fun i hi => ⟨_, List.getElem?_eq_getElem (by omega)⟩
  have hl1 := listed_scr (HS.out.kept0 kW2)
  rw [← hls, ← hN] at hl1
  have HL2 : Hid (∀ w', Kept0 w w' → _) := fun w' k => listed_scr (HC.out.kept0 k)
  rw [← hls, ← hN] at HL2
  have hNb : N ≤ 255 := by
    have := Tb.listN_len z.C z.S
    obtain ⟨_, _, _, v4, _⟩ := bounds_scr HS.out
    rw [hN, hls]
    omega
  clear hls hN
  refine hl1.mono ?_
  rintro e w3 ⟨la, lc, rfl, li, _, k3⟩
  replace p0 := kcell k3 p0
  replace p1 := kcell k3 p1
  replace q0 := kcell k3 q0
  replace q1 := kcell k3 q1
  have kW3 := kW2.trans k3
  clear hl1 kW2 k3
  go_wp2_with fail
  have hl2 := HL2.out _ kW3
  refine hl2.mono ?_
  rintro e w4 ⟨ma, mc, rfl, mi, _, k4⟩
  replace p0 := kcell k4 p0
  replace p1 := kcell k4 p1
  replace q0 := kcell k4 q0
  replace q1 := kcell k4 q1
  have HLI := Lib.hid (li.kept0 k4)
  have HMI := Lib.hid mi
  have kW4 := kW3.trans k4
  clear hl2 kW3 k4 li mi
  go_wp2_with fail
  refine (size_scr (HS.out.kept0 kW4)).mono ?_
  rintro e w5 ⟨rfl, k5⟩
  replace p0 := kcell k5 p0
  replace p1 := kcell k5 p1
  replace q0 := kcell k5 q0
  replace q1 := kcell k5 q1
  have kW5 := kW4.trans k5
  have HLI5 := Lib.hid (HLI.out.kept0 k5)
  have HMI5 := Lib.hid (HMI.out.kept0 k5)
  clear k5 kW4 HLI HMI
  go_wp2_with fail
  refine (size_scr (HC.out.kept0 kW5)).mono ?_
  rintro e w6 ⟨rfl, k6⟩
  have HLI6 := Lib.hid (HLI5.out.kept0 k6)
  have HMI6 := Lib.hid (HMI5.out.kept0 k6)
  have KW6 := Lib.hid (kW5.trans k6)
  clear k6 kW5 HLI5 HMI5 p0 p1 q0 q1
  go_wp2_with fail
  go_loopw [11] (fun s11 wr => ∃ i : Nat, i ≤ N ∧ s11 = .int .i64 (i : Int) ∧ Kept0 w6 wr) (fun s11 _ => N - (intOf s11).toNat)
  case atStart => exact ⟨0, by omega, rfl, Kept.refl _ _⟩
  case round =>
    obtain ⟨i, hi, rfl, ki⟩ := hrel
    by_cases hlt : i < N
    · have hdt : decide ((i : Int) < (N : Int)) = true := by simp; omega
      obtain ⟨x, hx⟩ := HX.out i hlt
      obtain ⟨b1, o1, rfl, x1⟩ := HLI6.out i x hx
      obtain ⟨b2, o2, rfl, x2⟩ := HMI6.out i x hx
      replace x1 := kcell ki x1
      replace x2 := kcell ki x2
      clear hx
      go_wp2_with fail
      go_quiet (fail)
      go_wp2_with fail
      go_roundw
      case rel => exact ⟨i + 1, by omega, by go_num, ki.drewN _⟩
      case measure => simp [intOf]; omega
    · obtain rfl : i = N := by omega
      have hdt : decide ((i : Int) < (i : Int)) = false := by simp
      have kk := KW6.out.trans ki
      obtain ⟨v1, v2, v3, v4, _⟩ := bounds_scr HS.out
      go_wp2_with fail
      refine (rows_scr (HS.out.kept0 kk)).mono ?_
      rintro e w9 ⟨l1, rfl, _, r1, k9⟩
      go_wp2_with fail
      refine (ofR_any l1 _ z.R z.C z.R z.F w9 r1 (by obtain ⟨_, _, hc, _⟩ := r1.len 0 (by omega); exact World.block_lt_of_cell? _ _ hc) ⟨by omega, by omega, by omega, by omega⟩).mono ?_
      rintro e w10 ⟨g1, u1, c1, rfl, _, _, ra1, k10⟩
      go_wp2_with fail
      refine (rows_scr (HC.out.kept0 (kk.trans (k9.trans k10)))).mono ?_
      rintro e w11 ⟨l2, rfl, _, r2, k11⟩
      go_wp2_with fail
      refine (ofR_any l2 _ z.R z.C z.R z.F w11 r2 (by obtain ⟨_, _, hc, _⟩ := r2.len 0 (by omega); exact World.block_lt_of_cell? _ _ hc) ⟨by omega, by omega, by omega, by omega⟩).mono ?_
      rintro e w12 ⟨g2, u2, c2, rfl, _, _, ra2, k12⟩
      go_wp2_with fail
      refine (alike_same g1 u1 c1 g2 u2 c2 z.R z.C z.F w12 (ra1.kept (k11.trans k12) (fun e => e) (fun e => e)) ra2).mono ?_
      rintro e w13 ⟨rfl, k13⟩
      go_wp2_with fail
      go_ret
      exact ⟨rfl, (kk.trans (k9.trans k10)).trans ((k11.trans k12).trans k13)⟩
end Go.Proofs.YtkpfhgfdfndliaaGreatDoor
