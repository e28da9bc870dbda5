/-
  The laws' Same: has a screen's rows the same glyphs, and nothing else?
-/
import Derived.Test.YtlhajbcabpfbkaaGreatDoorVwB
namespace Go.Proofs.YtlhajbcabpfbkaaGreatDoor
open Go.RowKit
attribute [local go_sem] Oper.semAt_some

theorem str_of (s : ByteArray) : ∃ l, s = Qu.str l := ⟨s.data.toList, by cases s; simp [Qu.str]⟩
theorem RowsAt.kept0 {w w' : World} {B l R C : Nat} {f : Nat → Nat → Cel} (h : RowsAt w B l R C f) (k : Kept0 w w') : RowsAt w' B l R C f :=
  ⟨fun i hi => by
    obtain ⟨t, cap, h1, h2, h3, h4, h5⟩ := h.len i hi
    exact ⟨t, cap, kcell k h1, h2, h3, h4, h5.kept k (fun e => e)⟩⟩
theorem place_wraps {R C i j : Nat} (hi : i < R) (hj : j < C) (hR : R ≤ 255) (hC : C ≤ 255) : ∃ P m : Nat, IntKind.i64.wrap ((i : Int) * (C : Int)) = (P : Int) ∧ wrap64 ((i : Int) * (C : Int)) = (P : Int) ∧ IntKind.i64.wrap ((P : Int) + (j : Int)) = (m : Int) ∧ wrap64 ((P : Int) + (j : Int)) = (m : Int) ∧ m < R * C ∧ m = i * C + j := by
  have h1 : (i + 1) * C ≤ R * C := Nat.mul_le_mul_right _ (by omega)
  rw [Nat.add_mul] at h1
  have h2 : R * C ≤ 65025 := Nat.mul_le_mul hR hC
  obtain ⟨P, hP⟩ : ∃ P, P = i * C := ⟨_, rfl⟩
  have e : (i : Int) * (C : Int) = (P : Int) := by rw [hP, Int.natCast_mul]
  rw [← hP] at h1
  refine ⟨P, P + j, ?_, ?_, ?_, ?_, by omega, by rw [hP]⟩
  · rw [e, IntKind.wrap_i64]; omega
  · rw [e]; exact w64 (by omega) (by omega)
  · rw [IntKind.wrap_i64]; omega
  · rw [w64 (by omega) (by omega)]; omega

set_option maxRecDepth 100000 in
set_option maxHeartbeats 4000000 in
theorem rsame_any {w : World} {x lb n l Bq R C : Nat} {v : Vt} (h : RefIn w x lb n v) (hF : Flat v) (hR : R = v.z.R) (hC : C = v.z.C) (hro : RowsAt w Bq l R C (fun i k => v.z.F (i * C + k))) : Calls Tryz.prog 29 #[ptr x, .slice (some ⟨l, 0, none⟩) R R] w fun e w' => e = .returned (.bool true) ∧ Kept0 w w' := by
  have H := Lib.hid h
  have HC := Lib.hid hF.cl
  have HRo := Lib.hid hro
  have hR2 : R ≤ 255 := hR ▸ h.R2
  have hC2 : C ≤ 255 := hC ▸ h.C2
  have c0 := h.cR
  have c1 := h.cC
  have c2 := h.cL
  rw [← hR] at c0
  rw [← hC] at c1
  have hn : Hid (n = R * C) := by rw [hR, hC]; exact h.size
  clear h hF hro hR hC
  go_enter Tryz.func29, Tryz.ntmps29
  go_wp2_with fail
  go_loopw [5, 6] (fun s5 s6 wr => ∃ i : Nat, i ≤ R ∧ s5 = .int .i64 (i : Int) ∧ Hid (Kept0 w wr)) (fun s5 _ _ => R - (Qu.num s5).toNat)
  case atStart => exact ⟨0, Nat.zero_le _, rfl, Kept.refl _ _⟩
  case round =>
    obtain ⟨i, hi, rfl, kr⟩ := hrel
    have d0 := kcell kr.out c0
    have d1 := kcell kr.out c1
    by_cases hlt : i < R
    · obtain ⟨t, cap, r1, r2, r3, r4, r5⟩ := (HRo.out.kept0 kr.out).len i hlt
      have R5 := Lib.hid r5
      have hlt' : (i : Int) < (R : Int) := by omega
      clear r5 r3 r4
      go_wp2_with fail
      go_still_tail 9, (by kernel_rfl)
      repeat still_step
      change wpList _ _ _ _ _ wr.drew
      obtain ⟨wa, hwa⟩ : ∃ wa, wa = wr.drew := ⟨_, rfl⟩
      have ka : Kept0 wr wa := by rw [hwa]; exact (Kept.refl _ wr).drew
      rw [← hwa]
      clear hwa
      have KA : Hid (Kept0 wr wa) := ka
      clear ka
      go_wp2_with fail
      go_loopw [6] (fun s6 wq => ∃ j : Nat, j ≤ C ∧ s6 = .int .i64 (j : Int) ∧ Hid (Kept0 wr wq)) (fun s6 _ => C - (Qu.num s6).toNat)
      case atStart => exact ⟨0, Nat.zero_le _, rfl, KA.out⟩
      case round =>
        obtain ⟨j, hj, rfl, kq⟩ := hrel
        have g0 := kcell kq.out d0
        have g1 := kcell kq.out d1
        have g2 := kcell kq.out (kcell kr.out c2)
        have g3 := kcell kq.out r1
        by_cases hjl : j < C
        · have hjl' : (j : Int) < (C : Int) := by omega
          obtain ⟨P, m, e1, e2, e3, e4, hm, hme⟩ := place_wraps hlt hjl hR2 hC2
          have hmn : m < n := hn.out.symm ▸ hm
          have hmn' : (m : Int) < (n : Int) := Int.ofNat_lt.2 hmn
          obtain ⟨x0, x1, x2, x3⟩ := (R5.out.kept kq.out (fun e => e)).cell hjl
          obtain ⟨q1, q2, q3⟩ := HC.out (i * C + j)
          rw [q1] at x1
          rw [q2] at x2
          rw [q3] at x3
          rw [← hme] at x0
          have y0 := (((H.out.kept0 kr.out).kept0 kq.out).row).cell hmn
          obtain ⟨gg, hgg⟩ : ∃ gg, gg = (v.z.F m).g := ⟨_, rfl⟩
          rw [← hgg] at x0 y0
          clear q1 q2 q3 hgg hm hme
          go_wp2_with fail
          go_still_tail 22, (by kernel_rfl)
          repeat still_step
          change wpList _ _ _ _ _ wr.drew
          have KB := Lib.hid (Kept.drew kq.out)
          obtain ⟨wb, hwb⟩ : ∃ wb, wb = wr.drew := ⟨_, rfl⟩
          rw [← hwb] at KB ⊢
          clear hwb
          go_wp2_with fail
          go_roundw
          case rel => exact ⟨j + 1, Nat.succ_le_of_lt hjl, by go_num, KB.out⟩
          case measure =>
            clear e1 e2 e3 e4
            simp [Qu.num]; omega
        · have hjc : j = C := by omega
          have hjl' : ¬ (j : Int) < (C : Int) := by omega
          go_wp2_with fail
          go_roundw
          case rel => exact ⟨i + 1, Nat.succ_le_of_lt hlt, by go_num, kr.out.trans kq.out⟩
          case measure => simp [Qu.num]; omega
    · have hlt' : ¬ (i : Int) < (R : Int) := by omega
      go_wp2_with fail
      go_ret
      exact ⟨rfl, kr.out⟩

end Go.Proofs.YtlhajbcabpfbkaaGreatDoor
