/-
  The law Vt52Moves.
-/
import Derived.Test.YtlhajbcabpfbkaaDoorVtP
namespace Go.Proofs.YtlhajbcabpfbkaaDoor
open Go.RowKit

theorem str_nil : (⟨#[]⟩ : ByteArray) = Qu.str [] := rfl
theorem cat_two (L : List UInt8) (a b : UInt8) : Qu.str L ++ ⟨#[a, b]⟩ = Qu.str (L ++ [a, b]) := Qu.str_append L [a, b]

set_option maxRecDepth 100000 in
set_option maxHeartbeats 8000000 in
theorem moves_calls (x0 y0 x1 x2 : Int) (w : World) (hb : Blank w) : Calls Tryd.prog 5 #[pos x0 y0, .int .i64 x1, .int .i64 x2] w fun e w' => e = .returned (.bool true) ∧ Below w.heap.size w w' := by
  have HB := Lib.hid hb
  clear hb
  go_enter Tryd.func5, Tryd.ntmps5
  go_upto_region 1 with fail
  obtain ⟨w0, hw0⟩ : ∃ w0, w0 = w.alloc (.cells #[.int .i64 x0, .int .i64 y0] 41) := ⟨_, rfl⟩
  have k0 : Kept0 w w0 := by rw [hw0]; exact (Kept.refl _ w).alloc _
  have z0 : Two w0 w.heap.size x0 y0 := by rw [hw0]; exact Two.of (heap_new _ _)
  have hl0 : w.heap.size < w0.heap.size := by rw [hw0]; simp
  rw [← hw0]
  clear hw0
  have Z0 := Lib.hid z0
  have K0 := Lib.hid k0
  clear k0
  obtain ⟨a0, a1, a2, a3⟩ := z0
  by_cases hs : 1 ≤ x0 ∧ x0 ≤ 30 ∧ 1 ≤ y0 ∧ y0 ≤ 40
  · go_wp2_with fail
    refine (small_yes hs _).mono ?_
    rintro e w1 ⟨rfl, k1⟩
    have K1 : Hid (Kept0 w w1) := K0.out.trans k1
    have Z1 := Lib.hid (Z0.out.kept0 k1)
    clear k1 a0 a1 a2 a3
    by_cases h1 : x1 < 0
    · have hd : decide (x1 < 0) = true := decide_eq_true h1
      go_wp2_with fail
      refine (awake_any _ (HB.out.kept0 K1.out)).mono ?_
      rintro e w9 ⟨rfl, k9⟩
      have K9 := Lib.hid (K1.out.trans k9)
      clear k9
      go_wp2_with fail
      go_ret
      exact ⟨rfl, Kept0.below K9.out⟩
    by_cases h2 : 60 < x1
    · have hd : ¬ x1 < 0 := h1
      go_wp2_with fail
      refine (awake_any _ (HB.out.kept0 K1.out)).mono ?_
      rintro e w9 ⟨rfl, k9⟩
      have K9 := Lib.hid (K1.out.trans k9)
      clear k9
      go_wp2_with fail
      go_ret
      exact ⟨rfl, Kept0.below K9.out⟩
    by_cases h3 : x2 < 0
    · have hd : ¬ x1 < 0 := h1
      go_wp2_with fail
      refine (awake_any _ (HB.out.kept0 K1.out)).mono ?_
      rintro e w9 ⟨rfl, k9⟩
      have K9 := Lib.hid (K1.out.trans k9)
      clear k9
      go_wp2_with fail
      go_ret
      exact ⟨rfl, Kept0.below K9.out⟩
    by_cases h4 : 60 < x2
    · have hd : ¬ x1 < 0 := h1
      go_wp2_with fail
      refine (awake_any _ (HB.out.kept0 K1.out)).mono ?_
      rintro e w9 ⟨rfl, k9⟩
      have K9 := Lib.hid (K1.out.trans k9)
      clear k9
      go_wp2_with fail
      go_ret
      exact ⟨rfl, Kept0.below K9.out⟩
    obtain ⟨R, rfl⟩ : ∃ R : Nat, x0 = R := ⟨x0.toNat, by omega⟩
    obtain ⟨C, rfl⟩ : ∃ C : Nat, y0 = C := ⟨y0.toNat, by omega⟩
    obtain ⟨d, rfl⟩ : ∃ d : Nat, x1 = d := ⟨x1.toNat, by omega⟩
    obtain ⟨r, rfl⟩ : ∃ r : Nat, x2 = r := ⟨x2.toNat, by omega⟩
    have hR : 1 ≤ R ∧ R ≤ 30 ∧ 1 ≤ C ∧ C ≤ 40 := by omega
    have hd60 : d ≤ 60 := by omega
    have hr60 : r ≤ 60 := by omega
    clear hs
    have HR := Lib.hid hR
    clear hR
    obtain ⟨a0, a1, a2, a3⟩ := Z1.out
    go_wp2_with fail
    refine (made_any R C 50 w1 (HB.out.kept0 K1.out) (by have := HR.out; omega) (by omega)).mono ?_
    rintro e w2 ⟨b, a, rfl, hW, hO, k2⟩
    have HW := Lib.hid hW
    have HO := Lib.hid hO
    have K2 : Hid (Kept0 w w2) := K1.out.trans k2
    have Z2 := Lib.hid (Z1.out.kept0 k2)
    have hlw : w.heap.size < w1.heap.size := Z1.out.lt
    clear hW hO k2 a0 a1 a2 a3
    go_wp2_with fail
    have e0 := str_nil
    simp only [e0]
    go_loopw [9, 10, 11] (fun s9 s10 s11 wr => ∃ k : Nat, k ≤ d ∧ s11 = .int .i64 (k : Int) ∧ s9 = .string (Qu.str (repL [27, 66] k)) ∧ s10 = .string (Qu.str (repL [27, 65] k)) ∧ w2 = wr) (fun _ _ s11 _ => d - (Qu.num s11).toNat)
    case atStart => exact ⟨0, by omega, rfl, rfl, rfl, rfl⟩
    case round =>
      obtain ⟨k, hk, rfl, rfl, rfl, rfl⟩ := hrel
      obtain ⟨L1, hL1⟩ : ∃ L1, L1 = repL [27, 66] k := ⟨_, rfl⟩
      obtain ⟨L2, hL2⟩ : ∃ L2, L2 = repL [27, 65] k := ⟨_, rfl⟩
      have n1 : L1.length = k * 2 := by rw [hL1, repL_len]; rfl
      have n2 : L2.length = k * 2 := by rw [hL2, repL_len]; rfl
      have E1 : Hid (repL [27, 66] (k + 1) = L1 ++ [27, 66]) := by rw [hL1]; rfl
      have E2 : Hid (repL [27, 65] (k + 1) = L2 ++ [27, 65]) := by rw [hL2]; rfl
      have H1 := Lib.hid hL1
      have H2 := Lib.hid hL2
      rw [← hL1, ← hL2]
      clear hL1 hL2
      by_cases hlt : k < d
      · have c1 := cat_two L1 27 66
        have c2 := cat_two L2 27 65
        have s1 : (Qu.str L1).size = L1.length := Qu.str_size _
        have s2 : (Qu.str L2).size = L2.length := Qu.str_size _
        have m1 : ¬ 9223372036854775807 < L1.length + 2 := by omega
        have m2 : ¬ 9223372036854775807 < L2.length + 2 := by omega
        clear n1 n2
        go_wp2_with fail
        go_roundw
        case rel => exact ⟨k + 1, Nat.succ_le_of_lt hlt, by go_num, by rw [E1.out], by rw [E2.out], trivial⟩
        case measure => simp [Qu.num]; omega
      · have hkd : d = k := by omega
        subst hkd
        clear E1 E2 hk hlt
        go_wp2_with fail
        go_loopw [9, 10, 12] (fun s9 s10 s12 wr => ∃ k : Nat, k ≤ r ∧ s12 = .int .i64 (k : Int) ∧ s9 = .string (Qu.str (L1 ++ repL [27, 67] k)) ∧ s10 = .string (Qu.str (L2 ++ repL [27, 68] k)) ∧ w2 = wr) (fun _ _ s12 _ => r - (Qu.num s12).toNat)
        case atStart => exact ⟨0, by omega, rfl, by simp [repL], by simp [repL], rfl⟩
        case round =>
          obtain ⟨k, hk, rfl, rfl, rfl, rfl⟩ := hrel
          have n3 : (repL [27, 67] k).length = k * 2 := by rw [repL_len]; rfl
          have n4 : (repL [27, 68] k).length = k * 2 := by rw [repL_len]; rfl
          obtain ⟨M1, hM1⟩ : ∃ M1, M1 = L1 ++ repL [27, 67] k := ⟨_, rfl⟩
          obtain ⟨M2, hM2⟩ : ∃ M2, M2 = L2 ++ repL [27, 68] k := ⟨_, rfl⟩
          have n5 : M1.length = d * 2 + k * 2 := by rw [hM1, List.length_append, n1, n3]
          have n6 : M2.length = d * 2 + k * 2 := by rw [hM2, List.length_append, n2, n4]
          have E1 : Hid (L1 ++ repL [27, 67] (k + 1) = M1 ++ [27, 67]) := by rw [hM1]; show L1 ++ (repL [27, 67] k ++ [27, 67]) = _; rw [List.append_assoc]
          have E2 : Hid (L2 ++ repL [27, 68] (k + 1) = M2 ++ [27, 68]) := by rw [hM2]; show L2 ++ (repL [27, 68] k ++ [27, 68]) = _; rw [List.append_assoc]
          have H3 := Lib.hid hM1
          have H4 := Lib.hid hM2
          rw [← hM1, ← hM2]
          clear hM1 hM2 n3 n4
          by_cases hlt : k < r
          · have c1 := cat_two M1 27 67
            have c2 := cat_two M2 27 68
            have s1 : (Qu.str M1).size = M1.length := Qu.str_size _
            have s2 : (Qu.str M2).size = M2.length := Qu.str_size _
            have m1 : ¬ 9223372036854775807 < M1.length + 2 := by omega
            have m2 : ¬ 9223372036854775807 < M2.length + 2 := by omega
            clear n5 n6
            go_wp2_with fail
            go_roundw
            case rel => exact ⟨k + 1, Nat.succ_le_of_lt hlt, by go_num, by rw [E1.out], by rw [E2.out], trivial⟩
            case measure => simp [Qu.num]; omega
          · have hkr : r = k := by omega
            subst hkr
            have hM1 : M1 = repL [27, 66] d ++ repL [27, 67] r := by rw [H3.out, H1.out]
            have hM2 : M2 = repL [27, 65] d ++ repL [27, 68] r := by rw [H4.out, H2.out]
            have mf := moves_fact R C 50 d r HR.out.1 HR.out.2.2.1
            rw [← hM1, ← hM2] at mf
            obtain ⟨v1, hv1⟩ : ∃ v1, v1 = feedV M1 (newV R C 50) := ⟨_, rfl⟩
            simp only [← hv1] at mf
            obtain ⟨v2, hv2⟩ : ∃ v2, v2 = feedV M2 v1 := ⟨_, rfl⟩
            simp only [← hv2] at mf
            obtain ⟨f1, f2, f3, f4, f5, f6, f7, f8⟩ := mf
            have q1 : M1.length ≤ 140737488351232 := by omega
            have q2 : M2.length ≤ 140737488351232 := by omega
            have hp1 : v1.pre.length ≤ 3 := by rw [f8]; simp
            have HF := Lib.hid (And.intro f1 (And.intro f2 (And.intro f3 (And.intro f4 (And.intro f5 (And.intro f6 f7))))))
            clear f1 f2 f3 f4 f5 f6 f7 f8 hM1 hM2 H1 H2 H3 H4 E1 E2 n1 n2 n5 n6 hk hlt
            have HV1 := Lib.hid hv1
            have HV2 := Lib.hid hv2
            clear hv1 hv2
            have b2 := HW.out.c2
            go_wp2_with fail
            refine (feed_vt M1 q1 HW.out.vt (Nat.zero_le _)).mono ?_
            rintro e w3 ⟨rfl, h3, k3⟩
            have HW3 : Hid (WoIn w3 b a v1) := HW.out.turn k3 (HV1.out ▸ h3)
            have K3 : Hid (Kept0 w w3) := K2.out.later k3 (fun i hi e => by have := HO.out i (Or.inl e); omega)
            have Z3 := Lib.hid (Z2.out.kept k3 (fun e => by have := HO.out _ (Or.inl e); omega))
            clear h3 k3 b2 HW K2 Z2
            have b0 := HW3.out.c0
            go_wp2_with fail
            refine (vcur HW3.out.vt).mono ?_
            rintro e w4 ⟨rfl, k4⟩
            have HW4 := Lib.hid (HW3.out.kept0 k4)
            have K4 : Hid (Kept0 w w4) := K3.out.trans k4
            have Z4 := Lib.hid (Z3.out.kept0 k4)
            clear k4 b0 HW3 K3 Z3
            go_upto_region 20 with fail
            obtain ⟨W4, hW4⟩ : ∃ W4, W4 = w4.alloc (.cells #[.int .i64 v1.z.r, .int .i64 v1.z.c] 44) := ⟨_, rfl⟩
            have k4 : Kept0 w4 W4 := by rw [hW4]; exact (Kept.refl _ w4).alloc _
            have P4 : Hid (Two W4 w4.heap.size v1.z.r v1.z.c) := by rw [hW4]; exact Two.of (heap_new _ _)
            have hne4 : ¬ a.O w4.heap.size := fun e => by have := HW4.out.vt.lt _ e; omega
            have HW5 := Lib.hid (HW4.out.kept0 k4)
            have K5 : Hid (Kept0 w W4) := K4.out.trans k4
            have Z5 := Lib.hid (Z4.out.kept0 k4)
            rw [← hW4]
            clear hW4 k4 HW4 K4 Z4
            obtain ⟨p1, hp1'⟩ : ∃ p1, p1 = w4.heap.size := ⟨_, rfl⟩
            rw [← hp1'] at P4 hne4 ⊢
            clear hp1'
            have b2 := HW5.out.c2
            go_wp2_with fail
            refine (feed_vt M2 q2 HW5.out.vt hp1).mono ?_
            rintro e w6 ⟨rfl, h6, k6⟩
            have HW6 : Hid (WoIn w6 b a v2) := HW5.out.turn k6 (HV2.out ▸ h6)
            have K6 : Hid (Kept0 w w6) := K5.out.later k6 (fun i hi e => by have := HO.out i (Or.inl e); omega)
            have Z6 := Lib.hid (Z5.out.kept k6 (fun e => by have := HO.out _ (Or.inl e); omega))
            have P6 := Lib.hid (P4.out.kept k6 hne4)
            clear h6 k6 b2 HW5 K5 Z5 P4
            have b0 := HW6.out.c0
            go_wp2_with fail
            refine (vcur HW6.out.vt).mono ?_
            rintro e w7 ⟨rfl, k7⟩
            have HW7 := Lib.hid (HW6.out.kept0 k7)
            have K7 : Hid (Kept0 w w7) := K6.out.trans k7
            have Z7 := Lib.hid (Z6.out.kept0 k7)
            have P7 := Lib.hid (P6.out.kept0 k7)
            clear k7 b0 HW6 K6 Z6 P6
            go_upto_region 22 with fail
            obtain ⟨W7, hW7⟩ : ∃ W7, W7 = w7.alloc (.cells #[.int .i64 v2.z.r, .int .i64 v2.z.c] 44) := ⟨_, rfl⟩
            have k7 : Kept0 w7 W7 := by rw [hW7]; exact (Kept.refl _ w7).alloc _
            have R7 : Hid (Two W7 w7.heap.size v2.z.r v2.z.c) := by rw [hW7]; exact Two.of (heap_new _ _)
            have HW8 := Lib.hid (HW7.out.kept0 k7)
            have K8 : Hid (Kept0 w W7) := K7.out.trans k7
            have Z8 := Lib.hid (Z7.out.kept0 k7)
            have P8 := Lib.hid (P7.out.kept0 k7)
            rw [← hW7]
            clear hW7 k7 HW7 K7 Z7 P7
            obtain ⟨p2, hp2'⟩ : ∃ p2, p2 = w7.heap.size := ⟨_, rfl⟩
            rw [← hp2'] at R7 ⊢
            clear hp2'
            have b0 := HW8.out.c0
            go_wp2_with fail
            refine (srows_any _ HW8.out.vt.scr).mono ?_
            rintro e w9 ⟨l, rfl, hl9, hro, k9⟩
            obtain ⟨g1, g2, g3, g4, g5, g6, g7⟩ := HF.out
            have HRo : Hid (RowsAt w9 W7.heap.size l R C (fun _ _ => blk)) := by
              have h := hro
              rw [g5, g6, g7] at h
              exact h
            have K9 : Hid (Kept0 w w9) := K8.out.trans k9
            have Z9 := Lib.hid (Z8.out.kept0 k9)
            have P9 := Lib.hid (P8.out.kept0 k9)
            have R9 := Lib.hid (R7.out.kept0 k9)
            rw [g5]
            have G := Lib.hid (And.intro g1 (And.intro g2 (And.intro g3 g4)))
            have hR30 : R ≤ 30 := by have := HR.out; omega
            have hC40 : C ≤ 40 := by have := HR.out; omega
            clear k9 b0 hro HW8 K8 Z8 P8 R7 g1 g2 g3 g4 g5 g6 g7 HF hl9
            go_wp2_with fail
            go_loopw [18, 19] (fun s18 s19 wr => ∃ i : Nat, i ≤ R ∧ s18 = .int .i64 (i : Int) ∧ w9 = wr) (fun s18 _ _ => R - (Qu.num s18).toNat)
            case atStart => exact ⟨0, by omega, rfl, rfl⟩
            case round =>
              obtain ⟨i, hi, rfl, hwr⟩ := hrel
              subst hwr
              by_cases hlt : i < R
              · obtain ⟨t, cap, r1, r2, r3, r4, r5⟩ := HRo.out.len i hlt
                have hlt' : (i : Int) < (R : Int) := by omega
                go_wp2_with fail
                go_loopw [19] (fun s19 wr => ∃ k : Nat, k ≤ C ∧ s19 = .int .i64 (k : Int) ∧ w9 = wr) (fun s19 _ => C - (Qu.num s19).toNat)
                case atStart => exact ⟨0, by omega, rfl, rfl⟩
                case round =>
                  obtain ⟨k, hk, rfl, hwr⟩ := hrel
                  subst hwr
                  by_cases hkl : k < C
                  · obtain ⟨x0, x1, x2, x3⟩ : w9.cell? ⟨t, k * 4, none⟩ = some (.int .i32 32) ∧ w9.cell? ⟨t, k * 4 + 1, none⟩ = some (.int .i64 0) ∧ w9.cell? ⟨t, k * 4 + 2, none⟩ = some (.bool false) ∧ w9.cell? ⟨t, k * 4 + 3, none⟩ = some (.int .i64 0) := r5.cell hkl
                    have hkl' : (k : Int) < (C : Int) := by omega
                    go_wp2_with fail
                    go_roundw
                    case rel => exact ⟨k + 1, Nat.succ_le_of_lt hkl, by go_num, trivial⟩
                    case measure => simp [Qu.num]; omega
                  · have hkc : k = C := by omega
                    subst hkc
                    go_wp2_with fail
                    go_roundw
                    case rel => exact ⟨i + 1, Nat.succ_le_of_lt hlt, by go_num, trivial⟩
                    case measure => simp [Qu.num]; omega
              · have hir : i = R := by omega
                subst hir
                clear HRo
                obtain ⟨y0, y1, y2, y3⟩ := Z9.out
                obtain ⟨p10, p11, p12, p13⟩ := P9.out
                obtain ⟨p20, p21, p22, p23⟩ := R9.out
                obtain ⟨g1, g2, g3, g4⟩ := G.out
                by_cases e1 : (i : Int) - 1 < (d : Int)
                · by_cases e2 : (C : Int) - 1 < (r : Int)
                  · have t1 : v1.z.r = (i : Int) - 1 := by omega
                    have t2 : v1.z.c = (C : Int) - 1 := by omega
                    rw [t1] at p10
                    rw [t2] at p11
                    rw [g3] at p20
                    rw [g4] at p21
                    clear g1 g2 t1 t2
                    go_wp2_with fail
                    refine (awake_any _ (HB.out.kept0 K9.out)).mono ?_
                    rintro e w10 ⟨rfl, k10⟩
                    have K10 : Hid (Kept0 w w10) := K9.out.trans k10
                    clear k10
                    go_wp2_with fail
                    go_ret
                    exact ⟨rfl, Kept0.below K10.out⟩
                  · have t1 : v1.z.r = (i : Int) - 1 := by omega
                    have t2 : v1.z.c = (r : Int) := by omega
                    rw [t1] at p10
                    rw [t2] at p11
                    rw [g3] at p20
                    rw [g4] at p21
                    clear g1 g2 t1 t2
                    go_wp2_with fail
                    refine (awake_any _ (HB.out.kept0 K9.out)).mono ?_
                    rintro e w10 ⟨rfl, k10⟩
                    have K10 : Hid (Kept0 w w10) := K9.out.trans k10
                    clear k10
                    go_wp2_with fail
                    go_ret
                    exact ⟨rfl, Kept0.below K10.out⟩
                · by_cases e2 : (C : Int) - 1 < (r : Int)
                  · have t1 : v1.z.r = (d : Int) := by omega
                    have t2 : v1.z.c = (C : Int) - 1 := by omega
                    rw [t1] at p10
                    rw [t2] at p11
                    rw [g3] at p20
                    rw [g4] at p21
                    clear g1 g2 t1 t2
                    go_wp2_with fail
                    refine (awake_any _ (HB.out.kept0 K9.out)).mono ?_
                    rintro e w10 ⟨rfl, k10⟩
                    have K10 : Hid (Kept0 w w10) := K9.out.trans k10
                    clear k10
                    go_wp2_with fail
                    go_ret
                    exact ⟨rfl, Kept0.below K10.out⟩
                  · have t1 : v1.z.r = (d : Int) := by omega
                    have t2 : v1.z.c = (r : Int) := by omega
                    rw [t1] at p10
                    rw [t2] at p11
                    rw [g3] at p20
                    rw [g4] at p21
                    clear g1 g2 t1 t2
                    go_wp2_with fail
                    refine (awake_any _ (HB.out.kept0 K9.out)).mono ?_
                    rintro e w10 ⟨rfl, k10⟩
                    have K10 : Hid (Kept0 w w10) := K9.out.trans k10
                    clear k10
                    go_wp2_with fail
                    go_ret
                    exact ⟨rfl, Kept0.below K10.out⟩
  · go_wp2_with fail
    refine (small_no hs _).mono ?_
    rintro e w1 ⟨rfl, k1⟩
    have K1 : Hid (Kept0 w w1) := K0.out.trans k1
    clear k1 a0 a1 a2 a3
    go_wp2_with fail
    refine (awake_any _ (HB.out.kept0 K1.out)).mono ?_
    rintro e w9 ⟨rfl, k9⟩
    have K9 := Lib.hid (K1.out.trans k9)
    clear k9
    go_wp2_with fail
    go_ret
    exact ⟨rfl, Kept0.below K9.out⟩
end Go.Proofs.YtlhajbcabpfbkaaDoor
