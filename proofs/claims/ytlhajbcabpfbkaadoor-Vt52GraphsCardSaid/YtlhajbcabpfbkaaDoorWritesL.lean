/-
  The law Vt52Writes.
-/
import Derived.Test.YtlhajbcabpfbkaaDoorVtQ
namespace Go.Proofs.YtlhajbcabpfbkaaDoor
open Go.RowKit
attribute [local go_sem] Oper.semAt_some

theorem str_of (s : ByteArray) : ∃ l, s = Qu.str l := ⟨s.data.toList, by cases s; simp [Qu.str]⟩
theorem str_size (l : List UInt8) : (Qu.str l).size = l.length := Qu.str_size l

set_option maxRecDepth 100000 in
set_option maxHeartbeats 8000000 in
theorem writes_calls (x0 y0 : Int) (s1 s2 : ByteArray) (w : World) (hb : Blank w) : Calls Tryd.prog 4 #[pos x0 y0, .string s1, .string s2] w fun e w' => e = .returned (.bool true) ∧ Below w.heap.size w w' := by
  have HB := Lib.hid hb
  clear hb
  obtain ⟨ahead, rfl⟩ := str_of s1
  obtain ⟨text, rfl⟩ := str_of s2
  have q1 : (Qu.str ahead).size = ahead.length := str_size _
  have q2 : (Qu.str text).size = text.length := str_size _
  go_enter Tryd.func4, Tryd.ntmps4
  go_upto_region 1 with fail
  obtain ⟨w0, hw0⟩ : ∃ w0, w0 = w.alloc (.cells #[.int .i64 x0, .int .i64 y0] 41) := ⟨_, rfl⟩
  have k0 : Kept0 w w0 := by rw [hw0]; exact (Kept.refl _ w).alloc _
  have z0 : Two w0 w.heap.size x0 y0 := by rw [hw0]; exact Two.of (heap_new _ _)
  have hl0 : w.heap.size < w0.heap.size := by rw [hw0]; simp
  rw [← hw0]
  clear hw0
  have Z0 := Lib.hid z0
  have K0 := Lib.hid k0
  clear k0
  obtain ⟨a0, a1, a2, a3⟩ := z0
  by_cases hs : 1 ≤ x0 ∧ x0 ≤ 30 ∧ 1 ≤ y0 ∧ y0 ≤ 40
  · go_wp2_with fail
    refine (small_yes hs _).mono ?_
    rintro e w1 ⟨rfl, k1⟩
    have K1 : Hid (Kept0 w w1) := K0.out.trans k1
    have Z1 := Lib.hid (Z0.out.kept0 k1)
    clear k1 a0 a1 a2 a3
    obtain ⟨a0, a1, a2, a3⟩ := Z1.out
    by_cases h1 : 300 < ahead.length
    · have h1' : (300 : Int) < (ahead.length : Int) := by omega
      go_wp2_with fail
      refine (awake_any _ (HB.out.kept0 K1.out)).mono ?_
      rintro e w9 ⟨rfl, k9⟩
      have K9 := Lib.hid (K1.out.trans k9)
      clear k9
      go_wp2_with fail
      go_ret
      exact ⟨rfl, Kept0.below K9.out⟩
    by_cases h2 : y0 ≤ (text.length : Int)
    · have h1' : ¬ (300 : Int) < (ahead.length : Int) := by omega
      go_wp2_with fail
      refine (awake_any _ (HB.out.kept0 K1.out)).mono ?_
      rintro e w9 ⟨rfl, k9⟩
      have K9 := Lib.hid (K1.out.trans k9)
      clear k9
      go_wp2_with fail
      go_ret
      exact ⟨rfl, Kept0.below K9.out⟩
    obtain ⟨R, rfl⟩ : ∃ R : Nat, x0 = R := ⟨x0.toNat, by omega⟩
    obtain ⟨C, rfl⟩ : ∃ C : Nat, y0 = C := ⟨y0.toNat, by omega⟩
    have h1' : ¬ (300 : Int) < (ahead.length : Int) := by omega
    have hR : 1 ≤ R ∧ R ≤ 30 ∧ 1 ≤ C ∧ C ≤ 40 ∧ text.length < C ∧ ahead.length ≤ 300 := by omega
    have HR := Lib.hid hR
    have ht40 : text.length < 40 := by omega
    clear hR hs h1
    go_wp2_with fail
    clear h1' h2
    go_loopw [7] (fun s7 wr => ∃ k : Nat, k ≤ text.length ∧ s7 = .int .i64 (k : Int) ∧ Hid (∀ i, i < k → isPlain (text.getD i 0)) ∧ w1 = wr) (fun s7 _ => text.length - (Qu.num s7).toNat)
    case atStart => exact ⟨0, by omega, rfl, fun i hi => absurd hi (Nat.not_lt_zero _), rfl⟩
    case round =>
      obtain ⟨k, hk, rfl, HP, hwr⟩ := hrel
      subst hwr
      by_cases hlt : k < text.length
      · have hltS : k < (Qu.str text).size := by rw [q2]; exact hlt
        have hlt' : (k : Int) < (text.length : Int) := by omega
        have hge : (Qu.str text)[k]'hltS = text[k]'hlt := by simp [Qu.str, ByteArray.getElem_eq_getElem_data]
        by_cases p1 : (text[k]'hlt).toNat < 32
        · have p1' : ((text[k]'hlt).toNat : Int) < 32 := by omega
          go_wp2_with fail
          refine (awake_any _ (HB.out.kept0 K1.out)).mono ?_
          rintro e w9 ⟨rfl, k9⟩
          have K9 := Lib.hid (K1.out.trans k9)
          clear k9
          go_wp2_with fail
          go_ret
          exact ⟨rfl, Kept0.below K9.out⟩
        by_cases p2 : 126 < (text[k]'hlt).toNat
        · have p1' : ¬ ((text[k]'hlt).toNat : Int) < 32 := by omega
          have p2' : (126 : Int) < ((text[k]'hlt).toNat : Int) := by omega
          go_wp2_with fail
          refine (awake_any _ (HB.out.kept0 K1.out)).mono ?_
          rintro e w9 ⟨rfl, k9⟩
          have K9 := Lib.hid (K1.out.trans k9)
          clear k9
          go_wp2_with fail
          go_ret
          exact ⟨rfl, Kept0.below K9.out⟩
        have p1' : ¬ ((text[k]'hlt).toNat : Int) < 32 := by omega
        have p2' : ¬ (126 : Int) < ((text[k]'hlt).toNat : Int) := by omega
        have HP2 : Hid (∀ i, i < k + 1 → isPlain (text.getD i 0)) := by
          intro i hi
          by_cases e : i = k
          · subst e
            rw [List.getD_eq_getElem?_getD, List.getElem?_eq_getElem hlt]
            exact ⟨by show 32 ≤ _; simp only [Option.getD_some]; omega, by simp only [Option.getD_some]; omega⟩
          · exact HP.out i (by omega)
        clear p1 p2
        go_wp2_with fail
        go_roundw
        case rel => exact ⟨k + 1, Nat.succ_le_of_lt hlt, by go_num, HP2, trivial⟩
        case measure => simp [Qu.num]; omega
      · have hkt : k = text.length := by omega
        subst hkt
        have hpl : ∀ b ∈ text, isPlain b := by
          intro b hb
          obtain ⟨i, hi, rfl⟩ := List.mem_iff_getElem.1 hb
          have := HP.out i hi
          rwa [List.getD_eq_getElem?_getD, List.getElem?_eq_getElem hi] at this
        have wf := writes_fact R C 50 ahead text HR.out.1 HR.out.2.2.2.2.1 hpl
        obtain ⟨M, hM⟩ : ∃ M : List UInt8, M = [27, 71, 27, 72] ++ text := ⟨_, rfl⟩
        have hcat : (⟨#[27, 71, 27, 72]⟩ : ByteArray) ++ Qu.str text = Qu.str M := by rw [hM]; exact Qu.str_append [27, 71, 27, 72] text
        have hno : ¬ 9223372036854775807 < 4 + text.length := by omega
        have hML : M.length ≤ 140737488351232 := by rw [hM]; simp; omega
        rw [← hM] at wf
        obtain ⟨v1, hv1⟩ : ∃ v1, v1 = feedV ahead (newV R C 50) := ⟨_, rfl⟩
        obtain ⟨v2, hv2⟩ : ∃ v2, v2 = feedV M v1 := ⟨_, rfl⟩
        simp only [← hv1, ← hv2] at wf
        have HF := Lib.hid wf
        have HV1 := Lib.hid hv1
        have HV2 := Lib.hid hv2
        have HPl := Lib.hid hpl
        clear wf hv1 hv2 hM hpl HP hk hlt
        go_wp2_with fail
        refine (made_any R C 50 w1 (HB.out.kept0 K1.out) (by have := HR.out; omega) (by omega)).mono ?_
        rintro e w2 ⟨b, a, rfl, hW, hO, k2⟩
        have HW := Lib.hid hW
        have HO := Lib.hid hO
        have K2 : Hid (Kept0 w w2) := K1.out.trans k2
        have hlw : w.heap.size ≤ w1.heap.size := K1.out.size
        clear hW hO k2 a0 a1 a2 a3 Z1
        have b2 := HW.out.c2
        go_wp2_with fail
        refine (feed_vt ahead (by have := HR.out; omega) HW.out.vt (Nat.zero_le _)).mono ?_
        rintro e w3 ⟨rfl, h3, k3⟩
        have HW3 : Hid (WoIn w3 b a v1) := HW.out.turn k3 (HV1.out ▸ h3)
        have K3 : Hid (Kept0 w w3) := K2.out.later k3 (fun i hi e => by have := HO.out i (Or.inl e); omega)
        clear h3 k3 b2 HW K2
        have hp1 : v1.pre.length ≤ 3 := by rw [HV1.out]; exact feed_pre (Nat.zero_le _)
        replace b2 := HW3.out.c2
        go_wp2_with fail
        refine (feed_vt M hML HW3.out.vt hp1).mono ?_
        rintro e w4 ⟨rfl, h4, k4⟩
        have HW4 : Hid (WoIn w4 b a v2) := HW3.out.turn k4 (HV2.out ▸ h4)
        have K4 : Hid (Kept0 w w4) := K3.out.later k4 (fun i hi e => by have := HO.out i (Or.inl e); omega)
        clear h4 k4 b2 HW3 K3 hp1
        have b0 := HW4.out.c0
        go_wp2_with fail
        refine (vcur HW4.out.vt).mono ?_
        rintro e w5 ⟨rfl, k5⟩
        have HW5 := Lib.hid (HW4.out.kept0 k5)
        have K5 : Hid (Kept0 w w5) := K4.out.trans k5
        clear k5 b0 HW4 K4
        go_upto_region 14 with fail
        obtain ⟨W4, hW4⟩ : ∃ W4, W4 = w5.alloc (.cells #[.int .i64 v2.z.r, .int .i64 v2.z.c] 44) := ⟨_, rfl⟩
        have k4 : Kept0 w5 W4 := by rw [hW4]; exact (Kept.refl _ w5).alloc _
        have P4 : Hid (Two W4 w5.heap.size v2.z.r v2.z.c) := by rw [hW4]; exact Two.of (heap_new _ _)
        have HW6 := Lib.hid (HW5.out.kept0 k4)
        have K6 : Hid (Kept0 w W4) := K5.out.trans k4
        rw [← hW4]
        clear hW4 k4 HW5 K5
        obtain ⟨p1, hp1'⟩ : ∃ p1, p1 = w5.heap.size := ⟨_, rfl⟩
        rw [← hp1'] at P4 ⊢
        clear hp1'
        obtain ⟨n, hn⟩ : ∃ n, n = text.length := ⟨_, rfl⟩
        go_wp2_with fail
        go_loopw [12, 13, 14] (fun s12 s13 s14 wr => ∃ k : Nat, k ≤ text.length ∧ s12 = .int .i64 (k : Int) ∧ Kept0 W4 wr) (fun s12 _ _ _ => text.length - (Qu.num s12).toNat)
        case atStart => exact ⟨0, Nat.zero_le _, rfl, Kept.refl _ _⟩
        case round =>
          obtain ⟨k, hk, rfl, kr⟩ := hrel
          have KR := Lib.hid kr
          clear kr
          by_cases hlt : k < text.length
          · have hltS : k < (Qu.str text).size := by rw [q2]; exact hlt
            have hlt' : (k : Int) < (text.length : Int) := by omega
            have HW7 := Lib.hid (HW6.out.kept0 KR.out)
            have b0 := HW7.out.c0
            have hat : Hid (atX v2.z.R v2.z.C v2.z.F 0 k = ⟨((text[k]'hlt).toNat : Int), 0, false, 0⟩ ∧ atE v2.z.R v2.z.C 0 k = 0) := by
              obtain ⟨f1, f2, f3, f4, f5⟩ := HF.out
              have hin : (0 : Int) ≤ 0 ∧ (0 : Int) < (v2.z.R : Int) ∧ (0 : Int) ≤ (k : Int) ∧ (k : Int) < (v2.z.C : Int) := by
                rw [f1, f2]; have := HR.out; omega
              refine ⟨?_, if_pos hin⟩
              have h5 := f5 k hlt
              rw [List.getD_eq_getElem?_getD, List.getElem?_eq_getElem hlt] at h5
              rw [show atX v2.z.R v2.z.C v2.z.F 0 k = v2.z.F (idx v2.z.C 0 k) from if_pos hin, show idx v2.z.C 0 k = k by simp [idx], h5]
              rfl
            go_wp2_with fail
            refine (vat HW7.out.vt 0 k).mono ?_
            rintro e w8 ⟨rfl, k8⟩
            rw [hat.out.1, hat.out.2]
            have K8 : Hid (Kept0 W4 w8) := KR.out.trans k8
            clear k8 b0 HW7 KR hat
            go_upto_region 18 with fail
            have hge : (Qu.str text)[k]'hltS = text[k]'hlt := by simp [Qu.str, ByteArray.getElem_eq_getElem_data]
            have h256 : ((text[k]'hlt).toNat : Int) < 256 := by have := UInt8.toNat_lt (text[k]'hlt); omega
            have hwr : IntKind.i32.wrap ((text[k]'hlt).toNat : Int) = ((text[k]'hlt).toNat : Int) := by rw [IntKind.wrap_i32]; omega
            obtain ⟨W8, hW8⟩ : ∃ W8, W8 = w8.alloc (.cells #[.int .i32 ((text[k]'hlt).toNat : Int), .int .i64 0, .bool false, .int .i64 0] 48) := ⟨_, rfl⟩
            have k8 : Kept0 w8 W8 := by rw [hW8]; exact (Kept.refl _ w8).alloc _
            have x9 : CelAt W8 w8.heap.size ⟨((text[k]'hlt).toNat : Int), 0, false, 0⟩ := by rw [hW8]; exact CelAt.new w8 ⟨((text[k]'hlt).toNat : Int), 0, false, 0⟩ 48
            have KR8 : Hid (Kept0 W4 W8) := K8.out.trans k8
            rw [← hW8]
            clear hW8 k8 K8
            obtain ⟨o0, o1, o2, o3⟩ := x9
            go_quiet (fail)
            go_wp2_with fail
            go_roundw
            case rel => exact ⟨k + 1, Nat.succ_le_of_lt hlt, by go_num, KR8.out.drewN _⟩
            case measure => simp [Qu.num]; omega
          · have hkt : k = text.length := by omega
            subst hkt
            obtain ⟨p10, p11, p12, p13⟩ := (P4.out.kept0 KR.out)
            have K9 : Hid (Kept0 w _) := K6.out.trans KR.out
            obtain ⟨f1, f2, f3, f4, f5⟩ := HF.out
            rw [f3] at p10
            rw [f4] at p11
            clear f1 f2 f3 f4 f5 KR hlt hk
            go_wp2_with fail
            refine (awake_any _ (HB.out.kept0 K9.out)).mono ?_
            rintro e w10 ⟨rfl, k10⟩
            have K10 : Hid (Kept0 w w10) := K9.out.trans k10
            clear k10
            go_wp2_with fail
            go_ret
            exact ⟨rfl, Kept0.below K10.out⟩
  · go_wp2_with fail
    refine (small_no hs _).mono ?_
    rintro e w1 ⟨rfl, k1⟩
    have K1 : Hid (Kept0 w w1) := K0.out.trans k1
    clear k1 a0 a1 a2 a3
    go_wp2_with fail
    refine (awake_any _ (HB.out.kept0 K1.out)).mono ?_
    rintro e w9 ⟨rfl, k9⟩
    have K9 := Lib.hid (K1.out.trans k9)
    clear k9
    go_wp2_with fail
    go_ret
    exact ⟨rfl, Kept0.below K9.out⟩
end Go.Proofs.YtlhajbcabpfbkaaDoor
