/-
  The law Vt52Graphs.
-/
import Derived.Test.YtlhajbcabpfbkaaDoorWritesL
import Derived.Test.YtlhajbcabpfbkaaDoorVtU
import Derived.Test.YtlhajbcabpfbkaaDoorGlBack
namespace Go.Proofs.YtlhajbcabpfbkaaDoor
open Go.RowKit
attribute [local go_sem] Oper.semAt_some

set_option maxRecDepth 100000 in
set_option maxHeartbeats 8000000 in
theorem graphs_calls (x0 y0 : Int) (s1 : ByteArray) (w : World) (hb : Blank w) : Calls Tryd.prog 6 #[pos x0 y0, .string s1] w fun e w' => e = .returned (.bool true) ∧ Below w.heap.size w w' := by
  have HB := Lib.hid hb
  clear hb
  obtain ⟨text, rfl⟩ := str_of s1
  have q2 : (Qu.str text).size = text.length := str_size _
  go_enter Tryd.func6, Tryd.ntmps6
  go_upto_region 1 with fail
  obtain ⟨w0, hw0⟩ : ∃ w0, w0 = w.alloc (.cells #[.int .i64 x0, .int .i64 y0] 41) := ⟨_, rfl⟩
  have k0 : Kept0 w w0 := by rw [hw0]; exact (Kept.refl _ w).alloc _
  have z0 : Two w0 w.heap.size x0 y0 := by rw [hw0]; exact Two.of (heap_new _ _)
  have hl0 : w.heap.size < w0.heap.size := by rw [hw0]; simp
  rw [← hw0]
  clear hw0
  have Z0 := Lib.hid z0
  have K0 := Lib.hid k0
  clear k0
  obtain ⟨a0, a1, a2, a3⟩ := z0
  by_cases hs : 1 ≤ x0 ∧ x0 ≤ 30 ∧ 1 ≤ y0 ∧ y0 ≤ 40
  · go_wp2_with fail
    refine (small_yes hs _).mono ?_
    rintro e w1 ⟨rfl, k1⟩
    have K1 : Hid (Kept0 w w1) := K0.out.trans k1
    have Z1 := Lib.hid (Z0.out.kept0 k1)
    clear k1 a0 a1 a2 a3
    obtain ⟨a0, a1, a2, a3⟩ := Z1.out
    by_cases h2 : y0 ≤ (text.length : Int)
    · go_wp2_with fail
      refine (awake_any _ (HB.out.kept0 K1.out)).mono ?_
      rintro e w9 ⟨rfl, k9⟩
      have K9 := Lib.hid (K1.out.trans k9)
      clear k9
      go_wp2_with fail
      go_ret
      exact ⟨rfl, Kept0.below K9.out⟩
    obtain ⟨R, rfl⟩ : ∃ R : Nat, x0 = R := ⟨x0.toNat, by omega⟩
    obtain ⟨C, rfl⟩ : ∃ C : Nat, y0 = C := ⟨y0.toNat, by omega⟩
    have hR : 1 ≤ R ∧ R ≤ 30 ∧ 1 ≤ C ∧ C ≤ 40 ∧ text.length < C := by omega
    have HR := Lib.hid hR
    have ht40 : text.length < 40 := by omega
    clear hR hs
    go_wp2_with fail
    clear h2
    go_loopw [5] (fun s5 wr => ∃ k : Nat, k ≤ text.length ∧ s5 = .int .i64 (k : Int) ∧ Hid (∀ i, i < k → isPlain (text.getD i 0)) ∧ w1 = wr) (fun s5 _ => text.length - (Qu.num s5).toNat)
    case atStart => exact ⟨0, by omega, rfl, fun i hi => absurd hi (Nat.not_lt_zero _), rfl⟩
    case round =>
      obtain ⟨k, hk, rfl, HP, hwr⟩ := hrel
      subst hwr
      by_cases hlt : k < text.length
      · have hltS : k < (Qu.str text).size := by rw [q2]; exact hlt
        have hlt' : (k : Int) < (text.length : Int) := by omega
        have hge : (Qu.str text)[k]'hltS = text[k]'hlt := by simp [Qu.str, ByteArray.getElem_eq_getElem_data]
        by_cases p1 : (text[k]'hlt).toNat < 32
        · have p1' : ((text[k]'hlt).toNat : Int) < 32 := by omega
          go_wp2_with fail
          refine (awake_any _ (HB.out.kept0 K1.out)).mono ?_
          rintro e w9 ⟨rfl, k9⟩
          have K9 := Lib.hid (K1.out.trans k9)
          clear k9
          go_wp2_with fail
          go_ret
          exact ⟨rfl, Kept0.below K9.out⟩
        by_cases p2 : 126 < (text[k]'hlt).toNat
        · have p1' : ¬ ((text[k]'hlt).toNat : Int) < 32 := by omega
          have p2' : (126 : Int) < ((text[k]'hlt).toNat : Int) := by omega
          go_wp2_with fail
          refine (awake_any _ (HB.out.kept0 K1.out)).mono ?_
          rintro e w9 ⟨rfl, k9⟩
          have K9 := Lib.hid (K1.out.trans k9)
          clear k9
          go_wp2_with fail
          go_ret
          exact ⟨rfl, Kept0.below K9.out⟩
        have p1' : ¬ ((text[k]'hlt).toNat : Int) < 32 := by omega
        have p2' : ¬ (126 : Int) < ((text[k]'hlt).toNat : Int) := by omega
        have HP2 : Hid (∀ i, i < k + 1 → isPlain (text.getD i 0)) := by
          intro i hi
          by_cases e : i = k
          · subst e
            rw [List.getD_eq_getElem?_getD, List.getElem?_eq_getElem hlt]
            exact ⟨by show 32 ≤ _; simp only [Option.getD_some]; omega, by simp only [Option.getD_some]; omega⟩
          · exact HP.out i (by omega)
        clear p1 p2
        go_wp2_with fail
        go_roundw
        case rel => exact ⟨k + 1, Nat.succ_le_of_lt hlt, by go_num, HP2, trivial⟩
        case measure => simp [Qu.num]; omega
      · have hkt : k = text.length := by omega
        subst hkt
        have hpl : ∀ b ∈ text, isPlain b := by
          intro b hb
          obtain ⟨i, hi, rfl⟩ := List.mem_iff_getElem.1 hb
          have := HP.out i hi
          rwa [List.getD_eq_getElem?_getD, List.getElem?_eq_getElem hi] at this
        have gf := graphs_fact R C 50 text HR.out.1 HR.out.2.2.2.2 hpl
        obtain ⟨M1, hM1⟩ : ∃ M : List UInt8, M = [27, 70] ++ text := ⟨_, rfl⟩
        obtain ⟨M2, hM2⟩ : ∃ M : List UInt8, M = [27, 70, 27, 71] ++ text := ⟨_, rfl⟩
        have hcat1 : (⟨#[27, 70]⟩ : ByteArray) ++ Qu.str text = Qu.str M1 := by rw [hM1]; exact Qu.str_append [27, 70] text
        have hcat2 : (⟨#[27, 70, 27, 71]⟩ : ByteArray) ++ Qu.str text = Qu.str M2 := by rw [hM2]; exact Qu.str_append [27, 70, 27, 71] text
        have hno1 : ¬ 9223372036854775807 < 2 + text.length := by omega
        have hno2 : ¬ 9223372036854775807 < 4 + text.length := by omega
        have hML1 : M1.length ≤ 140737488351232 := by rw [hM1]; simp; omega
        have hML2 : M2.length ≤ 140737488351232 := by rw [hM2]; simp; omega
        rw [← hM1, ← hM2] at gf
        obtain ⟨v1, hv1⟩ : ∃ v1, v1 = feedV M1 (newV R C 50) := ⟨_, rfl⟩
        obtain ⟨v2, hv2⟩ : ∃ v2, v2 = feedV M2 (newV R C 50) := ⟨_, rfl⟩
        simp only [← hv1, ← hv2] at gf
        have HF := Lib.hid gf
        have HV1 := Lib.hid hv1
        have HV2 := Lib.hid hv2
        have HPl := Lib.hid hpl
        clear gf hv1 hv2 hM1 hM2 hpl HP hk hlt
        go_wp2_with fail
        refine (made_any R C 50 w1 (HB.out.kept0 K1.out) (by have := HR.out; omega) (by omega)).mono ?_
        rintro e w2 ⟨b1, c1, rfl, hW, hO, k2⟩
        have HW := Lib.hid hW
        have HO := Lib.hid hO
        have K2 : Hid (Kept0 w w2) := K1.out.trans k2
        have hlw : w.heap.size ≤ w1.heap.size := K1.out.size
        have hl12 : w1.heap.size ≤ w2.heap.size := k2.size
        have Z2 := Lib.hid (Z1.out.kept0 k2)
        clear hW hO k2 a0 a1 a2 a3 Z1
        obtain ⟨a0, a1, a2, a3⟩ := Z2.out
        go_wp2_with fail
        refine (made_any R C 50 w2 (HB.out.kept0 K2.out) (by have := HR.out; omega) (by omega)).mono ?_
        rintro e w3 ⟨b2, c2, rfl, hW, hO, k3⟩
        have HX := Lib.hid hW
        have HOX := Lib.hid hO
        have hap : Hid (∀ i, c1.O i ∨ i = b1 → i < w2.heap.size) := by
          rintro i (h | h)
          · exact HW.out.vt.lt i h
          · rw [h]; exact HW.out.lt
        have HW3 := Lib.hid (HW.out.kept0 k3)
        have K3 : Hid (Kept0 w w3) := K2.out.trans k3
        clear hW hO k3 a0 a1 a2 a3 Z2 HW K2
        have e2 := HW3.out.c2
        go_wp2_with fail
        refine (feed_vt M1 hML1 HW3.out.vt (Nat.zero_le _)).mono ?_
        rintro e w4 ⟨rfl, h4, k4⟩
        have HW4 : Hid (WoIn w4 b1 c1 v1) := HW3.out.turn k4 (HV1.out ▸ h4)
        have HX4 := Lib.hid (HX.out.kept k4 (fun i hi e => by have := HOX.out i hi; have := hap.out i (Or.inl e); omega) HW3.out.vt.apart.2.2.2.2.2)
        have K4 : Hid (Kept0 w w4) := K3.out.later k4 (fun i hi e => by have := HO.out i (Or.inl e); omega)
        clear h4 k4 e2 HW3 HX K3
        have e2 := HX4.out.c2
        go_wp2_with fail
        refine (feed_vt M2 hML2 HX4.out.vt (Nat.zero_le _)).mono ?_
        rintro e w5 ⟨rfl, h5, k5⟩
        have HX5 : Hid (WoIn w5 b2 c2 v2) := HX4.out.turn k5 (HV2.out ▸ h5)
        have HW5 := Lib.hid (HW4.out.kept k5 (fun i hi e => by have := HOX.out i (Or.inl e); have := hap.out i hi; omega) HX4.out.vt.apart.2.2.2.2.2)
        have K5 : Hid (Kept0 w w5) := K4.out.later k5 (fun i hi e => by have := HOX.out i (Or.inl e); omega)
        clear h5 k5 e2 HW4 HX4 K4 hcat1 hcat2 hno1 hno2
        go_wp2_with fail
        go_loopw [10, 11, 12, 13, 14, 15, 16] (fun s10 _ _ _ _ _ _ wr => ∃ k : Nat, k ≤ text.length ∧ s10 = .int .i64 (k : Int) ∧ Hid (Kept0 w5 wr)) (fun s10 _ _ _ _ _ _ _ => text.length - (Qu.num s10).toNat)
        case atStart => exact ⟨0, Nat.zero_le _, rfl, Kept.refl _ _⟩
        case round =>
          obtain ⟨k, hk, rfl, KR⟩ := hrel
          by_cases hlt : k < text.length
          · have hltS : k < (Qu.str text).size := by rw [q2]; exact hlt
            have hlt' : (k : Int) < (text.length : Int) := by omega
            have hge : (Qu.str text)[k]'hltS = text[k]'hlt := by simp [Qu.str, ByteArray.getElem_eq_getElem_data]
            obtain ⟨bt, hbt⟩ : ∃ bt, bt = text[k]'hlt := ⟨_, rfl⟩
            have hgd : text.getD k 0 = bt := by rw [List.getD_eq_getElem?_getD, List.getElem?_eq_getElem hlt, hbt]; rfl
            rw [← hbt] at hge
            have hplb : isPlain bt := HPl.out bt (by rw [hbt]; exact List.getElem_mem hlt)
            have h256 : bt.toNat < 256 := UInt8.toNat_lt bt
            have h256' : (bt.toNat : Int) < 256 := by omega
            obtain ⟨gv, hgv⟩ : ∃ gv : Nat, gv = Gl.refN 3 bt.toNat := ⟨_, rfl⟩
            obtain ⟨n, hbk⟩ := glyphG_back ⟨bt.toNat, h256⟩ hplb.1 hplb.2
            replace hbk : Gl.bk 3 (gv : Int) = some n := by rw [hgv]; exact hbk
            obtain ⟨m1, m2, m3, m4⟩ := Gl.bk_some hbk
            have hat1 : Hid (atX v1.z.R v1.z.C v1.z.F 0 k = ⟨(gv : Int), 0, false, 0⟩ ∧ atE v1.z.R v1.z.C 0 k = 0) := by
              obtain ⟨f1, f2, f3, f4⟩ := HF.out.1
              have hin : (0 : Int) ≤ 0 ∧ (0 : Int) < (v1.z.R : Int) ∧ (0 : Int) ≤ (k : Int) ∧ (k : Int) < (v1.z.C : Int) := by
                rw [f1, f2]; have := HR.out; omega
              refine ⟨?_, if_pos hin⟩
              have h5 := f4 k hlt
              rw [hgd, ← hgv] at h5
              rw [show atX v1.z.R v1.z.C v1.z.F 0 k = v1.z.F (idx v1.z.C 0 k) from if_pos hin, show idx v1.z.C 0 k = k by simp [idx], h5]
            have hat2 : Hid (atX v2.z.R v2.z.C v2.z.F 0 k = ⟨(bt.toNat : Int), 0, false, 0⟩ ∧ atE v2.z.R v2.z.C 0 k = 0) := by
              obtain ⟨f1, f2, f3, f4⟩ := HF.out.2
              have hin : (0 : Int) ≤ 0 ∧ (0 : Int) < (v2.z.R : Int) ∧ (0 : Int) ≤ (k : Int) ∧ (k : Int) < (v2.z.C : Int) := by
                rw [f1, f2]; have := HR.out; omega
              refine ⟨?_, if_pos hin⟩
              have h5 := f4 k hlt
              rw [hgd] at h5
              rw [show atX v2.z.R v2.z.C v2.z.F 0 k = v2.z.F (idx v2.z.C 0 k) from if_pos hin, show idx v2.z.C 0 k = k by simp [idx], h5]
            have hof1 : Hid (∀ w', Calls Tryd.prog 19 #[.int .i64 3, .int .u8 (bt.toNat : Int)] w' fun e w'' => e = .returned (.int .i32 (gv : Int)) ∧ Kept0 w' w'') := fun w' => by rw [hgv]; exact Gl.of_any 3 bt.toNat h256 w'
            have hof2 : Hid (∀ w', Calls Tryd.prog 19 #[.int .i64 3, .int .u8 (n : Int)] w' fun e w'' => e = .returned (.int .i32 (gv : Int)) ∧ Kept0 w' w'') := fun w' => by rw [← m3]; exact Gl.of_any 3 n m2 w'
            have hbc : Hid (∀ w', Calls Tryd.prog 20 #[.int .i64 3, .int .i32 (gv : Int)] w' fun e w'' => e = .returned (.tuple #[.int .u8 (n : Int), .bool true]) ∧ Kept0 w' w'') := fun w' => by
              have := Gl.back_any 3 (gv : Int) w'
              rw [hbk] at this
              exact this
            have HW6 := Lib.hid (HW5.out.kept0 KR.out)
            have HX6 := Lib.hid (HX5.out.kept0 KR.out)
            have hwr : IntKind.i32.wrap (bt.toNat : Int) = (bt.toNat : Int) := by rw [IntKind.wrap_i32]; omega
            clear hbt hgd hplb hgv hbk m1 m2 m3 m4
            have e0 := HW6.out.c0
            go_wp2_with fail
            refine (vat HW6.out.vt 0 k).mono ?_
            rintro e w7 ⟨rfl, k7⟩
            rw [hat1.out.1, hat1.out.2]
            have HX7 := Lib.hid (HX6.out.kept0 k7)
            have K7 : Hid (Kept0 w5 w7) := KR.out.trans k7
            clear k7 e0 HW6 HX6 KR hat1
            go_upto_region 18 with fail
            obtain ⟨W7, hW7⟩ : ∃ W7, W7 = w7.alloc (.cells #[.int .i32 (gv : Int), .int .i64 0, .bool false, .int .i64 0] 48) := ⟨_, rfl⟩
            have k7 : Kept0 w7 W7 := by rw [hW7]; exact (Kept.refl _ w7).alloc _
            have X7 : Hid (CelAt W7 w7.heap.size ⟨(gv : Int), 0, false, 0⟩) := by rw [hW7]; exact CelAt.new w7 ⟨(gv : Int), 0, false, 0⟩ 48
            have K8 : Hid (Kept0 w5 W7) := K7.out.trans k7
            have HX8 := Lib.hid (HX7.out.kept0 k7)
            rw [← hW7]
            clear hW7 k7 K7 HX7
            obtain ⟨p1, hp1⟩ : ∃ p1, p1 = w7.heap.size := ⟨_, rfl⟩
            rw [← hp1] at X7 ⊢
            clear hp1
            have e0 := HX8.out.c0
            go_wp2_with fail
            refine (vat HX8.out.vt 0 k).mono ?_
            rintro e w9 ⟨rfl, k9⟩
            rw [hat2.out.1, hat2.out.2]
            have K9 : Hid (Kept0 w5 w9) := K8.out.trans k9
            have X9 : Hid (CelAt w9 p1 ⟨(gv : Int), 0, false, 0⟩) := X7.out.kept k9 (fun e => e)
            clear k9 e0 HX8 K8 X7 hat2
            go_upto_region 19 with fail
            obtain ⟨W9, hW9⟩ : ∃ W9, W9 = w9.alloc (.cells #[.int .i32 (bt.toNat : Int), .int .i64 0, .bool false, .int .i64 0] 48) := ⟨_, rfl⟩
            have k9 : Kept0 w9 W9 := by rw [hW9]; exact (Kept.refl _ w9).alloc _
            have Y9 : Hid (CelAt W9 w9.heap.size ⟨(bt.toNat : Int), 0, false, 0⟩) := by rw [hW9]; exact CelAt.new w9 ⟨(bt.toNat : Int), 0, false, 0⟩ 48
            have X10 : Hid (CelAt W9 p1 ⟨(gv : Int), 0, false, 0⟩) := X9.out.kept k9 (fun e => e)
            have K10 : Hid (Kept0 w5 W9) := K9.out.trans k9
            rw [← hW9]
            clear hW9 k9 K9 X9
            obtain ⟨p2, hp2⟩ : ∃ p2, p2 = w9.heap.size := ⟨_, rfl⟩
            rw [← hp2] at Y9 ⊢
            clear hp2
            have x0 := X10.out.c0
            have y0 := Y9.out.c0
            go_region_held3 (fun w' => w'.cell? ⟨p1, 0, none⟩ = some (.int .i32 (gv : Int)) ∧ w'.cell? ⟨p2, 0, none⟩ = some (.int .i32 (bt.toNat : Int))) (go_keep)
              (first
                | (go_at_call 19; refine (hof1.out _).mono ?_; rintro e wA ⟨rfl, kA⟩; have kn : Hid (Kept0 W9 wA) := (Kept.refl _ W9).drew.trans kA; have z0 := kcell kn.out x0; have z1 := kcell kn.out y0))
            all_goals
              have K11 : Hid (Kept0 w5 wA) := K10.out.trans kn.out
              clear kA kn x0 y0 X10 Y9 hof1 K10
              go_wp2_with fail
              refine (hbc.out _).mono ?_
              rintro e wB ⟨rfl, kB⟩
              have K12 : Hid (Kept0 w5 wB) := K11.out.trans kB
              have x0 := kcell kB z0
              clear kB z0 z1 K11 hbc
              go_wp2_with fail
              go_region_held3 (fun w' => w'.cell? ⟨p1, 0, none⟩ = some (.int .i32 (gv : Int))) (go_keep)
                (first
                  | (go_at_call 19; refine (hof2.out _).mono ?_; rintro e wC ⟨rfl, kC⟩; have kn : Hid (Kept0 wB wC) := (Kept.refl _ wB).drew.trans kC; have z0 := kcell kn.out x0))
              all_goals
                have K13 : Hid (Kept0 w5 wC) := K12.out.trans kn.out
                clear kC kn x0 hof2 K12
                go_wp2_with fail
                go_roundw
                case rel => exact ⟨k + 1, Nat.succ_le_of_lt hlt, by go_num, K13⟩
                case measure => simp [Qu.num]; omega
          · have hlt' : ¬ (k : Int) < (text.length : Int) := by omega
            have HW6 := Lib.hid (HW5.out.kept0 KR.out)
            have HX6 := Lib.hid (HX5.out.kept0 KR.out)
            have K6 : Hid (Kept0 w wr) := K5.out.trans KR.out
            have g1 : v1.g = true := HF.out.1.2.2.1
            have g2 : v2.g = false := HF.out.2.2.2.1
            have hfd : ∀ (b1 b2 b3 : Bool) w', (Instr.field 36 (.agg #[.bool b1, .bool b2, .bool b3]) 0).run Tryd.prog w' = .ok (.bool b1) w' := fun _ _ _ _ => by kernel_rfl
            have e2 := HW6.out.c2
            go_wp2_with fail
            refine (modes_vt HW6.out.vt).mono ?_
            rintro e w7 ⟨rfl, k7⟩
            have HX7 := Lib.hid (HX6.out.kept0 k7)
            have K7 : Hid (Kept0 w w7) := K6.out.trans k7
            clear k7 e2 HW6 HX6 K6
            have e2 := HX7.out.c2
            go_wp2_with fail
            refine (modes_vt HX7.out.vt).mono ?_
            rintro e w8 ⟨rfl, k8⟩
            have K8 : Hid (Kept0 w w8) := K7.out.trans k8
            clear k8 e2 HX7 K7
            go_wp2_with fail
            refine (awake_any _ (HB.out.kept0 K8.out)).mono ?_
            rintro e w10 ⟨rfl, k10⟩
            have K10 : Hid (Kept0 w w10) := K8.out.trans k10
            clear k10
            go_wp2_with fail
            go_ret
            exact ⟨rfl, Kept0.below K10.out⟩
  · go_wp2_with fail
    refine (small_no hs _).mono ?_
    rintro e w1 ⟨rfl, k1⟩
    have K1 : Hid (Kept0 w w1) := K0.out.trans k1
    clear k1 a0 a1 a2 a3
    go_wp2_with fail
    refine (awake_any _ (HB.out.kept0 K1.out)).mono ?_
    rintro e w9 ⟨rfl, k9⟩
    have K9 := Lib.hid (K1.out.trans k9)
    clear k9
    go_wp2_with fail
    go_ret
    exact ⟨rfl, Kept0.below K9.out⟩
end Go.Proofs.YtlhajbcabpfbkaaDoor
