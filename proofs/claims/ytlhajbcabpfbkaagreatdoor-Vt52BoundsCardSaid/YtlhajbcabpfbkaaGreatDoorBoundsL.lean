/-
  The law Vt52Bounds.
-/
import Derived.Test.YtlhajbcabpfbkaaGreatDoorVtU
namespace Go.Proofs.YtlhajbcabpfbkaaGreatDoor
open Go.RowKit
attribute [local go_sem] Oper.semAt_some

theorem str_of (s : ByteArray) : ∃ l, s = Qu.str l := ⟨s.data.toList, by cases s; simp [Qu.str]⟩
theorem str_nil : (⟨#[]⟩ : ByteArray) = Qu.str [] := rfl
theorem RowsAt.kept0 {w w' : World} {B l R C : Nat} {f : Nat → Nat → Cel} (h : RowsAt w B l R C f) (k : Kept0 w w') : RowsAt w' B l R C f :=
  ⟨fun i hi => by
    obtain ⟨t, cap, h1, h2, h3, h4, h5⟩ := h.len i hi
    exact ⟨t, cap, kcell k h1, h2, h3, h4, h5.kept k (fun e => e)⟩⟩

set_option maxRecDepth 100000 in
set_option maxHeartbeats 8000000 in
theorem bounds_calls (x0 y0 : Int) (s1 s2 : ByteArray) (w : World) (hb : Blank w) : Calls Tryz.prog 4 #[pos x0 y0, .string s1, .string s2] w fun e w' => e = .returned (.bool true) ∧ Below w.heap.size w w' := by
  have HB := Lib.hid hb
  clear hb
  obtain ⟨text, rfl⟩ := str_of s1
  obtain ⟨next, rfl⟩ := str_of s2
  have q1 : (Qu.str text).size = text.length := Qu.str_size _
  have q2 : (Qu.str next).size = next.length := Qu.str_size _
  go_enter Tryz.func4, Tryz.ntmps4
  go_upto_region 1 with fail
  obtain ⟨w0, hw0⟩ : ∃ w0, w0 = w.alloc (.cells #[.int .i64 x0, .int .i64 y0] 23) := ⟨_, rfl⟩
  have k0 : Kept0 w w0 := by rw [hw0]; exact (Kept.refl _ w).alloc _
  have z0 : Two w0 w.heap.size x0 y0 := by rw [hw0]; exact Two.of (heap_new _ _)
  have hl0 : w.heap.size < w0.heap.size := by rw [hw0]; simp
  rw [← hw0]
  clear hw0
  have Z0 := Lib.hid z0
  have K0 := Lib.hid k0
  clear k0
  obtain ⟨a0, a1, a2, a3⟩ := z0
  by_cases hs : 1 ≤ x0 ∧ x0 ≤ 30 ∧ 1 ≤ y0 ∧ y0 ≤ 40
  · go_wp2_with fail
    refine (small_yes hs _).mono ?_
    rintro e w1 ⟨rfl, k1⟩
    have K1 : Hid (Kept0 w w1) := K0.out.trans k1
    have Z1 := Lib.hid (Z0.out.kept0 k1)
    clear k1 a0 a1 a2 a3
    obtain ⟨a0, a1, a2, a3⟩ := Z1.out
    by_cases h1 : 600 < text.length
    · have h1' : (600 : Int) < (text.length : Int) := by omega
      go_wp2_with fail
      refine (awake_any _ (HB.out.kept0 K1.out)).mono ?_
      rintro e w9 ⟨rfl, k9⟩
      have K9 := Lib.hid (K1.out.trans k9)
      clear k9
      go_wp2_with fail
      go_ret
      exact ⟨rfl, Kept0.below K9.out⟩
    by_cases h2 : 100 < next.length
    · have h1' : ¬ (600 : Int) < (text.length : Int) := by omega
      have h2' : (100 : Int) < (next.length : Int) := by omega
      go_wp2_with fail
      refine (awake_any _ (HB.out.kept0 K1.out)).mono ?_
      rintro e w9 ⟨rfl, k9⟩
      have K9 := Lib.hid (K1.out.trans k9)
      clear k9
      go_wp2_with fail
      go_ret
      exact ⟨rfl, Kept0.below K9.out⟩
    obtain ⟨R, rfl⟩ : ∃ R : Nat, x0 = R := ⟨x0.toNat, by omega⟩
    obtain ⟨C, rfl⟩ : ∃ C : Nat, y0 = C := ⟨y0.toNat, by omega⟩
    have h1' : ¬ (600 : Int) < (text.length : Int) := by omega
    have h2' : ¬ (100 : Int) < (next.length : Int) := by omega
    have hR : 1 ≤ R ∧ R ≤ 30 ∧ 1 ≤ C ∧ C ≤ 40 ∧ text.length ≤ 600 ∧ next.length ≤ 100 := by omega
    have HR := Lib.hid hR
    clear hR hs h1 h2
    go_wp2_with fail
    refine (made_any R C 50 w1 (HB.out.kept0 K1.out) (by have := HR.out; omega) (by omega)).mono ?_
    rintro e w2 ⟨b, a, rfl, hW, hO, k2⟩
    have HW := Lib.hid hW
    have HO := Lib.hid hO
    have K2 : Hid (Kept0 w w2) := K1.out.trans k2
    have K2w := Lib.hid k2
    have hlw : w.heap.size < w1.heap.size := Z1.out.lt
    have ht600 : text.length ≤ 600 := HR.out.2.2.2.2.1
    have hn100 : next.length ≤ 100 := HR.out.2.2.2.2.2
    clear hW hO k2 a0 a1 a2 a3 h1' h2'
    obtain ⟨v0, hv0⟩ : ∃ v0, v0 = newV R C 50 := ⟨_, rfl⟩
    rw [← hv0] at HW
    have F0 : Hid (Flat v0 ∧ v0.z.R = R ∧ v0.z.C = C) := by rw [hv0]; exact ⟨flat_new 50 HR.out.1 HR.out.2.2.1, rfl, rfl⟩
    clear hv0
    go_wp2_with fail
    go_loopw [9, 10, 11] (fun s9 s10 s11 wr => ∃ k : Nat, k ≤ text.length ∧ s9 = .int .i64 (k : Int) ∧ Hid (WoIn wr b a (feedV (text.take k) v0)) ∧ Hid (Kept0 w1 wr)) (fun s9 _ _ _ => text.length - (Qu.num s9).toNat)
    case atStart => exact ⟨0, Nat.zero_le _, rfl, HW.out, K2w⟩
    case round =>
      obtain ⟨k, hk, rfl, hWr, kr⟩ := hrel
      have Hdim : Hid ((feedV (text.take k) v0).z.R = R ∧ (feedV (text.take k) v0).z.C = C) := by
        have := feed_dims (text.take k) v0
        exact ⟨this.1.trans F0.out.2.1, this.2.trans F0.out.2.2⟩
      have Hfl : Hid (Flat (feedV (text.take k) v0)) := flat_feed F0.out.1
      by_cases hlt : k < text.length
      · obtain ⟨y, hy⟩ : ∃ y, y = feedV (text.take k) v0 := ⟨_, rfl⟩
        obtain ⟨bt, hbt⟩ : ∃ bt, bt = text[k] := ⟨_, rfl⟩
        have HS : Hid (feedV (text.take (k + 1)) v0 = feedV [bt] y) := by rw [hy, hbt]; exact feed_step hlt v0
        rw [← hy] at hWr Hdim Hfl
        have hex : (Qu.str text).extract k (k + 1) = Qu.str [bt] := by rw [hbt]; exact str_part text k hlt
        have hltS : k < (Qu.str text).size := by rw [q1]; exact hlt
        have hlt' : (k : Int) < (text.length : Int) := by omega
        have hsl : ∀ w', (Instr.slice 9 (.string (Qu.str text)) (some (.int .i64 (k : Int))) (some (.int .i64 ((k : Int) + 1))) none).run Tryz.prog w' = .ok (.string (Qu.str [bt])) w' := by
          have h := slice_any (Qu.str text) k hltS
          rwa [hex] at h
        have hwr : IntKind.i64.wrap ((k : Int) + 1) = (k : Int) + 1 := wrap_one k (Nat.le_trans (Nat.le_of_lt hlt) (Nat.le_trans ht600 (by decide)))
        have b2 := hWr.out.c2
        clear hy hbt hex
        go_wp2_with fail
        go_still_tail 9, (by kernel_rfl)
        repeat still_step
        change wpList _ _ _ _ _ wr.drew
        obtain ⟨wa, hwa⟩ : ∃ wa, wa = wr.drew := ⟨_, rfl⟩
        have ka : Kept0 wr wa := by rw [hwa]; exact (Kept.refl _ wr).drew
        rw [← hwa]
        clear hwa hsl hwr
        have hWa := Lib.hid (hWr.out.kept0 ka)
        have KA : Hid (Kept0 w1 wa) := kr.out.trans ka
        replace b2 := hWa.out.c2
        clear ka kr hWr
        go_wp2_with fail
        refine (feed_vt [bt] (by simp) hWa.out.vt Hfl.out.pre).mono ?_
        rintro e w3 ⟨rfl, h3, k3⟩
        obtain ⟨y', hy'⟩ : ∃ y', y' = feedV [bt] y := ⟨_, rfl⟩
        rw [← hy'] at h3 HS
        have Hf' : Hid (Flat y' ∧ y'.z.R = R ∧ y'.z.C = C) := by
          rw [hy']
          have := feed_dims [bt] y
          exact ⟨flat_feed Hfl.out, this.1.trans Hdim.out.1, this.2.trans Hdim.out.2⟩
        have HW3 : Hid (WoIn w3 b a y') := hWa.out.turn k3 h3
        have K3 : Hid (Kept0 w1 w3) := KA.out.later k3 (fun i hi e => by have := HO.out i (Or.inl e); omega)
        clear h3 k3 hWa KA hy' Hfl Hdim b2
        have b0 := HW3.out.c0
        go_wp2_with fail
        refine (vcur HW3.out.vt).mono ?_
        rintro e w4 ⟨rfl, k4⟩
        have HW4 := Lib.hid (HW3.out.kept0 k4)
        have K4 : Hid (Kept0 w1 w4) := K3.out.trans k4
        clear k4 b0 HW3 K3
        go_upto_region 11 with fail
        obtain ⟨W4, hW4⟩ : ∃ W4, W4 = w4.alloc (.cells #[.int .i64 y'.z.r, .int .i64 y'.z.c] 45) := ⟨_, rfl⟩
        have k4 : Kept0 w4 W4 := by rw [hW4]; exact (Kept.refl _ w4).alloc _
        have P4 : Hid (Two W4 w4.heap.size y'.z.r y'.z.c) := by rw [hW4]; exact Two.of (heap_new _ _)
        have HW5 := Lib.hid (HW4.out.kept0 k4)
        have K5 : Hid (Kept0 w1 W4) := K4.out.trans k4
        rw [← hW4]
        clear hW4 k4 HW4 K4
        obtain ⟨p1, hp1'⟩ : ∃ p1, p1 = w4.heap.size := ⟨_, rfl⟩
        rw [← hp1'] at P4 ⊢
        clear hp1'
        obtain ⟨p10, p11, p12, p13⟩ := P4.out
        obtain ⟨a0, a1, a2, a3⟩ := Z1.out.kept0 K5.out
        have b2 := HW5.out.c2
        obtain ⟨g1, g2, g3, g4⟩ := Hf'.out.1.at'
        rw [Hf'.out.2.1] at g2
        rw [Hf'.out.2.2] at g4
        have n1 : ¬ y'.z.r < 0 := by omega
        have n2 : ¬ (R : Int) ≤ y'.z.r := by omega
        have n3 : ¬ y'.z.c < 0 := by omega
        have n4 : ¬ (C : Int) ≤ y'.z.c := by omega
        clear g1 g2 g3 g4
        go_wp2_with fail
        refine (pending_vt HW5.out.vt).mono ?_
        rintro e w6 ⟨rfl, k6⟩
        have HW6 := Lib.hid (HW5.out.kept0 k6)
        have K6 : Hid (Kept0 w1 w6) := K5.out.trans k6
        have q3 : (Qu.str y'.pre).size = y'.pre.length := Qu.str_size _
        have n5 : ¬ (3 : Int) < (y'.pre.length : Int) := by have := Hf'.out.1.pre; omega
        clear k6 b2 HW5 K5 P4 p10 p11 p12 p13 a0 a1 a2 a3
        go_wp2_with fail
        go_roundw
        case rel => exact ⟨k + 1, Nat.succ_le_of_lt hlt, by go_num, by rw [HS.out]; exact HW6.out, K6⟩
        case measure => simp [Qu.num]; omega
      · have hkt : k = text.length := by omega
        rw [hkt, List.take_length] at hWr Hdim Hfl
        obtain ⟨y, hy⟩ : ∃ y, y = feedV text v0 := ⟨_, rfl⟩
        rw [← hy] at hWr Hdim Hfl
        clear hy
        have hlt' : ¬ (k : Int) < (text.length : Int) := by omega
        have b0 := hWr.out.c0
        go_wp2_with fail
        refine (srows_any _ hWr.out.vt.scr).mono ?_
        rintro e w5 ⟨l, rfl, hl9, hro, k5⟩
        have HW5 := Lib.hid (hWr.out.kept0 k5)
        have K5 : Hid (Kept0 w1 w5) := kr.out.trans k5
        have HRo := Lib.hid hro
        have HCl : Hid (Clean y.z.F) := Hfl.out.cl
        obtain ⟨R', hR'⟩ : ∃ R', R' = y.z.R := ⟨_, rfl⟩
        obtain ⟨C', hC'⟩ : ∃ C', C' = y.z.C := ⟨_, rfl⟩
        have hR30 : R' ≤ 30 := by rw [hR', Hdim.out.1]; exact HR.out.2.1
        have hC40 : C' ≤ 40 := by rw [hC', Hdim.out.2]; exact HR.out.2.2.2.1
        rw [← hR', ← hC'] at HRo
        rw [← hR']
        clear k5 hro b0 hWr kr hl9 hlt hlt' hR' hC' hkt hk
        go_wp2_with fail
        go_loopw [13, 14, 15] (fun s13 s14 s15 wr => ∃ i : Nat, i ≤ R' ∧ s13 = .int .i64 (i : Int) ∧ Hid (Kept0 w5 wr)) (fun s13 _ _ _ => R' - (Qu.num s13).toNat)
        case atStart => exact ⟨0, Nat.zero_le _, rfl, Kept.refl _ _⟩
        case round =>
          obtain ⟨i, hi, rfl, kr⟩ := hrel
          by_cases hlt : i < R'
          · obtain ⟨t, cap, r1, r2, r3, r4, r5⟩ := (HRo.out.kept0 kr.out).len i hlt
            have R5 := Lib.hid r5
            have hlt' : (i : Int) < (R' : Int) := by omega
            have hcap : C' ≤ cap := r2
            clear r5 r3 r4
            go_wp2_with fail
            go_loopw [14, 15] (fun s14 s15 wq => ∃ j : Nat, j ≤ C' ∧ s14 = .int .i64 (j : Int) ∧ Hid (Kept0 wr wq)) (fun s14 _ _ => C' - (Qu.num s14).toNat)
            case atStart => exact ⟨0, Nat.zero_le _, rfl, Kept.refl _ _⟩
            case round =>
              obtain ⟨j, hj, rfl, kq⟩ := hrel
              have r1' := kcell kq.out r1
              by_cases hjl : j < C'
              · obtain ⟨x0, x1, x2, x3⟩ := (R5.out.kept kq.out (fun e => e)).cell hjl
                obtain ⟨e1, e2, e3⟩ := HCl.out (i * C' + j)
                rw [e1] at x1
                rw [e2] at x2
                rw [e3] at x3
                obtain ⟨gg, hgg⟩ : ∃ gg, gg = (y.z.F (i * C' + j)).g := ⟨_, rfl⟩
                rw [← hgg] at x0
                have hjl' : (j : Int) < (C' : Int) := by omega
                clear e1 e2 e3 hgg
                go_wp2_with fail
                go_roundw
                case rel => exact ⟨j + 1, Nat.succ_le_of_lt hjl, by go_num, kq.out.alloc _⟩
                case measure => simp [Qu.num]; omega
              · have hjc : j = C' := by omega
                have hjl' : ¬ (j : Int) < (C' : Int) := by omega
                go_wp2_with fail
                go_roundw
                case rel => exact ⟨i + 1, Nat.succ_le_of_lt hlt, by go_num, kr.out.trans kq.out⟩
                case measure => simp [Qu.num]; omega
          · have hlt' : ¬ (i : Int) < (R' : Int) := by omega
            have HW6 := Lib.hid (HW5.out.kept0 kr.out)
            have K6 : Hid (Kept0 w1 wr) := K5.out.trans kr.out
            have b2 := HW6.out.c2
            clear HRo hlt hi K5 HW5 HCl
            go_wp2_with fail
            refine (drop_vt HW6.out.vt).mono ?_
            rintro e w7 ⟨rfl, h7, k7⟩
            have HW7 : Hid (WoIn w7 b a { y with pre := [] }) := HW6.out.turn k7 h7
            have K7 : Hid (Kept0 w1 w7) := K6.out.later k7 (fun i hi e => by have := HO.out i (Or.inl e); omega)
            clear h7 k7 b2 HW6 K6 kr
            have b0 := HW7.out.c0
            go_wp2_with fail
            refine (vcur HW7.out.vt).mono ?_
            rintro e w8 ⟨rfl, k8⟩
            have HW8 := Lib.hid (HW7.out.kept0 k8)
            have K8 : Hid (Kept0 w1 w8) := K7.out.trans k8
            clear k8 b0 HW7 K7
            go_upto_region 25 with fail
            obtain ⟨W8, hW8⟩ : ∃ W8, W8 = w8.alloc (.cells #[.int .i64 y.z.r, .int .i64 y.z.c] 45) := ⟨_, rfl⟩
            have k8 : Kept0 w8 W8 := by rw [hW8]; exact (Kept.refl _ w8).alloc _
            have P8 : Hid (Two W8 w8.heap.size y.z.r y.z.c) := by rw [hW8]; exact Two.of (heap_new _ _)
            have hne8 : ¬ a.O w8.heap.size := fun e => by have := HW8.out.vt.lt _ e; omega
            have HW9 := Lib.hid (HW8.out.kept0 k8)
            have K9 : Hid (Kept0 w1 W8) := K8.out.trans k8
            rw [← hW8]
            clear hW8 k8 HW8 K8
            obtain ⟨p1, hp1'⟩ : ∃ p1, p1 = w8.heap.size := ⟨_, rfl⟩
            rw [← hp1'] at P8 hne8 ⊢
            clear hp1'
            have b2 := HW9.out.c2
            go_wp2_with fail
            refine (pending_vt HW9.out.vt).mono ?_
            rintro e wA ⟨rfl, kA⟩
            have HWA := Lib.hid (HW9.out.kept0 kA)
            have KA : Hid (Kept0 w1 wA) := K9.out.trans kA
            have PA := Lib.hid (P8.out.kept0 kA)
            clear kA b2 HW9 K9 P8
            obtain ⟨M, hM⟩ : ∃ M : List UInt8, M = [27, 71, 126] ++ next := ⟨_, rfl⟩
            have hcat : (⟨#[27, 71, 126]⟩ : ByteArray) ++ Qu.str next = Qu.str M := by rw [hM]; exact Qu.str_append [27, 71, 126] next
            have hno : ¬ 9223372036854775807 < 3 + next.length := by omega
            have hML : M.length ≤ 140737488351232 := by rw [hM]; simp; omega
            have HM := Lib.hid hM
            clear hM
            have b2 := HWA.out.c2
            go_wp2_with fail
            refine (feed_vt M hML HWA.out.vt (Nat.zero_le _)).mono ?_
            rintro e wB ⟨rfl, hB, kB⟩
            have HWB : Hid (WoIn wB b a (feedV M { y with pre := [] })) := HWA.out.turn kB hB
            have KB : Hid (Kept0 w1 wB) := KA.out.later kB (fun i hi e => by have := HO.out i (Or.inl e); omega)
            have PB := Lib.hid (PA.out.kept kB hne8)
            clear kB hB b2 hcat hno HWA KA PA
            by_cases hnx : next = []
            · subst hnx
              have hat : Hid (atX (feedV M { y with pre := [] }).z.R (feedV M { y with pre := [] }).z.C (feedV M { y with pre := [] }).z.F y.z.r y.z.c = ⟨126, 0, false, 0⟩ ∧ atE (feedV M { y with pre := [] }).z.R (feedV M { y with pre := [] }).z.C y.z.r y.z.c = 0) := by
                have hd := feed_dims M { y with pre := [] }
                have hin : (0 : Int) ≤ y.z.r ∧ y.z.r < ((feedV M { y with pre := [] }).z.R : Int) ∧ (0 : Int) ≤ y.z.c ∧ y.z.c < ((feedV M { y with pre := [] }).z.C : Int) := by
                  rw [hd.1, hd.2]; exact Hfl.out.at'
                refine ⟨?_, if_pos hin⟩
                have ht := tilde_fact Hfl.out
                rw [show atX (feedV M { y with pre := [] }).z.R (feedV M { y with pre := [] }).z.C (feedV M { y with pre := [] }).z.F y.z.r y.z.c = (feedV M { y with pre := [] }).z.F (idx (feedV M { y with pre := [] }).z.C y.z.r y.z.c) from if_pos hin, hd.2, HM.out]
                exact ht
              have b0 := HWB.out.c0
              obtain ⟨p10, p11, p12, p13⟩ := PB.out
              have e0 : Qu.str [] = (⟨#[]⟩ : ByteArray) := rfl
              simp only [e0]
              go_wp2_with fail
              obtain ⟨WQ, hWQ⟩ : ∃ WQ, WQ = wB.alloc (.cells #[.int .i32 0, .int .i64 0, .bool false, .int .i64 0] 52) := ⟨_, rfl⟩
              have kQ : Kept0 wB WQ := by rw [hWQ]; exact (Kept.refl _ wB).alloc _
              have ho : CelW WQ wB.heap.size zc := by rw [hWQ]; exact CelW.new wB zc 52
              have hqb : w.heap.size ≤ wB.heap.size := Nat.le_trans (Nat.le_of_lt hlw) KB.out.size
              have hps : p1 < wB.heap.size := PB.out.lt
              have hbs : b < wB.heap.size := HWB.out.lt
              have HWQ := Lib.hid hWQ
              clear hWQ
              obtain ⟨q, hq⟩ : ∃ q, q = wB.heap.size := ⟨_, rfl⟩
              rw [← hq] at ho hqb hps hbs
              have b0Q := kcell kQ b0
              have p10Q := kcell kQ p10
              have p11Q := kcell kQ p11
              have HQQ := Lib.hid hq
              clear hq
              have HQ := Lib.hid ho
              have KQ := Lib.hid kQ
              have lo := ho.lt
              have n1 : ¬ b = q := by omega
              have n2 : ¬ q = b := by omega
              have n3 : ¬ p1 = q := by omega
              have n4 : ¬ q = p1 := by omega
              clear ho kQ p12 p13
              go_region_held3 (fun w' => w'.cell? ⟨b, 0, none⟩ = some (ptr a.s) ∧ w'.cell? ⟨p1, 0, none⟩ = some (.int .i64 y.z.r) ∧ w'.cell? ⟨p1, 1, none⟩ = some (.int .i64 y.z.c)) (go_keep)
                (first
                  | (go_at_call 20; rw [← HQQ.out, ← HWQ.out]; refine (vat (HWB.out.kept0 (Kept.drew KQ.out)).vt y.z.r y.z.c).mono ?_; rintro e wC ⟨rfl, kC⟩; rw [hat.out.1, hat.out.2]; have kn : Hid (Kept0 WQ wC) := (Kept.refl _ WQ).drew.trans kC; have KC : Hid (Kept0 w wC) := K1.out.trans (KB.out.trans (KQ.out.trans kn.out)); have z0 := kcell kn.out b0Q; have z1 := kcell kn.out p10Q; have z2 := kcell kn.out p11Q; obtain ⟨⟨o0, o1, o2, o3⟩, f0, f1, f2, f3⟩ := HQ.out.kept kn.out (fun e => e))
                  | (go_at_call 20; refine (vat (HWB.out.kept0 (Kept.drew (Kept.refl _ wB))).vt y.z.r y.z.c).mono ?_; rintro e wC ⟨rfl, kC⟩; rw [hat.out.1, hat.out.2]; have kn : Hid (Kept0 wB wC) := (Kept.refl _ wB).drew.trans kC; have KC : Hid (Kept0 w wC) := K1.out.trans (KB.out.trans kn.out); have z0 := kcell kn.out b0; have z1 := kcell kn.out p10; have z2 := kcell kn.out p11; have hqc : w.heap.size ≤ wC.heap.size := KC.out.size))
              all_goals
                first
                | (have hA := hqc
                   clear hat HWB KB PB HQ KQ
                   go_upto_region 29 with fail
                   obtain ⟨WC, hWC⟩ : ∃ WC, WC = wC.alloc (.cells #[.int .i32 126, .int .i64 0, .bool false, .int .i64 0] 52) := ⟨_, rfl⟩
                   have kC : Kept0 wC WC := by rw [hWC]; exact (Kept.refl _ wC).alloc _
                   have x9 : CelAt WC wC.heap.size ⟨126, 0, false, 0⟩ := by rw [hWC]; exact CelAt.new wC ⟨126, 0, false, 0⟩ 52
                   obtain ⟨o0, o1, o2, o3⟩ := x9
                   have KD : Hid (Kept0 w WC) := KC.out.trans kC
                   rw [← hWC]
                   clear hWC kC KC
                   go_wp2_with fail
                   refine (awake_any _ (HB.out.kept0 KD.out)).mono ?_
                   rintro e wE ⟨rfl, kE⟩
                   have KE := Lib.hid (KD.out.trans kE)
                   clear kE
                   go_wp2_with fail
                   go_ret
                   exact ⟨rfl, Kept0.below KE.out⟩)
                | (have hA := o0
                   clear hat HWB KB PB HQ KQ
                   go_wp2_with fail
                   refine (awake_any _ (HB.out.kept0 ((((KC.out.setCell _ (Or.inl hqb) _).setCell _ (Or.inl hqb) _).setCell _ (Or.inl hqb) _).setCell _ (Or.inl hqb) _))).mono ?_
                   rintro e wE ⟨rfl, kE⟩
                   have KE : Hid (Kept0 w wE) := ((((KC.out.setCell _ (Or.inl hqb) _).setCell _ (Or.inl hqb) _).setCell _ (Or.inl hqb) _).setCell _ (Or.inl hqb) _).trans kE
                   clear kE
                   go_wp2_with fail
                   go_ret
                   exact ⟨rfl, Kept0.below KE.out⟩)
            · have hne : ¬ Qu.str next = ⟨#[]⟩ := fun e => hnx (by have := congrArg ByteArray.size e; rw [q2] at this; exact List.eq_nil_of_length_eq_zero (show next.length = 0 from this))
              have hE : (Qu.str next).toList.isEmpty = false := by
                rw [ByteArray.toList_eq]
                show next.isEmpty = false
                cases next with
                | nil => exact absurd rfl hnx
                | cons _ _ => rfl
              have KD : Hid (Kept0 w wB) := K1.out.trans KB.out
              have e0 : Qu.str [] = (⟨#[]⟩ : ByteArray) := rfl
              simp only [e0]
              clear HWB KB PB
              go_wp2_with fail
              refine (awake_any _ (HB.out.kept0 KD.out)).mono ?_
              rintro e wE ⟨rfl, kE⟩
              have KE := Lib.hid (KD.out.trans kE)
              clear kE
              go_wp2_with fail
              go_ret
              exact ⟨rfl, Kept0.below KE.out⟩
  · go_wp2_with fail
    refine (small_no hs _).mono ?_
    rintro e w1 ⟨rfl, k1⟩
    have K1 : Hid (Kept0 w w1) := K0.out.trans k1
    clear k1 a0 a1 a2 a3
    go_wp2_with fail
    refine (awake_any _ (HB.out.kept0 K1.out)).mono ?_
    rintro e w9 ⟨rfl, k9⟩
    have K9 := Lib.hid (K1.out.trans k9)
    clear k9
    go_wp2_with fail
    go_ret
    exact ⟨rfl, Kept0.below K9.out⟩
end Go.Proofs.YtlhajbcabpfbkaaGreatDoor
