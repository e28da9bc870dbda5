/-
  The law Vt52Plays.
-/
import Derived.Test.YtlhajbcabpfbkaaGreatDoorVwD
import Derived.Test.YtlhajbcabpfbkaaGreatDoorQuRgD
namespace Go.Proofs.YtlhajbcabpfbkaaGreatDoor
open Go.RowKit
attribute [local go_sem] Oper.semAt_some

def TxtsIn (w : World) (a : Option Addr) (l : List ByteArray) : Prop := ∀ (i : Nat) (s : ByteArray), l[i]? = some s → ∃ b off, a = some ⟨b, off, none⟩ ∧ w.cell? ⟨b, off + i, none⟩ = some (.string s)
theorem TxtsIn.kept0 {w w' : World} {a : Option Addr} {l : List ByteArray} (h : TxtsIn w a l) (k : Kept0 w w') : TxtsIn w' a l := fun i s hs => by
  obtain ⟨b, off, e, hc⟩ := h i s hs
  exact ⟨b, off, e, kcell k hc⟩
theorem empty_yes : (Qu.str []).toList.isEmpty = true := by rw [ByteArray.toList_eq]; rfl
theorem empty_no {t : List UInt8} (h : t ≠ []) : (Qu.str t).toList.isEmpty = false := by
  rw [ByteArray.toList_eq]
  show t.isEmpty = false
  cases t with
  | nil => exact absurd rfl h
  | cons _ _ => rfl

/-- The program's terminal and the document's, in the same state. -/
structure In2 (w : World) (M B b x n : Nat) (a : Bl) (v : Vt) : Prop where
  wo : WoIn w b a v
  rf : ∃ lb, B ≤ lb ∧ RefIn w x lb n v
  fl : Flat v
  po : PreOk v
  lo : ∀ i, a.O i ∨ i = b → M ≤ i ∧ i < B
  hx : B ≤ x
  h0 : 0 < M
namespace In2
variable {w w' : World} {M B b x n : Nat} {a : Bl} {v v' : Vt}
/-- The program's is turned. -/
theorem code (h : In2 w M B b x n a v) (k : Kept a.O w w') (hv : VtIn w' a v') : WoIn w' b a v' ∧ ∃ lb, B ≤ lb ∧ RefIn w' x lb n v := by
  obtain ⟨lb, hl, hr⟩ := h.rf
  exact ⟨h.wo.turn k hv, lb, hl, hr.kept k (fun e => by have := h.lo _ (Or.inl e); have := h.hx; omega) (fun e => by have := h.lo _ (Or.inl e); omega)⟩
theorem toM (h : In2 w M B b x n a v) (k : Kept a.O w w') : Kept (M ≤ ·) w w' := k.mono (fun i _ e => (h.lo i (Or.inl e)).1)
theorem both {w0 : World} (h : In2 w0 M B b x n a v) (hW : WoIn w b a v') (k : Kept (B ≤ ·) w w') (hr : ∃ lb, B ≤ lb ∧ RefIn w' x lb n v') (hf : Flat v') (hp : PreOk v') : In2 w' M B b x n a v' :=
  ⟨hW.kept k (fun i hi e => by have := h.lo i hi; omega) (fun e => by have := h.lo b (Or.inr rfl); omega), hr, hf, hp, h.lo, h.hx, h.h0⟩
theorem MB (h : In2 w M B b x n a v) : M ≤ B := by have := h.lo b (Or.inr rfl); omega
theorem kept0 (h : In2 w M B b x n a v) (k : Kept0 w w') : In2 w' M B b x n a v := by
  obtain ⟨lb, hl, hr⟩ := h.rf
  exact ⟨h.wo.kept0 k, ⟨lb, hl, hr.kept0 k⟩, h.fl, h.po, h.lo, h.hx, h.h0⟩
end In2

/-- What is asked at the end. -/
structure EndAt (w : World) (b : Nat) (a : Bl) (x : Nat) (v : Vt) : Prop where
  wo : WoIn w b a v
  cV : w.cell? ⟨x, 11, none⟩ = some (.bool v.over)
  cO : w.cell? ⟨x, 9, none⟩ = some (.string (Qu.str v.xs))
  nx : ¬ a.O x
namespace EndAt
variable {w w' : World} {b x : Nat} {a : Bl} {v : Vt}
theorem cells (h : EndAt w b a x v) : w.cell? ⟨b, 1, none⟩ = some (ptr a.q) ∧ w.cell? ⟨x, 11, none⟩ = some (.bool v.over) ∧ w.cell? ⟨x, 9, none⟩ = some (.string (Qu.str v.xs)) := ⟨h.wo.c1, h.cV, h.cO⟩
theorem kept0 (h : EndAt w b a x v) (k : Kept0 w w') : EndAt w' b a x v := ⟨h.wo.kept0 k, kcell k h.cV, kcell k h.cO, h.nx⟩
theorem drew (h : EndAt w b a x v) : EndAt w.drew b a x v := h.kept0 (Kept.refl _ w).drew
theorem drained (h : EndAt w b a x v) (k : Kept (fun i => i = a.q ∨ i = a.gq) w w') : w'.cell? ⟨b, 1, none⟩ = some (ptr a.q) ∧ w'.cell? ⟨x, 11, none⟩ = some (.bool v.over) ∧ w'.cell? ⟨x, 9, none⟩ = some (.string (Qu.str v.xs)) :=
  ⟨kcellS k h.wo.c1 (fun e => h.wo.nb (Or.inr (Or.inr e))), kcellS k h.cV (fun e => h.nx (Or.inr (Or.inr e))), kcellS k h.cO (fun e => h.nx (Or.inr (Or.inr e)))⟩
end EndAt

set_option maxRecDepth 100000 in
set_option maxHeartbeats 16000000 in
theorem plays_calls (x0 y0 : Int) (a0 : Option Addr) (cap : Nat) (l : List ByteArray) (most : Int) (w : World) (hb : Blank w) (hl : TxtsIn w a0 l) : Calls Tryz.prog 3 #[pos x0 y0, .slice a0 l.length cap, .int .i64 most] w fun e w' => e = .returned (.bool true) ∧ Below w.heap.size w w' := by
  have HB := Lib.hid hb
  have HL := Lib.hid hl
  clear hb hl
  go_enter Tryz.func3, Tryz.ntmps3
  go_upto_region 1 with fail
  obtain ⟨w0, hw0⟩ : ∃ w0, w0 = w.alloc (.cells #[.int .i64 x0, .int .i64 y0] 23) := ⟨_, rfl⟩
  have k0 : Kept0 w w0 := by rw [hw0]; exact (Kept.refl _ w).alloc _
  have z0 : Two w0 w.heap.size x0 y0 := by rw [hw0]; exact Two.of (heap_new _ _)
  rw [← hw0]
  clear hw0
  have Z0 := Lib.hid z0
  have K0 := Lib.hid k0
  clear k0
  obtain ⟨a0', a1, a2, a3⟩ := z0
  by_cases hs : 1 ≤ x0 ∧ x0 ≤ 30 ∧ 1 ≤ y0 ∧ y0 ≤ 40
  · go_wp2_with fail
    refine (small_yes hs _).mono ?_
    rintro e w1 ⟨rfl, k1⟩
    have K1 : Hid (Kept0 w w1) := K0.out.trans k1
    have Z1 := Lib.hid (Z0.out.kept0 k1)
    clear k1 a0' a1 a2 a3
    obtain ⟨a0', a1, a2, a3⟩ := Z1.out
    by_cases h1 : 20 < l.length
    · have h1' : (20 : Int) < (l.length : Int) := by omega
      go_wp2_with fail
      refine (awake_any _ (HB.out.kept0 K1.out)).mono ?_
      rintro e w9 ⟨rfl, k9⟩
      have K9 : Hid (Kept0 w w9) := K1.out.trans k9
      clear k9
      go_wp2_with fail
      go_ret
      exact ⟨rfl, Kept0.below K9.out⟩
    have h1' : ¬ (20 : Int) < (l.length : Int) := by omega
    by_cases h2 : most < 0
    · go_wp2_with fail
      refine (awake_any _ (HB.out.kept0 K1.out)).mono ?_
      rintro e w9 ⟨rfl, k9⟩
      have K9 : Hid (Kept0 w w9) := K1.out.trans k9
      clear k9
      go_wp2_with fail
      go_ret
      exact ⟨rfl, Kept0.below K9.out⟩
    by_cases h3 : 4096 < most
    · go_wp2_with fail
      refine (awake_any _ (HB.out.kept0 K1.out)).mono ?_
      rintro e w9 ⟨rfl, k9⟩
      have K9 : Hid (Kept0 w w9) := K1.out.trans k9
      clear k9
      go_wp2_with fail
      go_ret
      exact ⟨rfl, Kept0.below K9.out⟩
    obtain ⟨R, rfl⟩ : ∃ R : Nat, x0 = R := ⟨x0.toNat, by omega⟩
    obtain ⟨C, rfl⟩ : ∃ C : Nat, y0 = C := ⟨y0.toNat, by omega⟩
    obtain ⟨mo, rfl⟩ : ∃ mo : Nat, most = mo := ⟨most.toNat, by omega⟩
    have hR : 1 ≤ R ∧ R ≤ 30 ∧ 1 ≤ C ∧ C ≤ 40 ∧ mo ≤ 4096 := by omega
    have HR := Lib.hid hR
    clear hR hs h1
    go_wp2_with fail
    refine (made_any R C mo w1 (HB.out.kept0 K1.out) (by have := HR.out; omega) HR.out.2.2.2.2).mono ?_
    rintro e w2 ⟨b, a, rfl, hW, hO, k2⟩
    have HW := Lib.hid hW
    have HO := Lib.hid hO
    have K2w := Lib.hid k2
    have Z2 := Lib.hid (Z1.out.kept0 k2)
    clear hW hO k2 a0' a1 a2 a3
    obtain ⟨a0', a1, a2, a3⟩ := Z2.out
    go_wp2_with fail
    refine (rnew_any R C mo w2 (by have := HR.out; omega) (by have := HR.out; omega) HR.out.2.2.2.2).mono ?_
    rintro e w3 ⟨x, lb, rfl, hX, hx, hlb, k3⟩
    obtain ⟨n, hn⟩ : ∃ n, n = R * C := ⟨_, rfl⟩
    rw [← hn] at hX
    obtain ⟨M, hM⟩ : ∃ M, M = w1.heap.size := ⟨_, rfl⟩
    obtain ⟨B, hB⟩ : ∃ B, B = w2.heap.size := ⟨_, rfl⟩
    have hw1 : 0 < M := by have := Z1.out.lt; omega
    have hlwM : w.heap.size < M := hM ▸ Z1.out.lt
    have I3 : Hid (In2 w3 M B b x n a (newV R C mo)) := by
      refine ⟨HW.out.kept0 k3, ⟨lb, hB ▸ hlb, hX⟩, flat_new mo HR.out.1 HR.out.2.2.1, preOk_nil rfl, fun i hi => ⟨hM ▸ HO.out i hi, ?_⟩, hB ▸ hx, hw1⟩
      rw [hB]
      rcases hi with e | e
      · exact HW.out.vt.lt i e
      · rw [e]; exact HW.out.lt
    have K3 : Hid (Kept (M ≤ ·) w1 w3) := Kept0.to (K2w.out.trans k3)
    have hbp : ¬ b = 0 := by have := I3.out.lo b (Or.inr rfl); omega
    have HM : Hid (M = w1.heap.size) := hM
    clear k3 hX hx hlb hn hB hM HW HO K2w a0' a1 a2 a3 Z2 Z0 hw1
    obtain ⟨v0, hv0⟩ : ∃ v0, v0 = newV R C mo := ⟨_, rfl⟩
    rw [← hv0] at I3
    clear hv0
    go_wp2_with fail
    go_loopw [10] (fun s10 wr => ∃ i : Nat, i ≤ l.length ∧ s10 = .int .i64 (i : Int) ∧ (∃ v : Vt, Hid (In2 wr M B b x n a v)) ∧ Hid (Kept (M ≤ ·) w1 wr)) (fun s10 _ => l.length - (Qu.num s10).toNat)
    case atStart => exact ⟨0, Nat.zero_le _, rfl, ⟨v0, I3.out⟩, K3.out⟩
    case round =>
      obtain ⟨i, hi, rfl, ⟨v, hI⟩, kr⟩ := hrel
      have KR : Hid (Kept0 w wr) := K1.out.later kr.out (fun i hi e => by omega)
      by_cases hlt : i < l.length
      · obtain ⟨s, hs⟩ : ∃ s, l[i]? = some s := ⟨_, List.getElem?_eq_getElem hlt⟩
        obtain ⟨bb, off, rfl, hc⟩ := (HL.out.kept0 KR.out) i s hs
        obtain ⟨t, ht⟩ := str_of s
        have q1 : s.size = t.length := by rw [ht]; exact Qu.str_size _
        have hlt' : (i : Int) < (l.length : Int) := by omega
        have Ht := Lib.hid ht
        have Hs := Lib.hid hs
        clear hs ht
        by_cases hbig : 100 < t.length
        · have hbig' : (100 : Int) < (t.length : Int) := by omega
          go_wp2_with fail
          refine (awake_any _ (HB.out.kept0 KR.out)).mono ?_
          rintro e w9 ⟨rfl, k9⟩
          have K9 : Hid (Kept0 w w9) := KR.out.trans k9
          clear k9
          go_wp2_with fail
          go_ret
          exact ⟨rfl, Kept0.below K9.out⟩
        have hbig' : ¬ (100 : Int) < (t.length : Int) := by omega
        have ht100 : t.length ≤ 140737488351232 := by omega
        clear hbig
        by_cases he : t = []
        · have hE : s.toList.isEmpty = true := by rw [Ht.out, he]; exact empty_yes
          have c2 := hI.out.wo.c2
          go_wp2_with fail
          refine (reset_vt hI.out.wo.vt).mono ?_
          rintro e w7 ⟨rfl, h7, k7⟩
          have C7 := Lib.hid (hI.out.code k7 h7)
          have K7 : Hid (Kept (M ≤ ·) w1 w7) := kr.out.trans (hI.out.toM k7)
          clear h7 k7 c2
          go_wp2_with fail
          obtain ⟨lb7, hl7, hr7⟩ := C7.out.2
          refine (reset_any hr7 hI.out.fl hI.out.hx).mono ?_
          clear hr7 hl7
          rintro e w8 ⟨rfl, h8, k8⟩
          have I8 := Lib.hid (hI.out.both C7.out.1 k8 h8 (flat_reset hI.out.fl) (preOk_nil rfl))
          have K8 : Hid (Kept (M ≤ ·) w1 w8) := K7.out.trans (k8.mono (fun i _ e => Nat.le_trans hI.out.MB e))
          have KR8 : Hid (Kept0 w w8) := K1.out.later K8.out (fun i hi e => by omega)
          obtain ⟨_, _, ha, hc8⟩ := (HL.out.kept0 KR8.out) i s Hs.out
          obtain ⟨rfl, rfl⟩ : bb = _ ∧ off = _ := by simpa using ha
          have c2 := I8.out.wo.c2
          clear h8 k8 C7 K7 ha hc
          go_wp2_with fail
          go_still_tail 8, (by kernel_rfl)
          repeat still_step
          change wpList _ _ _ _ _ w8.drew
          have IA := Lib.hid (I8.out.kept0 (Kept.refl _ w8).drew)
          have KA : Hid (Kept (M ≤ ·) w1 w8.drew) := K8.out.drew
          obtain ⟨wa, hwa⟩ : ∃ wa, wa = w8.drew := ⟨_, rfl⟩
          rw [← hwa] at IA KA ⊢
          clear hwa
          have KRA : Hid (Kept0 w wa) := K1.out.later KA.out (fun i hi e => by omega)
          obtain ⟨_, _, ha, hca⟩ := (HL.out.kept0 KRA.out) i s Hs.out
          obtain ⟨rfl, rfl⟩ : bb = _ ∧ off = _ := by simpa using ha
          clear ha
          go_wp2_with fail
          have hf := feed_vt t ht100 IA.out.wo.vt IA.out.fl.pre
          rw [← Ht.out] at hf
          refine hf.mono ?_
          clear hf
          rintro e w4 ⟨rfl, h4, k4⟩
          have C4 := Lib.hid (IA.out.code k4 h4)
          have K4 : Hid (Kept (M ≤ ·) w1 w4) := KA.out.trans (IA.out.toM k4)
          have KR4 : Hid (Kept0 w w4) := K1.out.later K4.out (fun i hi e => by omega)
          obtain ⟨_, _, ha, hc4⟩ := (HL.out.kept0 KR4.out) i s Hs.out
          obtain ⟨rfl, rfl⟩ : bb = _ ∧ off = _ := by simpa using ha
          clear ha h4 k4 hca KRA
          go_wp2_with fail
          obtain ⟨lb4, hl4, hr4⟩ := C4.out.2
          have hf := rfeed_any hr4 IA.out.fl IA.out.po IA.out.hx hl4 t ht100
          rw [← Ht.out] at hf
          refine hf.mono ?_
          clear hf hr4 hl4
          rintro e w5 ⟨⟨rfl, h5, k5⟩, hp5⟩
          have I5 := Lib.hid (IA.out.both C4.out.1 k5 h5 (flat_feed IA.out.fl) hp5)
          have K5 : Hid (Kept (M ≤ ·) w1 w5) := K4.out.trans (k5.mono (fun i _ e => Nat.le_trans IA.out.MB e))
          clear h5 k5 hp5 C4 K4 KR4 hc4 IA KA
          go_wp2_with fail
          obtain ⟨lb5, hl5, hr5⟩ := I5.out.rf
          refine (worlds_same I5.out.wo hr5 I5.out.fl).mono ?_
          clear hr5 hl5
          rintro e w6 ⟨rfl, k6⟩
          have I6 := Lib.hid (I5.out.kept0 k6)
          have K6 : Hid (Kept (M ≤ ·) w1 w6) := K5.out.trans (Kept0.to k6)
          clear k6 I5 K5
          go_wp2_with fail
          go_roundw
          case rel => exact ⟨i + 1, hlt, by go_num, ⟨_, I6.out⟩, K6.out⟩
          case measure => simp [Qu.num]; omega
        · have hE : s.toList.isEmpty = false := by rw [Ht.out]; exact empty_no he
          have c2 := hI.out.wo.c2
          go_wp2_with fail
          go_still_tail 8, (by kernel_rfl)
          repeat still_step
          change wpList _ _ _ _ _ wr.drew
          have IA := Lib.hid (hI.out.kept0 (Kept.refl _ wr).drew)
          have KA : Hid (Kept (M ≤ ·) w1 wr.drew) := kr.out.drew
          obtain ⟨wa, hwa⟩ : ∃ wa, wa = wr.drew := ⟨_, rfl⟩
          rw [← hwa] at IA KA ⊢
          clear hwa
          have KRA : Hid (Kept0 w wa) := K1.out.later KA.out (fun i hi e => by omega)
          obtain ⟨_, _, ha, hca⟩ := (HL.out.kept0 KRA.out) i s Hs.out
          obtain ⟨rfl, rfl⟩ : bb = _ ∧ off = _ := by simpa using ha
          clear ha
          go_wp2_with fail
          have hf := feed_vt t ht100 IA.out.wo.vt IA.out.fl.pre
          rw [← Ht.out] at hf
          refine hf.mono ?_
          clear hf
          rintro e w4 ⟨rfl, h4, k4⟩
          have C4 := Lib.hid (IA.out.code k4 h4)
          have K4 : Hid (Kept (M ≤ ·) w1 w4) := KA.out.trans (IA.out.toM k4)
          have KR4 : Hid (Kept0 w w4) := K1.out.later K4.out (fun i hi e => by omega)
          obtain ⟨_, _, ha, hc4⟩ := (HL.out.kept0 KR4.out) i s Hs.out
          obtain ⟨rfl, rfl⟩ : bb = _ ∧ off = _ := by simpa using ha
          clear ha h4 k4 hca KRA
          go_wp2_with fail
          obtain ⟨lb4, hl4, hr4⟩ := C4.out.2
          have hf := rfeed_any hr4 IA.out.fl IA.out.po IA.out.hx hl4 t ht100
          rw [← Ht.out] at hf
          refine hf.mono ?_
          clear hf hr4 hl4
          rintro e w5 ⟨⟨rfl, h5, k5⟩, hp5⟩
          have I5 := Lib.hid (IA.out.both C4.out.1 k5 h5 (flat_feed IA.out.fl) hp5)
          have K5 : Hid (Kept (M ≤ ·) w1 w5) := K4.out.trans (k5.mono (fun i _ e => Nat.le_trans IA.out.MB e))
          clear h5 k5 hp5 C4 K4 KR4 hc4 IA KA
          go_wp2_with fail
          obtain ⟨lb5, hl5, hr5⟩ := I5.out.rf
          refine (worlds_same I5.out.wo hr5 I5.out.fl).mono ?_
          clear hr5 hl5
          rintro e w6 ⟨rfl, k6⟩
          have I6 := Lib.hid (I5.out.kept0 k6)
          have K6 : Hid (Kept (M ≤ ·) w1 w6) := K5.out.trans (Kept0.to k6)
          clear k6 I5 K5
          go_wp2_with fail
          go_roundw
          case rel => exact ⟨i + 1, hlt, by go_num, ⟨_, I6.out⟩, K6.out⟩
          case measure => simp [Qu.num]; omega
      · have hlt' : ¬ (i : Int) < (l.length : Int) := by omega
        obtain ⟨lb', hl', hr'⟩ := hI.out.rf
        have D : Hid (EndAt wr b a x v) := ⟨hI.out.wo, hr'.cV, hr'.cO, fun e => by have := hI.out.lo x (Or.inl e); have := hI.out.hx; omega⟩
        have KR' : Hid (Kept0 w wr) := KR
        have HO : Hid (∀ i, a.O i → ¬ i < w.heap.size) := fun i e h => by have := hI.out.lo i (Or.inl e); omega
        have HO0 : Hid (¬ a.O 0) := fun e => by have := hI.out.lo 0 (Or.inl e); have := hI.out.h0; omega
        obtain ⟨g1, g2, g3⟩ := D.out.cells
        clear hl' hr' hI kr HL
        go_wp2_with fail
        go_region_held3 (fun w' => w'.cell? ⟨b, 1, none⟩ = some (ptr a.q) ∧ w'.cell? ⟨x, 11, none⟩ = some (.bool v.over) ∧ w'.cell? ⟨x, 9, none⟩ = some (.string (Qu.str v.xs))) (go_keep)
          (first
            | (go_at_call 6; refine (awake_any _ (HB.out.kept0 K15.out)).mono ?_; rintro e w16 ⟨rfl, k16⟩; have K16 : Hid (Kept0 w w16) := K15.out.trans k16; have z1 := kcell k16 y1; have z2 := kcell k16 y2; have z3 := kcell k16 y3; clear k16)
            | (go_at_call 15; refine (Qu.drain_any D14.out.wo.vt.que).mono ?_; rintro e w15 ⟨rfl, _, k15⟩; have K15 : Hid (Kept0 w w15) := (KR14.out).later k15 (fun i hi e => HO.out i (Or.inr (Or.inr e)) hi); obtain ⟨y1, y2, y3⟩ := D14.out.drained k15; clear k15)
            | (go_at_call 14; refine (Qu.over_any (D.out.drew.wo.vt.que)).mono ?_; rintro e w14 ⟨rfl, hw14⟩; have D14 : Hid (EndAt w14 b a x v) := (by rw [hw14]; exact D.out.drew); have KR14 : Hid (Kept0 w w14) := (by rw [hw14]; exact KR'.out.drew); obtain ⟨u1, u2, u3⟩ := D14.out.cells; clear hw14))
        all_goals
          go_wp2_with fail
          go_ret
          exact ⟨rfl, Kept0.below K16.out⟩
  · go_wp2_with fail
    refine (small_no hs _).mono ?_
    rintro e w1 ⟨rfl, k1⟩
    have K1 : Hid (Kept0 w w1) := K0.out.trans k1
    clear k1 a0' a1 a2 a3
    go_wp2_with fail
    refine (awake_any _ (HB.out.kept0 K1.out)).mono ?_
    rintro e w9 ⟨rfl, k9⟩
    have K9 : Hid (Kept0 w w9) := K1.out.trans k9
    clear k9
    go_wp2_with fail
    go_ret
    exact ⟨rfl, Kept0.below K9.out⟩

end Go.Proofs.YtlhajbcabpfbkaaGreatDoor
