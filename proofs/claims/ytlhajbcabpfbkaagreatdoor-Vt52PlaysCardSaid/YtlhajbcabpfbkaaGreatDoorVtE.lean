/-
  What Feed comes to: its bytes, one by one.
-/
import Derived.Test.YtlhajbcabpfbkaaGreatDoorVtD
import Derived.Test.YtlhajbcabpfbkaaGreatDoorVtR
namespace Go.Proofs.YtlhajbcabpfbkaaGreatDoor
open Go.RowKit
attribute [local go_sem] Oper.semAt_some

theorem counted_any (tm : Nat) (s : ByteArray) (w : World) : Calls Tryz.prog 27 #[ptr tm, .string s] w fun e w' => e = .returned (.func (.func 42) #[] #[ptr (w.heap.size + 1), ptr w.heap.size]) ∧ w' = (w.alloc (.cells #[ptr tm] 34)).alloc (.cells #[.string s] 9) := by
  go_enter Tryz.func27, Tryz.ntmps27
  go_wp2_with fail
  go_ret
  exact ⟨rfl, rfl⟩

theorem neq_nil (w : World) : (binOp .neq 73 .nilFunc .nilFunc).run Tryz.prog w = .ok (.bool false) w := by kernel_rfl
theorem neq_func (fn : Nat) (caps : Array Value) (w : World) : (binOp .neq 73 (.func (.func fn) #[] caps) .nilFunc).run Tryz.prog w = .ok (.bool true) w := by kernel_rfl
theorem wrap_one (k : Nat) (h : k ≤ 140737488351232) : IntKind.i64.wrap ((k : Int) + 1) = (k : Int) + 1 := IntWalk.i64_in _ ⟨by omega, by omega⟩
theorem slice_any (S : ByteArray) (k : Nat) (h : k < S.size) (w : World) : (Instr.slice 9 (.string S) (some (.int .i64 (k : Int))) (some (.int .i64 ((k : Int) + 1))) none).run Tryz.prog w = .ok (.string (S.extract k (k + 1))) w :=
  run_slice_string w 9 S .i64 .i64 (k : Int) ((k : Int) + 1) Tryz.underlying9 (Int.natCast_nonneg k) (by omega) (by omega)
theorem str_part (s : List UInt8) (k : Nat) (h : k < s.length) : (Qu.str s).extract k (k + 1) = Qu.str [s[k]] := by
  apply ByteArray.ext
  rw [ByteArray.data_extract]
  apply Array.ext_getElem?
  intro i
  rw [Array.getElem?_extract]
  simp only [Qu.str, List.size_toArray]
  by_cases hi : i = 0
  · subst hi
    rw [if_pos (by omega)]
    simp
  · rw [if_neg (by omega)]
    simp [hi]

set_option maxRecDepth 100000 in
set_option maxHeartbeats 4000000 in
theorem counted_iter (a : Bl) (bx bt : Nat) (s : List UInt8) (hs : s.length ≤ 140737488351232) (n l : Nat) (X : World → Prop) (W : World) (v : Vt) (hv : VtIn W a v) (hp : v.pre.length ≤ 3)
    (hXb : ∀ W1, X W1 → W1.cell? ⟨bx, 0, none⟩ = some (.string (Qu.str s)) ∧ W1.cell? ⟨bt, 0, none⟩ = some (ptr a.tm))
    (hX : ∀ W1 W2, X W1 → Kept (fun i => a.O i ∨ W.heap.size ≤ i) W1 W2 → X W2) (hX0 : X W)
    (hY : ∀ (d : Dw) (sl : List UInt8) (f : Value) (y : Vt) (W1 : World), VtIn W1 a y → X W1 → LenOk d sl → ActF W.heap.size W1 d f → W.heap.size ≤ W1.heap.size →
      YieldAt Fence.wide n Tryz.prog l #[.string (Qu.str sl), f] W1 fun e W' => e = .returned (.bool true) ∧ VtIn W' a (actV d sl y) ∧ X W' ∧ Kept (· < W.heap.size) W1 W') :
    CallsIn Fence.wide n Tryz.prog 42 (#[.func (.yield l) #[] #[]] ++ #[ptr bx, ptr bt]) W fun e W' => (∃ v, e = .returned v) ∧ VtIn W' a (feedV s v) ∧ X W' := by
  refine callsIn_wide.2 ?_
  have Y := Lib.hid hY
  have HX := Lib.hid hX
  have HXb := Lib.hid hXb
  have HV := Lib.hid hv
  have HO : Hid (∀ i, a.O i → i < W.heap.size) := hv.lt
  have HX0 := Lib.hid hX0
  have hl0 : 0 < W.heap.size := hv.blank.lt
  clear hY hX hXb hv hX0
  have hz := zero101
  go_enter Tryz.func42, Tryz.ntmps42
  go_wp2_with fail
  refine (tables_any _).mono ?_
  rintro e w1 ⟨f, rfl, hA, q1⟩
  have hone : Hid (∀ k, k < 1024 → (f k).oneCell' = true) := fun k hk => by
    have := (hA (k / 256) (k % 256) (by omega) (by omega)).one
    rwa [show k / 256 * 256 + k % 256 = k by omega] at this
  have HA := Lib.hid hA
  have Q1 := Lib.hid q1
  clear hA q1
  rename_i hK
  refine hK _ _ ?_
  refine wpList_alloc 101 (alloc101 w1) rfl rfl ?_
  have hN : TabG (w1.alloc (.cells (rowA 1024 fun _ => .nilFunc) 101)) w1.heap.size 101 1024 (fun _ => .nilFunc) := heap_new w1 _
  refine wpList_store_row rfl 101 _ _ rfl w1.heap.size (rowA 1024 f) rfl rfl 101 _ hN (info101 _) (by rw [rowA_size, rowA_size]) (rowA_one hone.out) ?_
  refine wpList_nil ?_
  obtain ⟨w2, hw2⟩ : ∃ w2, w2 = (w1.alloc (.cells (rowA 1024 fun _ => .nilFunc) 101)).setRow w1.heap.size (rowA 1024 f) := ⟨_, rfl⟩
  have hT2 : TabG w2 w1.heap.size 101 1024 f := by rw [hw2]; exact hN.row _
  have hs2 : w2.heap.size = w1.heap.size + 1 := by rw [hw2, setRow_size]; simp
  have k12 : Kept0 w1 w2 := by rw [hw2]; exact ((Kept.refl (fun _ => False) w1).alloc _).later (keptRow _ _ _) (fun i hi e => by omega)
  rw [← hw2]
  clear hw2 hN hz
  obtain ⟨T, hT⟩ : ∃ T, T = w1.heap.size := ⟨_, rfl⟩
  rw [← hT] at hT2 hs2 ⊢
  have hWT : W.heap.size ≤ T := by rw [hT]; exact Q1.out.size
  have HA2 : Hid (∀ n b, n < 4 → b < 256 → ActAt W.heap.size w2 (doD n b) (f (n * 256 + b))) := fun n b hn hb => (HA.out n b hn hb).kept (k12.mono (fun _ _ e => e.elim))
  have HV2 : Hid (VtIn w2 a v) := HV.out.kept0 (Q1.out.trans k12)
  have HX2 : Hid (X w2) := HX.out _ _ HX0.out (Kept0.to (Q1.out.trans k12))
  have HT2 := Lib.hid hT2
  obtain ⟨cb, ct⟩ := HXb.out _ HX2.out
  have hss : (Qu.str s).size = s.length := Qu.str_size s
  clear HA Q1 k12 HV HX0 hT hT2
  go_wp2_with fail
  go_loopw [11] (fun s11 wr => ∃ k : Nat, k ≤ s.length ∧ s11 = .int .i64 (k : Int) ∧ Hid (VtIn wr a (feedV (s.take k) v)) ∧ Hid (X wr) ∧ Hid (TabG wr T 101 1024 f) ∧ Hid (Kept (· < W.heap.size) w2 wr)) (fun s11 _ => s.length - (Qu.num s11).toNat)
  case atStart => exact ⟨0, by omega, rfl, HV2, HX2, HT2, Kept.refl _ w2⟩
  case round =>
    clear cb ct
    obtain ⟨k, hk, rfl, hV, hXr, hTr, hKr⟩ := hrel
    obtain ⟨cb, ct⟩ := HXb.out _ hXr.out
    by_cases hlt : k < s.length
    · obtain ⟨y, hy⟩ : ∃ y, y = feedV (s.take k) v := ⟨_, rfl⟩
      rw [← hy] at hV
      have hyp : y.pre.length ≤ 3 := by rw [hy]; exact feed_pre hp
      have HS : Hid (feedV (s.take (k + 1)) v = byteV y s[k]) := by rw [hy]; exact feed_step hlt v
      clear hy
      obtain ⟨b, hb⟩ : ∃ b, b = s[k] := ⟨_, rfl⟩
      rw [← hb] at HS
      have cP := hV.out.cP
      have hex : (Qu.str s).extract k (k + 1) = Qu.str [b] := by rw [hb]; exact str_part s k hlt
      have hltS : k < (Qu.str s).size := by rw [hss]; exact hlt
      have hgt : (Qu.str s)[k]'hltS = b := by rw [hb]; rfl
      have hcat : Qu.str y.pre ++ Qu.str [b] = Qu.str (y.pre ++ [b]) := Qu.str_append _ _
      have hPs : (Qu.str y.pre).size = y.pre.length := Qu.str_size _
      have hBs : (Qu.str [b]).size = 1 := Qu.str_size _
      have hb256 : b.toNat < 256 := UInt8.toNat_lt b
      have hidx : y.pre.length * 256 + b.toNat < 1024 := by omega
      have cT := hTr.out.cell hidx
      have hAct : Hid (ActAt W.heap.size w2 (doD y.pre.length b.toNat) (f (y.pre.length * 256 + b.toNat))) := HA2.out _ _ (by omega) hb256
      obtain ⟨fv, hfv⟩ : ∃ fv, fv = f (y.pre.length * 256 + b.toNat) := ⟨_, rfl⟩
      rw [← hfv] at cT hAct
      have hw1 : wrap64 ((k : Int) + 1) = (k : Int) + 1 := w64 (by omega) (by omega)
      have HB := Lib.hid hb
      clear hb hfv
      have hsl : ∀ w', (Instr.slice 9 (.string (Qu.str s)) (some (.int .i64 (k : Int))) (some (.int .i64 ((k : Int) + 1))) none).run Tryz.prog w' = .ok (.string (Qu.str [b])) w' := by
        have h := slice_any (Qu.str s) k hltS
        rwa [hex] at h
      have hno : ¬ 9223372036854775807 < y.pre.length + 1 := by omega
      have hwr : IntKind.i64.wrap ((k : Int) + 1) = (k : Int) + 1 := wrap_one k (Nat.le_trans (Nat.le_of_lt hlt) hs)
      have HSS := Lib.hid hss
      clear hss hex
      go_wp2_with fail
      go_still_tail 10, (by kernel_rfl)
      repeat still_step
      change wpList _ _ _ _ _ wr.drew
      obtain ⟨wa, hwa⟩ : ∃ wa, wa = wr.drew := ⟨_, rfl⟩
      have ka : Kept0 wr wa := by rw [hwa]; exact (Kept.refl _ wr).drew
      rw [← hwa]
      clear hwa hsl hwr hcat hno
      replace cb := kcell ka cb
      replace ct := kcell ka ct
      replace cP := kcell ka cP
      replace cT := kcell ka cT
      have hn4 : (y.pre.length : Int) < 4 := by omega
      have hb5 : (b.toNat : Int) < 256 := by omega
      have KA := Lib.hid ka
      clear ka
      go_wp2_with fail
      go_still_tail 12, (by kernel_rfl)
      repeat still_step
      change wpList _ _ _ _ _ wa.drew
      obtain ⟨wb, hwb⟩ : ∃ wb, wb = wa.drew := ⟨_, rfl⟩
      have KB : Hid (Kept0 wr wb) := by rw [hwb]; exact KA.out.drew
      have kb : Kept0 wa wb := by rw [hwb]; exact (Kept.refl _ wa).drew
      rw [← hwb]
      replace cb := kcell kb cb
      replace ct := kcell kb ct
      clear hwb cP cT kb
      go_wp2_with fail
      refine (drop_vt (hV.out.kept0 KB.out)).mono ?_
      rintro e W3 ⟨rfl, h3, k3⟩
      have K3 : Hid (Kept a.O wr W3) := (Kept0.to KB.out).trans k3
      have HV3 := Lib.hid h3
      have HX3 : Hid (X W3) := HX.out _ _ hXr.out (K3.out.mono (fun i _ e => Or.inl e))
      have HT3 : Hid (TabG W3 T 101 1024 f) := hTr.out.kept K3.out (fun e => by have := HO.out _ e; omega)
      have HK3 : Hid (Kept (· < W.heap.size) w2 W3) := hKr.out.trans (K3.out.mono (fun i _ e => HO.out i e))
      have HL : Hid (LenOk (doD y.pre.length b.toNat) (y.pre ++ [b])) := doD_len hyp b
      have hWW : W.heap.size ≤ W3.heap.size := by have := HT3.out.lt; omega
      clear h3 k3 K3 KB KA cb ct hV hXr hTr hKr
      clear hgt hltS hPs hBs hidx hn4 hb5 hw1 hb256
      rcases hAct.out with ⟨hd, hf⟩ | ⟨hd, hf⟩
      · have HD := Lib.hid hd
        subst hf
        clear hd hAct
        go_upto_region 7 with fail
        have hq := neq_nil
        refine (wpIn_wide (n := 0)).1 ?_
        gi_wp2_with fail
        refine ⟨(fun f hf => by cases hf), ?_⟩
        gi_wp2_with fail
        go_wp2_with fail
        go_roundw
        case rel =>
          refine ⟨k + 1, Nat.succ_le_of_lt hlt, by go_num, ?_, HX3, HT3, HK3⟩
          have e : byteV y b = { y with pre := [] } := by unfold byteV; rw [HD.out]; rfl
          rw [HS.out, e]
          exact HV3
        case measure => simp [Qu.num]; omega
      · have hAF := hf.kept HK3.out
        obtain ⟨fn0, caps, rfl, _⟩ := hf
        clear hAct
        go_upto_region 7 with fail
        obtain ⟨fn, tmps, assign, body, hyy, hR⟩ := Y.out _ _ _ _ W3 HV3.out HX3.out HL.out hAF hWW
        have HR := Lib.hid hR
        have HAF := Lib.hid hAF
        clear hR Y hAF hd
        refine (wpIn_wide (n := 0)).1 ?_
        have hq := neq_func fn0 caps
        gi_wp2_with fail
        refine ⟨rfl, RoundIn.mono (roundIn_any HR.out) ?_⟩
        clear hyy HR
        rintro e W4 ⟨rfl, hV4, hX4, hK4⟩
        have HV4 := Lib.hid hV4
        have HX4 := Lib.hid hX4
        have HT4 : Hid (TabG W4 T 101 1024 f) := HT3.out.kept hK4 (by omega)
        have HK4 : Hid (Kept (· < W.heap.size) w2 W4) := HK3.out.trans hK4
        clear hV4 hX4 hK4 HV3 HX3 HT3 HK3
        gi_wp2_with fail
        go_wp2_with fail
        go_roundw
        case rel =>
          refine ⟨k + 1, Nat.succ_le_of_lt hlt, by go_num, ?_, HX4, HT4, HK4⟩
          rw [HS.out]
          exact HV4
        case measure => simp [Qu.num]; omega
    · obtain rfl : k = s.length := by omega
      clear Y
      go_wp2_with fail
      go_end0
      refine ⟨⟨_, rfl⟩, ?_, hXr.out⟩
      have h := hV.out
      rwa [List.take_length] at h
end Go.Proofs.YtlhajbcabpfbkaaGreatDoor
