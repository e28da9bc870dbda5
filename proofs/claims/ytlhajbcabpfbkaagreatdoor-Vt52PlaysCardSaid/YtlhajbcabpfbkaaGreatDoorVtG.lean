/-
  What the greater things that a byte may do come to: to wipe, to put, to go to a tab or a place, to reply.
-/
import Derived.Test.YtlhajbcabpfbkaaGreatDoorVtF
namespace Go.Proofs.YtlhajbcabpfbkaaGreatDoor
open Go.RowKit

section
variable {w : World} {a : Bl} {v : Vt}

set_option maxRecDepth 100000 in
set_option maxHeartbeats 400000 in
theorem wipeS_vt (h : VtIn w a v) (s : ByteArray) : Calls Tryz.prog 78 #[ptr a.tm, .string s] w (Ends a { v with z := wipeZ v.z v.z.r v.z.c ((v.z.R : Int) - 1) ((v.z.C : Int) - 1) } w) := by
  have H := Lib.hid h
  clear h
  go_enter Tryz.func78, Tryz.ntmps78
  go_wp2_with fail
  refine (last_vt H.out).mono ?_
  rintro e w1 ⟨rfl, k1⟩
  have K1 := Lib.hid k1
  clear k1
  go_wp2_with fail
  refine (wipe_vt (H.out.kept0 K1.out) _ _).mono ?_
  rintro e w2 ⟨rfl, h2, k2⟩
  have H2 := Lib.hid (And.intro h2 (K1.out.to.trans k2))
  clear h2 k2
  go_wp2_with fail
  go_end0
  exact ⟨rfl, H2.out⟩

set_option maxRecDepth 100000 in
set_option maxHeartbeats 400000 in
theorem wipeR_vt (h : VtIn w a v) (s : ByteArray) : Calls Tryz.prog 79 #[ptr a.tm, .string s] w (Ends a { v with z := wipeZ v.z v.z.r v.z.c v.z.r ((v.z.C : Int) - 1) } w) := by
  have H := Lib.hid h
  have hf := field45_0 v.z.r v.z.c
  have hg := field45_1 ((v.z.R : Int) - 1) ((v.z.C : Int) - 1)
  clear h
  go_enter Tryz.func79, Tryz.ntmps79
  go_wp2_with fail
  refine (at_vt H.out).mono ?_
  rintro e w1 ⟨rfl, k1⟩
  have K1 := Lib.hid k1
  clear k1
  go_wp2_with fail
  refine (last_vt (H.out.kept0 K1.out)).mono ?_
  rintro e w2 ⟨rfl, k2⟩
  have K2 : Hid (Kept0 w w2) := K1.out.trans k2
  clear k2
  go_wp2_with fail
  refine (wipe_vt (H.out.kept0 K2.out) _ _).mono ?_
  rintro e w3 ⟨rfl, h2, k2⟩
  have H2 := Lib.hid (And.intro h2 (K2.out.to.trans k2))
  clear h2 k2
  go_wp2_with fail
  go_end0
  exact ⟨rfl, H2.out⟩

set_option maxRecDepth 100000 in
set_option maxHeartbeats 800000 in
theorem put_vt (h : VtIn w a v) (s : List UInt8) (hs : s.length = 1) : Calls Tryz.prog 76 #[ptr a.tm, .string (Qu.str s)] w (Ends a { v with z := putZ v.z ⟨glyphV v.g (s.getD 0 0).toNat, 0, false, 0⟩ 1 false } w) := by
  obtain ⟨b, rfl⟩ : ∃ b, s = [b] := by
    match s, hs with
    | [b], _ => exact ⟨b, rfl⟩
  have c := h.cS
  have cg := h.cG
  have hl := h.ltm
  have hb : b.toNat < 256 := UInt8.toNat_lt b
  have hlt0 : 0 < (Qu.str [b]).size := by rw [Qu.str_size]; exact Nat.zero_lt_one
  have hget0 : (Qu.str [b])[0]'hlt0 = b := rfl
  obtain ⟨str1, hstr⟩ : ∃ str1, Qu.str [b] = str1 := ⟨_, rfl⟩
  have hlt : 0 < str1.size := by rw [← hstr]; exact hlt0
  have hget : str1[0]'hlt = b := by subst hstr; exact hget0
  rw [hstr]
  clear hget0 hlt0 hstr
  have HO : Hid (∀ w', Calls Tryz.prog 101 #[.int .i64 (if v.g then 3 else 1), .int .u8 (b.toNat : Int)] w' fun e w'' => e = .returned (.int .i32 (glyphV v.g b.toNat)) ∧ Kept0 w' w'') := fun w' => Gl.of_any (if v.g then 3 else 1) b.toNat hb w'
  have H := Lib.hid h
  clear h
  simp only [List.getD_cons_zero]
  obtain ⟨gl, hgl⟩ : ∃ gl, glyphV v.g b.toNat = gl := ⟨_, rfl⟩
  rw [hgl] at HO ⊢
  clear hgl
  obtain ⟨v2, hv2⟩ : ∃ v2, ({ v with z := putZ v.z ⟨gl, 0, false, 0⟩ 1 false } : Vt) = v2 := ⟨_, rfl⟩
  have HV := Lib.hid hv2
  rw [hv2]
  clear hv2
  go_enter Tryz.func76, Tryz.ntmps76
  cases hg : v.g
  all_goals
    rw [hg] at cg HO
    simp only [if_true, if_false, Bool.false_eq_true] at HO
    go_wp2_with fail
    go_region_held3 (fun w' => w'.cell? ⟨a.tm, 0, none⟩ = some (ptr a.s)) (go_keep)
      (first
        | (go_at_call 100; refine (vput HK.out.1 ⟨gl, 0, false, 0⟩).mono ?_; rintro e w3 ⟨rfl, h3, k3⟩; have H3 : Hid (VtIn w3 a v2 ∧ Kept a.O w w3) := ⟨HV.out ▸ h3, HK.out.2.trans k3⟩; have y := h3.cS; clear h3 k3)
        | (go_at_call 101; refine (HO.out _).mono ?_; rintro e w2 ⟨rfl, k2⟩; have HK : Hid (VtIn w2 a v ∧ Kept a.O w w2) := ⟨H.out.kept0 ((Kept.refl _ w).drew.trans k2), (Kept0.to ((Kept.refl (fun _ => False) w).drew.trans k2))⟩; have z := HK.out.1.cS; clear k2))
  all_goals
    go_wp2_with fail
    go_end0
    exact ⟨rfl, H3.out⟩

set_option maxRecDepth 100000 in
set_option maxHeartbeats 800000 in
theorem tab_vt (h : VtIn w a v) (s : ByteArray) : Calls Tryz.prog 72 #[ptr a.tm, .string s] w (Ends a { v with z := moveZ v.z v.z.r (tabC v.z.C v.z.c) } w) := by
  have c := h.cS
  have hl := h.ltm
  obtain ⟨hc0, hc1⟩ : 0 ≤ v.z.c ∧ v.z.c ≤ 254 := by have := h.scr.there; have := h.scr.grid.C2; obtain ⟨_, _, h3, h4⟩ := h.scr.there; omega
  have hC2 := h.scr.grid.C2
  have hC1 := h.scr.grid.C1
  have ht : 0 ≤ v.z.c.tmod 8 ∧ v.z.c.tmod 8 ≤ 7 := by rw [Int.tmod_eq_emod_of_nonneg hc0]; omega
  obtain ⟨t8, ht8⟩ : ∃ t8, v.z.c.tmod 8 = t8 := ⟨_, rfl⟩
  rw [ht8] at ht
  obtain ⟨t0, t1⟩ := ht
  have e1 : wrap64 (v.z.c + 8) = v.z.c + 8 := w64 (by omega) (by omega)
  have e2 : wrap64 (v.z.c + 8 - t8) = v.z.c + 8 - t8 := w64 (by omega) (by omega)
  have e3 : wrap64 (v.z.c + 1) = v.z.c + 1 := w64 (by omega) (by omega)
  have hf := field45_1 ((v.z.R : Int) - 1) ((v.z.C : Int) - 1)
  have H := Lib.hid h
  have HT : Hid (tabC v.z.C v.z.c = if (v.z.C : Int) - 1 < v.z.c + 8 - t8 then v.z.c + 1 else v.z.c + 8 - t8) := by unfold Hid tabC; rw [ht8]
  clear h
  go_enter Tryz.func72, Tryz.ntmps72
  go_wp2_with fail
  refine (at_vt H.out).mono ?_
  rintro e w1 ⟨rfl, k1⟩
  have hs := k1.size
  have K1 := Lib.hid k1
  have c1 := kcell k1 c
  clear k1
  go_wp2_with fail
  obtain ⟨W, hW⟩ : ∃ W, W = w1.alloc (.cells #[.int .i64 v.z.r, .int .i64 v.z.c] 45) := ⟨_, rfl⟩
  have KW : Hid (Kept0 w W) := by rw [hW]; exact K1.out.alloc _
  have z : Two W w1.heap.size v.z.r v.z.c := by rw [hW]; exact Two.of (heap_new _ _)
  rw [← hW]
  clear hW
  refine (last_vt (H.out.kept0 KW.out)).mono ?_
  rintro e w2 ⟨rfl, k2⟩
  have K2 : Hid (Kept0 w w2) := KW.out.trans k2
  have z2 := z.kept0 k2
  obtain ⟨z0, z1, z3, z4⟩ := z2
  replace c := kcell K2.out c
  clear k2 c1 z
  obtain ⟨v2, hv2⟩ : ∃ v2, ({ v with z := moveZ v.z v.z.r (tabC v.z.C v.z.c) } : Vt) = v2 := ⟨_, rfl⟩
  have HV := Lib.hid hv2
  clear hv2
  by_cases hgt : (v.z.C : Int) - 1 < v.z.c + 8 - t8
  all_goals
    have HG := Lib.hid hgt
    go_wp2_with fail
    go_still_tail 8, (by kernel_rfl)
    repeat still_step
    change wpList _ _ _ _ _ w2.drew
    go_wp2_with fail
    refine (vmove (H.out.kept0 K2.out.drew) _ _).mono ?_
    rintro e w3 ⟨rfl, h3, k3⟩
    have H3 : Hid (VtIn w3 a v2 ∧ Kept a.O w w3) := ⟨by rw [← HV.out, HT.out]; first | (rw [if_pos HG.out]; exact h3) | (rw [if_neg (show ¬ ((v.z.C : Int) - 1 < v.z.c + 8 - t8) by have := HG.out; omega)]; exact h3), (Kept0.to K2.out.drew).trans k3⟩
    clear h3 k3
    go_wp2_with fail
    go_end0
    exact ⟨rfl, by rw [HV.out]; exact H3.out⟩

set_option maxRecDepth 100000 in
set_option maxHeartbeats 800000 in
theorem goTo_vt (h : VtIn w a v) (s : List UInt8) (hs : s.length = 4) : Calls Tryz.prog 62 #[ptr a.tm, .string (Qu.str s)] w (Ends a { v with z := moveZ v.z (goR v.z.R v.z.r ((s.getD 2 0).toNat - 32)) (goC v.z.c ((s.getD 3 0).toNat - 32)) } w) := by
  obtain ⟨x0, x1, x2, x3, rfl⟩ : ∃ x0 x1 x2 x3, s = [x0, x1, x2, x3] := by
    match s, hs with
    | [a, b, c, d], _ => exact ⟨a, b, c, d, rfl⟩
  have c := h.cS
  have hl := h.ltm
  have hlt0 : (Qu.str [x0, x1, x2, x3]).size = 4 := by rw [Qu.str_size]; rfl
  have hlt2 : 2 < (Qu.str [x0, x1, x2, x3]).size := by omega
  have hlt3 : 3 < (Qu.str [x0, x1, x2, x3]).size := by omega
  have hget2 : (Qu.str [x0, x1, x2, x3])[2]'hlt2 = x2 := rfl
  have hget3 : (Qu.str [x0, x1, x2, x3])[3]'hlt3 = x3 := rfl
  obtain ⟨str1, hstr⟩ : ∃ str1, Qu.str [x0, x1, x2, x3] = str1 := ⟨_, rfl⟩
  have g2 : 2 < str1.size := by rw [← hstr]; exact hlt2
  have g3 : 3 < str1.size := by rw [← hstr]; exact hlt3
  have f2 : str1[2]'g2 = x2 := by subst hstr; exact hget2
  have f3 : str1[3]'g3 = x3 := by subst hstr; exact hget3
  rw [hstr]
  clear hget2 hget3 hlt0 hlt2 hlt3 hstr
  have b2 : x2.toNat < 256 := UInt8.toNat_lt x2
  have b3 : x3.toNat < 256 := UInt8.toNat_lt x3
  simp only [List.getD_cons_zero, List.getD_cons_succ]
  have e1 : wrap64 ((x2.toNat : Int) - 32) = (x2.toNat : Int) - 32 := w64 (by omega) (by omega)
  have e2 : wrap64 ((x3.toNat : Int) - 32) = (x3.toNat : Int) - 32 := w64 (by omega) (by omega)
  have hf := field45_0 ((v.z.R : Int) - 1) ((v.z.C : Int) - 1)
  have H := Lib.hid h
  clear h
  go_enter Tryz.func62, Tryz.ntmps62
  go_wp2_with fail
  refine (at_vt H.out).mono ?_
  rintro e w1 ⟨rfl, k1⟩
  have hs := k1.size
  have hs0 := hs
  have K1 := Lib.hid k1
  have c1 := kcell k1 c
  clear k1
  go_wp2_with fail
  obtain ⟨W, hW⟩ : ∃ W, W = w1.alloc (.cells #[.int .i64 v.z.r, .int .i64 v.z.c] 45) := ⟨_, rfl⟩
  have KW : Hid (Kept0 w W) := by rw [hW]; exact K1.out.alloc _
  have z : Two W w1.heap.size v.z.r v.z.c := by rw [hW]; exact Two.of (heap_new _ _)
  rw [← hW]
  clear hW c1
  go_quiet (fail)
  have zq := Lib.hid (z.kept0 ((Kept.refl (fun _ => False) W).drewN nq))
  have KQ : Hid (Kept0 w (W.drewN nq)) := KW.out.drewN nq
  obtain ⟨X, hX⟩ : ∃ X, W.drewN nq = X := ⟨_, rfl⟩
  rw [hX] at zq KQ ⊢
  clear hX z KW
  obtain ⟨v2, hv2⟩ : ∃ v2, ({ v with z := moveZ v.z (goR v.z.R v.z.r ((x2.toNat : Int) - 32)) (goC v.z.c ((x3.toNat : Int) - 32)) } : Vt) = v2 := ⟨_, rfl⟩
  have HV := Lib.hid hv2
  clear hv2
  obtain ⟨xr, hxr⟩ : ∃ xr : Int, (x2.toNat : Int) - 32 = xr := ⟨_, rfl⟩
  obtain ⟨xc, hxc⟩ : ∃ xc : Int, (x3.toNat : Int) - 32 = xc := ⟨_, rfl⟩
  simp only [hxr, hxc]
  have HXR := Lib.hid hxr
  have HXC := Lib.hid hxc
  clear hxr hxc e1 e2 f2 f3 g2 g3 b2 b3
  have HW := Lib.hid (H.out.kept0 KQ.out)
  have hsX : w1.heap.size < X.heap.size := zq.out.lt
  have hne : ¬ a.tm = w1.heap.size := by omega
  have hen : ¬ w1.heap.size = a.tm := by omega
  have cX := kcell KQ.out c
  obtain ⟨z0, z1, z2, z3⟩ := zq.out
  have fin : ∀ (p q : Int) (Y w3 : World), Kept0 w Y → goR v.z.R v.z.r xr = p → goC v.z.c xc = q → Ends a { v with z := moveZ v.z p q } Y (.returned (.tuple #[])) w3 → Hid (VtIn w3 a v2 ∧ Kept a.O w w3) := fun p q Y w3 k e1 e2 h3 => by
    refine ⟨?_, (Kept0.to k).trans h3.2.2⟩
    rw [← HV.out, HXR.out, HXC.out, e1, e2]
    exact h3.2.1
  have HF := Lib.hid fin
  have mv : ∀ (p q : Int) (Y : World), Kept0 w Y → Calls Tryz.prog 24 #[ptr a.s, pos p q] Y (Ends a { v with z := moveZ v.z p q } Y) := fun p q Y k => vmove (H.out.kept0 k) p q
  have HM := Lib.hid mv
  clear fin mv c K1 hs
  have hlw : w.heap.size ≤ w1.heap.size := hs0
  by_cases hr : 0 ≤ xr
  · go_wp2_with fail
    refine (last_vt HW.out).mono ?_
    rintro e w2 ⟨rfl, k2⟩
    have K2 : Hid (Kept0 w w2) := KQ.out.trans k2
    obtain ⟨y0, y1, y2, y3⟩ := zq.out.kept0 k2
    have c2 := kcell k2 cX
    have hsY : w1.heap.size < w2.heap.size := Nat.lt_of_lt_of_le hsX k2.size
    clear k2 z0 z1 z2 z3 cX
    by_cases hr2 : xr ≤ (v.z.R : Int) - 1
    · have E1 : Hid (goR v.z.R v.z.r xr = xr) := if_pos ⟨hr, hr2⟩
      by_cases hc : 0 ≤ xc
      · have E2 : Hid (goC v.z.c xc = xc) := if_pos hc
        go_wp2_with fail
        obtain ⟨Y, hY⟩ : ∃ Y, Y = ((w2).setCell ⟨w1.heap.size, 0, none⟩ (.int .i64 xr)).setCell ⟨w1.heap.size, 1, none⟩ (.int .i64 xc) := ⟨_, rfl⟩
        have zY : Two Y w1.heap.size xr xc := by rw [hY]; exact ⟨by simp [go_sem, y0], by simp [go_sem, y1], by simp [go_sem, y2], by simp [go_sem, y3]⟩
        have cY : Y.cell? ⟨a.tm, 0, none⟩ = some (ptr a.s) := by rw [hY]; simp [go_sem, *]
        have KY : Hid (Kept0 w Y) := by rw [hY]; exact ((K2.out.setCell _ (Or.inl hlw) _).setCell _ (Or.inl hlw) _)
        rw [← hY]
        obtain ⟨t0, t1, t2, t3⟩ := zY
        clear hY y0 y1 y2 y3 c2
        go_still_tail 5, (by kernel_rfl)
        repeat still_step
        change wpList _ _ _ _ _ Y.drew
        go_wp2_with fail
        refine (HM.out _ _ _ KY.out.drew).mono ?_
        rintro e w3 ⟨rfl, h4, k4⟩
        have H3 := HF.out _ _ _ w3 KY.out.drew E1.out E2.out ⟨rfl, h4, k4⟩
        clear h4 k4
        go_wp2_with fail
        go_end0
        exact ⟨rfl, by rw [HV.out]; exact H3.out⟩
      · have E2 : Hid (goC v.z.c xc = v.z.c) := if_neg hc
        go_wp2_with fail
        obtain ⟨Y, hY⟩ : ∃ Y, Y = (w2).setCell ⟨w1.heap.size, 0, none⟩ (.int .i64 xr) := ⟨_, rfl⟩
        have zY : Two Y w1.heap.size xr v.z.c := by rw [hY]; exact ⟨by simp [go_sem, y0], by simp [go_sem, y1], by simp [go_sem, y2], by simp [go_sem, y3]⟩
        have cY : Y.cell? ⟨a.tm, 0, none⟩ = some (ptr a.s) := by rw [hY]; simp [go_sem, *]
        have KY : Hid (Kept0 w Y) := by rw [hY]; exact (K2.out.setCell _ (Or.inl hlw) _)
        rw [← hY]
        obtain ⟨t0, t1, t2, t3⟩ := zY
        clear hY y0 y1 y2 y3 c2
        go_still_tail 5, (by kernel_rfl)
        repeat still_step
        change wpList _ _ _ _ _ Y.drew
        go_wp2_with fail
        refine (HM.out _ _ _ KY.out.drew).mono ?_
        rintro e w3 ⟨rfl, h4, k4⟩
        have H3 := HF.out _ _ _ w3 KY.out.drew E1.out E2.out ⟨rfl, h4, k4⟩
        clear h4 k4
        go_wp2_with fail
        go_end0
        exact ⟨rfl, by rw [HV.out]; exact H3.out⟩
    · have E1 : Hid (goR v.z.R v.z.r xr = v.z.r) := if_neg (fun e => hr2 e.2)
      by_cases hc : 0 ≤ xc
      · have E2 : Hid (goC v.z.c xc = xc) := if_pos hc
        go_wp2_with fail
        obtain ⟨Y, hY⟩ : ∃ Y, Y = (w2).setCell ⟨w1.heap.size, 1, none⟩ (.int .i64 xc) := ⟨_, rfl⟩
        have zY : Two Y w1.heap.size v.z.r xc := by rw [hY]; exact ⟨by simp [go_sem, y0], by simp [go_sem, y1], by simp [go_sem, y2], by simp [go_sem, y3]⟩
        have cY : Y.cell? ⟨a.tm, 0, none⟩ = some (ptr a.s) := by rw [hY]; simp [go_sem, *]
        have KY : Hid (Kept0 w Y) := by rw [hY]; exact (K2.out.setCell _ (Or.inl hlw) _)
        rw [← hY]
        obtain ⟨t0, t1, t2, t3⟩ := zY
        clear hY y0 y1 y2 y3 c2
        go_still_tail 5, (by kernel_rfl)
        repeat still_step
        change wpList _ _ _ _ _ Y.drew
        go_wp2_with fail
        refine (HM.out _ _ _ KY.out.drew).mono ?_
        rintro e w3 ⟨rfl, h4, k4⟩
        have H3 := HF.out _ _ _ w3 KY.out.drew E1.out E2.out ⟨rfl, h4, k4⟩
        clear h4 k4
        go_wp2_with fail
        go_end0
        exact ⟨rfl, by rw [HV.out]; exact H3.out⟩
      · have E2 : Hid (goC v.z.c xc = v.z.c) := if_neg hc
        go_wp2_with fail
        obtain ⟨Y, hY⟩ : ∃ Y, Y = w2 := ⟨_, rfl⟩
        have zY : Two Y w1.heap.size v.z.r v.z.c := by rw [hY]; exact ⟨by simp [go_sem, y0], by simp [go_sem, y1], by simp [go_sem, y2], by simp [go_sem, y3]⟩
        have cY : Y.cell? ⟨a.tm, 0, none⟩ = some (ptr a.s) := by rw [hY]; simp [go_sem, *]
        have KY : Hid (Kept0 w Y) := by rw [hY]; exact K2.out
        rw [← hY]
        obtain ⟨t0, t1, t2, t3⟩ := zY
        clear hY y0 y1 y2 y3 c2
        go_still_tail 5, (by kernel_rfl)
        repeat still_step
        change wpList _ _ _ _ _ Y.drew
        go_wp2_with fail
        refine (HM.out _ _ _ KY.out.drew).mono ?_
        rintro e w3 ⟨rfl, h4, k4⟩
        have H3 := HF.out _ _ _ w3 KY.out.drew E1.out E2.out ⟨rfl, h4, k4⟩
        clear h4 k4
        go_wp2_with fail
        go_end0
        exact ⟨rfl, by rw [HV.out]; exact H3.out⟩
  · have E1 : Hid (goR v.z.R v.z.r xr = v.z.r) := if_neg (fun e => hr e.1)
    have K2 := KQ
    by_cases hc : 0 ≤ xc
    · have E2 : Hid (goC v.z.c xc = xc) := if_pos hc
      go_wp2_with fail
      obtain ⟨Y, hY⟩ : ∃ Y, Y = (X).setCell ⟨w1.heap.size, 1, none⟩ (.int .i64 xc) := ⟨_, rfl⟩
      have zY : Two Y w1.heap.size v.z.r xc := by rw [hY]; exact ⟨by simp [go_sem, z0], by simp [go_sem, z1], by simp [go_sem, z2], by simp [go_sem, z3]⟩
      have cY : Y.cell? ⟨a.tm, 0, none⟩ = some (ptr a.s) := by rw [hY]; simp [go_sem, *]
      have KY : Hid (Kept0 w Y) := by rw [hY]; exact (K2.out.setCell _ (Or.inl hlw) _)
      rw [← hY]
      obtain ⟨t0, t1, t2, t3⟩ := zY
      clear hY z0 z1 z2 z3 cX
      go_still_tail 5, (by kernel_rfl)
      repeat still_step
      change wpList _ _ _ _ _ Y.drew
      go_wp2_with fail
      refine (HM.out _ _ _ KY.out.drew).mono ?_
      rintro e w3 ⟨rfl, h4, k4⟩
      have H3 := HF.out _ _ _ w3 KY.out.drew E1.out E2.out ⟨rfl, h4, k4⟩
      clear h4 k4
      go_wp2_with fail
      go_end0
      exact ⟨rfl, by rw [HV.out]; exact H3.out⟩
    · have E2 : Hid (goC v.z.c xc = v.z.c) := if_neg hc
      go_wp2_with fail
      obtain ⟨Y, hY⟩ : ∃ Y, Y = X := ⟨_, rfl⟩
      have zY : Two Y w1.heap.size v.z.r v.z.c := by rw [hY]; exact ⟨by simp [go_sem, z0], by simp [go_sem, z1], by simp [go_sem, z2], by simp [go_sem, z3]⟩
      have cY : Y.cell? ⟨a.tm, 0, none⟩ = some (ptr a.s) := by rw [hY]; simp [go_sem, *]
      have KY : Hid (Kept0 w Y) := by rw [hY]; exact K2.out
      rw [← hY]
      obtain ⟨t0, t1, t2, t3⟩ := zY
      clear hY z0 z1 z2 z3 cX
      go_still_tail 5, (by kernel_rfl)
      repeat still_step
      change wpList _ _ _ _ _ Y.drew
      go_wp2_with fail
      refine (HM.out _ _ _ KY.out.drew).mono ?_
      rintro e w3 ⟨rfl, h4, k4⟩
      have H3 := HF.out _ _ _ w3 KY.out.drew E1.out E2.out ⟨rfl, h4, k4⟩
      clear h4 k4
      go_wp2_with fail
      go_end0
      exact ⟨rfl, by rw [HV.out]; exact H3.out⟩

theorem strs_one (w : World) (s : ByteArray) (hs : s.size ≤ 140737488351232) : Qu.StrsIn (w.alloc (.cells #[.string s] 9)) (some ⟨w.heap.size, 0, none⟩) [s] := by
  intro i t ht
  match i, ht with
  | 0, ht =>
    obtain rfl : s = t := by simpa using ht
    exact ⟨_, 0, rfl, by simp [go_sem], hs⟩
  | i + 1, ht => simp at ht
theorem off_new {b g most : Nat} {xs : List UInt8} {over : Bool} (s : ByteArray) (h : Qu.Qf w b g most xs over) : Qu.Off (some ⟨w.heap.size, 0, none⟩) [s] (fun i => i = b ∨ i = g) := fun _ p hp => by
  obtain rfl : (⟨w.heap.size, 0, none⟩ : Addr) = p := by simpa using hp
  have h1 := h.lt
  have h2 := h.ltg
  show ¬ (w.heap.size = b ∨ w.heap.size = g)
  omega
theorem vpush (h : VtIn w a v) (l : List UInt8) (hl : l.length ≤ 1000) : Calls Tryz.prog 105 #[ptr a.q, .slice (some ⟨w.heap.size, 0, none⟩) 1 1] (w.alloc (.cells #[.string (Qu.str l)] 9)) fun e w' => (∃ b, e = .returned (.bool b)) ∧ VtIn w' a (pushV v l) ∧ Kept a.O w w' := by
  have k0 : Kept0 w (w.alloc (.cells #[.string (Qu.str l)] 9)) := (Kept.refl _ w).alloc _
  have hz : (Qu.str l).size ≤ 140737488351232 := by rw [Qu.str_size]; omega
  have hs := strs_one w (Qu.str l) hz
  have ho := off_new (Qu.str l) h.que
  have hsz : Qu.sizes [Qu.str l] = l.length := by simp [Qu.sizes, Qu.str_size]
  have hby : Qu.bytesOf [Qu.str l] = l := by simp [Qu.bytesOf, Qu.str]
  have H0 := h.kept0 k0
  by_cases hf : v.xs.length + l.length ≤ v.most
  · refine (Qu.push_yes (some ⟨w.heap.size, 0, none⟩) 1 [Qu.str l] H0.que hs ho (by simp) (by rw [hsz]; exact hf)).mono ?_
    rintro e w' ⟨rfl, hq, hk⟩
    rw [hby] at hq
    refine ⟨⟨_, rfl⟩, ?_, (Kept0.to k0).trans (hk.mono (fun i _ e => Or.inr (Or.inr e)))⟩
    have := H0.onQue hk (fun i e => e) hq
    simpa only [pushV, if_pos hf] using this
  · refine (Qu.push_no (some ⟨w.heap.size, 0, none⟩) 1 [Qu.str l] H0.que hs (by simp) (by rw [hsz]; exact hf)).mono ?_
    rintro e w' ⟨rfl, hq, hk⟩
    refine ⟨⟨_, rfl⟩, ?_, (Kept0.to k0).trans (hk.mono (fun i _ e => Or.inr (Or.inr (Or.inl e))))⟩
    have := H0.onQue hk (fun i e => Or.inl e) hq
    simpa only [pushV, if_neg hf] using this

set_option maxRecDepth 100000 in
set_option maxHeartbeats 400000 in
theorem reply_vt (h : VtIn w a v) (s : ByteArray) : Calls Tryz.prog 83 #[ptr a.tm, .string s] w (Ends a (pushV v [27, 47, 75]) w) := by
  have c := h.cQ
  have H := Lib.hid h
  clear h
  go_enter Tryz.func83, Tryz.ntmps83
  go_wp2_with fail
  refine (vpush H.out [27, 47, 75] (by decide)).mono ?_
  rintro e w1 ⟨⟨b, rfl⟩, h1⟩
  have H1 := Lib.hid h1
  clear h1
  go_wp2_with fail
  go_end0
  exact ⟨rfl, H1.out⟩
end
end Go.Proofs.YtlhajbcabpfbkaaGreatDoor
