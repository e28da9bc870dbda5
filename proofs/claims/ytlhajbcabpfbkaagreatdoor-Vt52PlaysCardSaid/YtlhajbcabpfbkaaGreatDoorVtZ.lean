/-
  The document's terminal: the byte behind an ESC.
-/
import Derived.Test.YtlhajbcabpfbkaaGreatDoorVtY
namespace Go.Proofs.YtlhajbcabpfbkaaGreatDoor
open Go.RowKit
attribute [local go_sem] Oper.semAt_some

theorem row_wraps {R C n : Nat} {r c : Int} (h : There R C r c) (hn : n = R * C) (h16 : n ≤ 65025) (hC : C ≤ 255) : ∃ (P : Int) (m Q : Nat), IntKind.i64.wrap (r * C) = P ∧ wrap64 (r * C) = P ∧ IntKind.i64.wrap (P + c) = (m : Int) ∧ wrap64 (P + c) = (m : Int) ∧ m < n ∧ m = idx C r c ∧
    IntKind.i64.wrap (P + C) = (Q : Int) ∧ wrap64 (P + C) = (Q : Int) ∧ IntKind.i64.wrap ((Q : Int) - 1) = (Q : Int) - 1 ∧ wrap64 ((Q : Int) - 1) = (Q : Int) - 1 ∧ IntKind.i64.wrap ((n : Int) - 1) = (n : Int) - 1 ∧ m ≤ Q ∧ Q ≤ n ∧ (Q = idx C r ((C : Int) - 1) + 1) ∧ (n = idx C ((R : Int) - 1) ((C : Int) - 1) + 1) := by
  have hi := idx_lt h
  obtain ⟨h1, h2, h3, h4⟩ := h
  obtain ⟨a, rfl⟩ : ∃ a : Nat, r = a := ⟨r.toNat, by omega⟩
  obtain ⟨b, rfl⟩ : ∃ b : Nat, c = b := ⟨c.toNat, by omega⟩
  obtain ⟨m, hm⟩ : ∃ m, m = idx C (a : Int) (b : Int) := ⟨_, rfl⟩
  have hm2 : m = a * C + b := by rw [hm]; simp [idx]
  rw [← hm, ← hn] at hi
  have e : (a : Int) * (C : Int) = ((a * C : Nat) : Int) := (Int.natCast_mul a C).symm
  have hQ : a * C + C ≤ n := by
    have : (a + 1) * C ≤ R * C := Nat.mul_le_mul_right _ (by omega)
    rw [Nat.add_mul] at this
    omega
  have hl : n = (R - 1) * C + C := by
    have : R = (R - 1) + 1 := by omega
    rw [hn]
    conv => lhs; rw [this, Nat.add_mul]
    omega
  refine ⟨((a * C : Nat) : Int), m, a * C + C, ?_, ?_, ?_, ?_, hi, hm, ?_, ?_, ?_, ?_, ?_, ?_, hQ, ?_, ?_⟩
  · rw [e, IntKind.wrap_i64]; omega
  · rw [e]; exact w64 (by omega) (by omega)
  · rw [hm2, IntKind.wrap_i64]; omega
  · rw [hm2, w64 (by omega) (by omega)]; omega
  · rw [IntKind.wrap_i64]; omega
  · rw [w64 (by omega) (by omega)]; omega
  · rw [IntKind.wrap_i64]; omega
  · rw [w64 (by omega) (by omega)]
  · rw [IntKind.wrap_i64]; omega
  · omega
  · unfold idx
    rw [Int.toNat_natCast, show ((C : Int) - 1).toNat = C - 1 by omega]
    omega
  · unfold idx
    rw [show ((R : Int) - 1).toNat = R - 1 by omega, show ((C : Int) - 1).toNat = C - 1 by omega]
    omega

theorem st_wipe {z : St} {p' q' : Int} (h : There z.R z.C z.r z.c) (h' : There z.R z.C p' q') {m Q : Nat} (hm : m = idx z.C z.r z.c) (hQ : Q = idx z.C p' q' + 1) (hmQ : m < Q) (k : Nat) : ((wipeZ z z.r z.c p' q').F k).g = ((fun k => if m ≤ k ∧ k < Q then blk else z.F k) k).g := by
  show (swipeF z.R z.C z.F z.r z.c p' q' blk false k).g = _
  rw [wipe_from h h' (by omega) k, ← hm]
  show _ = (if m ≤ k ∧ k < Q then blk else z.F k).g
  by_cases e : m ≤ k ∧ k < Q
  · rw [if_pos e, if_pos (by omega)]
  · rw [if_neg e, if_neg (by omega)]

theorem RefIn.wiped {w : World} {x lb n : Nat} {v : Vt} {p' q' : Int} {m Q : Nat} (h : RefIn w x lb n { v with z := { v.z with F := fun k => if m ≤ k ∧ k < Q then blk else v.z.F k } }) (ht : There v.z.R v.z.C v.z.r v.z.c) (h' : There v.z.R v.z.C p' q') (hm : m = idx v.z.C v.z.r v.z.c) (hQ : Q = idx v.z.C p' q' + 1) (hmQ : m < Q) : RefIn w x lb n { v with z := wipeZ v.z v.z.r v.z.c p' q' } :=
  h.asZ (z := wipeZ v.z v.z.r v.z.c p' q') rfl rfl (fun k _ => st_wipe ht h' hm hQ hmQ k) rfl rfl
theorem str_K (l : List UInt8) : Qu.str l ++ ⟨#[27, 47, 75]⟩ = Qu.str (l ++ [27, 47, 75]) := by
  apply ByteArray.ext
  simp [Qu.str]
theorem lt3_no {a m : Nat} (h : a + 3 ≤ m) : ¬ (m : Int) < (a : Int) + 3 := by omega
theorem lt3_yes {a m : Nat} (h : ¬ a + 3 ≤ m) : (m : Int) < (a : Int) + 3 := by omega
theorem len3 {l : List UInt8} {m : Nat} (h : l.length + 3 ≤ m) (hm : m ≤ 4096) : (l ++ [27, 47, 75]).length ≤ 4096 := by simp; omega
theorem no63 {a : Nat} (h : a ≤ 4096) : ¬ 9223372036854775807 < a + 3 := by omega
theorem act_J (s : List UInt8) (v : Vt) : actV (begD 74) s v = { v with z := wipeZ v.z v.z.r v.z.c ((v.z.R : Int) - 1) ((v.z.C : Int) - 1) } := rfl
theorem act_K (s : List UInt8) (v : Vt) : actV (begD 75) s v = { v with z := wipeZ v.z v.z.r v.z.c v.z.r ((v.z.C : Int) - 1) } := rfl
theorem act_Z (s : List UInt8) (v : Vt) : actV (begD 90) s v = pushV v [27, 47, 75] := rfl

theorem push_yes {v : Vt} (s : List UInt8) (h : v.xs.length + 3 ≤ v.most) : actV (begD 90) s v = { v with xs := v.xs ++ [27, 47, 75] } := by
  rw [act_Z]
  show ({ v with xs := if v.xs.length + 3 ≤ v.most then v.xs ++ [27, 47, 75] else v.xs, over := if v.xs.length + 3 ≤ v.most then v.over else true } : Vt) = _
  rw [if_pos h, if_pos h]
theorem push_no {v : Vt} (s : List UInt8) (h : ¬ v.xs.length + 3 ≤ v.most) : actV (begD 90) s v = { v with over := true } := by
  rw [act_Z]
  show ({ v with xs := if v.xs.length + 3 ≤ v.most then v.xs ++ [27, 47, 75] else v.xs, over := if v.xs.length + 3 ≤ v.most then v.over else true } : Vt) = _
  rw [if_neg h, if_neg h]

set_option maxRecDepth 100000 in
set_option maxHeartbeats 8000000 in
theorem two_any {w : World} {x lb n B : Nat} {v : Vt} (h : RefIn w x lb n v) (ht : There v.z.R v.z.C v.z.r v.z.c) (hx : B ≤ x) (hl : B ≤ lb) (b : Nat) (hb : b < 256) (h89 : b ≠ 89) (s : List UInt8) : Calls Tryz.prog 46 #[ptr x, .int .u8 (b : Int)] w (EndsR B x n (actV (begD b) s v) w) := by
  obtain ⟨P, m, Q, e1, e2, e3, e4, hm, hmi, e5, e6, e7, e8, e9, hmQ, hQn, hQi, hni⟩ := row_wraps ht h.size h.nle h.C2
  have HM := Lib.hid hmi
  have HQI := Lib.hid hQi
  have HNI := Lib.hid hni
  clear hmi hQi hni
  have HT := Lib.hid ht
  have c0 := h.cR
  have c1 := h.cr
  have c2 := h.cC
  have c3 := h.cc
  go_enter Tryz.func46, Tryz.ntmps46
  go_wp2_with fail
  go_still_tail 14, (by kernel_rfl)
  repeat still_step
  change wpList _ _ _ _ _ w.drew
  have h' := h.kept0 (Kept.refl _ w).drew
  have kW : Kept0 w w.drew := (Kept.refl _ w).drew
  obtain ⟨W, hW⟩ : ∃ W, W = w.drew := ⟨_, rfl⟩
  rw [← hW] at h' kW ⊢
  have H := Lib.hid h'
  have KW := Lib.hid kW
  clear h h' kW hW c0 c1 c2 c3
  have hlx : x < W.heap.size := H.out.lt
  have c0 := H.out.cR
  have c1 := H.out.cr
  have c2 := H.out.cC
  have c3 := H.out.cc
  have c5 := H.out.cL
  have c6 := H.out.cG
  have c7 := H.out.cK
  have c8 := H.out.cH
  have c9 := H.out.cO
  have c11 := H.out.cV
  have f3 := H.out.fz 3
  have f4 := H.out.fz 4
  have f5 := H.out.fz 5
  have f6 := H.out.fz 6
  have f7 := H.out.fz 7
  have f9 := H.out.fz 9
  have f11 := H.out.fz 11
  have ka : ∀ (y : Value) (o : Nat), Hid (Kept (· = x) w (W.setCell ⟨x, o, none⟩ y)) := fun y o => (Kept0.to KW.out).trans (Kept.set1 _ _ _ _)
  have KX := Lib.hid ka
  clear ka
  have hC2 : (v.z.C : Int) ≤ 255 := by have := H.out.C2; omega
  have hR2 : (v.z.R : Int) ≤ 255 := by have := H.out.R2; omega
  obtain ⟨h1, hr2, h3, h4⟩ := ht
  have fin : ∀ (q : Value) (o : Nat) (v' : Vt), RefIn (W.setCell ⟨x, o, none⟩ q) x lb n v' → EndsR B x n v' w (.returned (.tuple #[])) (W.setCell ⟨x, o, none⟩ q) := fun _ _ _ y => y.ends hl (KX.out _ _) (fun i e => e ▸ hx)
  have finD : ∀ (q : Value) (o : Nat) (v' : Vt), RefIn (W.setCell ⟨x, o, none⟩ q) x lb n v' → EndsR B x n v' w (.returned (.tuple #[])) (W.setCell ⟨x, o, none⟩ q).drew := fun _ _ _ y => y.endsD hl (KX.out _ _) (fun i e => e ▸ hx)
  have F := Lib.hid fin
  have FD := Lib.hid finD
  clear fin finD
  by_cases b65 : b = 65
  · subst b65
    have u1 : IntKind.i64.wrap (v.z.r - 1) = v.z.r - 1 := by rw [IntKind.wrap_i64]; omega
    have X : Hid (∀ q : Int, q = max (v.z.r - 1) 0 → RefIn (W.setCell ⟨x, 3, none⟩ (.int .i64 q)) x lb n (actV (begD 65) s v)) := fun q hq => (H.out.setR q).asSt ⟨rfl, rfl, rfl, (st_up HT.out).1.trans hq.symm, (st_up HT.out).2⟩
    go_wp2_with fail
    all_goals go_end0
    all_goals exact F.out _ _ _ (X.out _ (by omega))
  by_cases b66 : b = 66
  · subst b66
    have u1 : IntKind.i64.wrap (v.z.r + 1) = v.z.r + 1 := by rw [IntKind.wrap_i64]; omega
    have u2 : IntKind.i64.wrap ((v.z.R : Int) - 1) = (v.z.R : Int) - 1 := by rw [IntKind.wrap_i64]; omega
    have u3 : wrap64 (v.z.r + 1) = v.z.r + 1 := w64 (by omega) (by omega)
    have u4 : wrap64 ((v.z.R : Int) - 1) = (v.z.R : Int) - 1 := w64 (by omega) (by omega)
    obtain ⟨q, hq⟩ : ∃ q : Int, (if (v.z.R : Int) - 1 < v.z.r + 1 then (v.z.R : Int) - 1 else v.z.r + 1) = q := ⟨_, rfl⟩
    have hqm : min (v.z.r + 1) ((v.z.R : Int) - 1) = q := by rw [← hq]; split <;> omega
    have X : Hid (RefIn (W.setCell ⟨x, 3, none⟩ (.int .i64 q)) x lb n (actV (begD 66) s v)) := (H.out.setR q).asSt ⟨rfl, rfl, rfl, (st_down HT.out).1.trans hqm, (st_down HT.out).2⟩
    clear hqm
    go_wp2_with fail
    go_still_tail 14, (by kernel_rfl)
    repeat still_step
    change wpList _ _ _ _ _ W.drew
    go_wp2_with fail
    go_end0
    exact FD.out _ _ _ X.out
  by_cases b67 : b = 67
  · subst b67
    have u1 : IntKind.i64.wrap (v.z.c + 1) = v.z.c + 1 := by rw [IntKind.wrap_i64]; omega
    have u2 : IntKind.i64.wrap ((v.z.C : Int) - 1) = (v.z.C : Int) - 1 := by rw [IntKind.wrap_i64]; omega
    have u3 : wrap64 (v.z.c + 1) = v.z.c + 1 := w64 (by omega) (by omega)
    have u4 : wrap64 ((v.z.C : Int) - 1) = (v.z.C : Int) - 1 := w64 (by omega) (by omega)
    obtain ⟨q, hq⟩ : ∃ q : Int, (if (v.z.C : Int) - 1 < v.z.c + 1 then (v.z.C : Int) - 1 else v.z.c + 1) = q := ⟨_, rfl⟩
    have hqm : min (v.z.c + 1) ((v.z.C : Int) - 1) = q := by rw [← hq]; split <;> omega
    have X : Hid (RefIn (W.setCell ⟨x, 4, none⟩ (.int .i64 q)) x lb n (actV (begD 67) s v)) := (H.out.setC q).asSt ⟨rfl, rfl, rfl, (st_right HT.out).1, (st_right HT.out).2.trans hqm⟩
    clear hqm
    go_wp2_with fail
    go_still_tail 14, (by kernel_rfl)
    repeat still_step
    change wpList _ _ _ _ _ W.drew
    go_wp2_with fail
    go_end0
    exact FD.out _ _ _ X.out
  by_cases b68 : b = 68
  · subst b68
    have u1 : IntKind.i64.wrap (v.z.c - 1) = v.z.c - 1 := by rw [IntKind.wrap_i64]; omega
    have X : Hid (∀ q : Int, q = max (v.z.c - 1) 0 → RefIn (W.setCell ⟨x, 4, none⟩ (.int .i64 q)) x lb n (actV (begD 68) s v)) := fun q hq => (H.out.setC q).asSt ⟨rfl, rfl, rfl, (st_left HT.out).1, (st_left HT.out).2.trans hq.symm⟩
    go_wp2_with fail
    all_goals go_end0
    all_goals exact F.out _ _ _ (X.out _ (by omega))
  by_cases b72 : b = 72
  · subst b72
    have X : Hid (RefIn ((W.setCell ⟨x, 3, none⟩ (.int .i64 0)).setCell ⟨x, 4, none⟩ (.int .i64 0)) x lb n (actV (begD 72) s v)) := ((H.out.setR 0).setC 0).asSt ⟨rfl, rfl, rfl, (st_move (p := 0) (q := 0) ⟨by omega, by omega, by omega, by omega⟩).1, (st_move (p := 0) (q := 0) ⟨by omega, by omega, by omega, by omega⟩).2⟩
    have K : Hid (Kept (· = x) w ((W.setCell ⟨x, 3, none⟩ (.int .i64 0)).setCell ⟨x, 4, none⟩ (.int .i64 0))) := (show Kept (· = x) w _ from KX.out _ _).trans (Kept.set1 _ _ _ _)
    go_wp2_with fail
    go_end0
    exact X.out.ends hl K.out (fun i e => e ▸ hx)
  by_cases b73 : b = 73
  · subst b73
    by_cases he : v.z.r = 0
    · have Hf := Lib.hid (st_back HT.out he)
      go_wp2_with fail
      refine (rscroll_any H.out false).mono ?_
      rintro e w2 ⟨rfl, h2, k2⟩
      have X2 : Hid (RefIn w2 x W.heap.size n (actV (begD 73) s v)) := h2.asSt (z := feedZ v.z (-1)) ⟨rfl, rfl, Hf.out.2, Hf.out.1, rfl⟩
      have K2 : Hid (Kept (· = x) w w2) := (Kept0.to KW.out).trans k2
      have hB : B ≤ W.heap.size := by omega
      clear h2 k2
      go_wp2_with fail
      go_end0
      exact X2.out.ends hB K2.out (fun i e => e ▸ hx)
    · have u1 : IntKind.i64.wrap (v.z.r - 1) = v.z.r - 1 := by rw [IntKind.wrap_i64]; omega
      have X : Hid (RefIn (W.setCell ⟨x, 3, none⟩ (.int .i64 (v.z.r - 1))) x lb n (actV (begD 73) s v)) := (H.out.setR (v.z.r - 1)).asSt ⟨rfl, rfl, (st_back' HT.out he).2, (st_back' HT.out he).1, rfl⟩
      go_wp2_with fail
      go_end0
      exact F.out _ _ _ X.out
  by_cases b74 : b = 74
  · subst b74
    go_wp2_with fail
    refine (rwipe_any H.out m n (Nat.le_of_lt hm) (Nat.le_refl _)).mono ?_
    rintro e w2 ⟨rfl, h2, k2⟩
    have X2 := Lib.hid (h2.wiped HT.out ⟨by omega, by omega, by omega, by omega⟩ HM.out HNI.out hm)
    rw [← act_J s v] at X2
    have K2 : Hid (Kept (· = lb) w w2) := (Kept0.to KW.out).trans k2
    clear h2 k2
    go_wp2_with fail
    go_end0
    exact X2.out.ends hl K2.out (fun i e => e ▸ hl)
  by_cases b75 : b = 75
  · subst b75
    have hmQ' : m < Q := by
      have h5 := HM.out
      have h6 := HQI.out
      unfold idx at h5 h6
      omega
    go_wp2_with fail
    go_still_tail 17, (by kernel_rfl)
    repeat still_step
    change wpList _ _ _ _ _ W.drew
    go_wp2_with fail
    refine (rwipe_any (H.out.kept0 (Kept.refl _ W).drew) m Q hmQ hQn).mono ?_
    rintro e w2 ⟨rfl, h2, k2⟩
    have X2 := Lib.hid (h2.wiped HT.out ⟨h1, hr2, by omega, by omega⟩ HM.out HQI.out hmQ')
    rw [← act_K s v] at X2
    have K2 : Hid (Kept (· = lb) w w2) := (Kept0.to (KW.out.trans (Kept.refl _ W).drew)).trans k2
    clear h2 k2
    go_wp2_with fail
    go_end0
    exact X2.out.ends hl K2.out (fun i e => e ▸ hl)
  by_cases b70 : b = 70
  · subst b70
    have X : Hid (RefIn (W.setCell ⟨x, 5, none⟩ (.bool true)) x lb n (actV (begD 70) s v)) := H.out.setG true
    go_wp2_with fail
    go_end0
    exact F.out _ _ _ X.out
  by_cases b71 : b = 71
  · subst b71
    have X : Hid (RefIn (W.setCell ⟨x, 5, none⟩ (.bool false)) x lb n (actV (begD 71) s v)) := H.out.setG false
    go_wp2_with fail
    go_end0
    exact F.out _ _ _ X.out
  by_cases b61 : b = 61
  · subst b61
    have X : Hid (RefIn (W.setCell ⟨x, 6, none⟩ (.bool true)) x lb n (actV (begD 61) s v)) := H.out.setK true
    go_wp2_with fail
    go_end0
    exact F.out _ _ _ X.out
  by_cases b62 : b = 62
  · subst b62
    have X : Hid (RefIn (W.setCell ⟨x, 6, none⟩ (.bool false)) x lb n (actV (begD 62) s v)) := H.out.setK false
    go_wp2_with fail
    go_end0
    exact F.out _ _ _ X.out
  by_cases b91 : b = 91
  · subst b91
    have X : Hid (RefIn (W.setCell ⟨x, 7, none⟩ (.bool true)) x lb n (actV (begD 91) s v)) := H.out.setH true
    go_wp2_with fail
    go_end0
    exact F.out _ _ _ X.out
  by_cases b92 : b = 92
  · subst b92
    have X : Hid (RefIn (W.setCell ⟨x, 7, none⟩ (.bool false)) x lb n (actV (begD 92) s v)) := H.out.setH false
    go_wp2_with fail
    go_end0
    exact F.out _ _ _ X.out
  by_cases b90 : b = 90
  · subst b90
    have c10 := H.out.cM
    have hxs := H.out.out
    have hmo := H.out.most
    have hsz : (Qu.str v.xs).size = v.xs.length := Qu.str_size _
    have u1 : IntKind.i64.wrap ((v.xs.length : Int) + 3) = (v.xs.length : Int) + 3 := by rw [IntKind.wrap_i64]; omega
    have u2 : wrap64 ((v.xs.length : Int) + 3) = (v.xs.length : Int) + 3 := w64 (by omega) (by omega)
    by_cases hle : v.xs.length + 3 ≤ v.most
    · have hn : ¬ (v.most : Int) < (v.xs.length : Int) + 3 := lt3_no hle
      have hno : ¬ 9223372036854775807 < v.xs.length + 3 := no63 hxs
      obtain ⟨M, hM⟩ : ∃ M, v.xs ++ [27, 47, 75] = M := ⟨_, rfl⟩
      have happ : Qu.str v.xs ++ ⟨#[27, 47, 75]⟩ = Qu.str M := by rw [str_K v.xs, hM]
      have X : Hid (RefIn (W.setCell ⟨x, 9, none⟩ (.string (Qu.str M))) x lb n (actV (begD 90) s v)) := by
        rw [push_yes s hle, ← hM]
        exact H.out.setO (v.xs ++ [27, 47, 75]) (len3 hle hmo)
      clear hM
      go_wp2_with fail
      go_still_tail 10, (by kernel_rfl)
      repeat still_step
      change wpList _ _ _ _ _ W.drew
      clear hle e1 e2 e3 e4 e5 e6 e7 e8 e9 hmQ hQn hm hxs hmo h1 hr2 h3 h4 hC2 hR2 u2 HM HQI HNI HT H KX F
      go_wp2_with fail
      go_end0
      exact FD.out _ _ _ X.out
    · have hn : (v.most : Int) < (v.xs.length : Int) + 3 := lt3_yes hle
      have X : Hid (RefIn (W.setCell ⟨x, 11, none⟩ (.bool true)) x lb n (actV (begD 90) s v)) := by
        rw [push_no s hle]
        exact H.out.setV true
      go_wp2_with fail
      go_still_tail 10, (by kernel_rfl)
      repeat still_step
      change wpList _ _ _ _ _ W.drew
      clear hle e1 e2 e3 e4 e5 e6 e7 e8 e9 hmQ hQn hm hxs hmo h1 hr2 h3 h4 hC2 hR2 u2 HM HQI HNI HT H KX F
      go_wp2_with fail
      go_end0
      exact FD.out _ _ _ X.out
  have o65 : ¬ (b : Int) = 65 := by omega
  have o66 : ¬ (b : Int) = 66 := by omega
  have o67 : ¬ (b : Int) = 67 := by omega
  have o68 : ¬ (b : Int) = 68 := by omega
  have o72 : ¬ (b : Int) = 72 := by omega
  have o73 : ¬ (b : Int) = 73 := by omega
  have o74 : ¬ (b : Int) = 74 := by omega
  have o75 : ¬ (b : Int) = 75 := by omega
  have o70 : ¬ (b : Int) = 70 := by omega
  have o71 : ¬ (b : Int) = 71 := by omega
  have o61 : ¬ (b : Int) = 61 := by omega
  have o62 : ¬ (b : Int) = 62 := by omega
  have o91 : ¬ (b : Int) = 91 := by omega
  have o92 : ¬ (b : Int) = 92 := by omega
  have o90 : ¬ (b : Int) = 90 := by omega
  have eb : begD b = .no := by
    unfold begD
    rw [if_neg b65, if_neg b66, if_neg b67, if_neg b68, if_neg b72, if_neg b73, if_neg h89, if_neg b74, if_neg b75, if_neg b70, if_neg b71, if_neg b61, if_neg b62, if_neg b91, if_neg b92, if_neg b90]
  have HE : Hid (RefIn W x lb n (actV (begD b) s v)) := by rw [eb]; exact H.out
  go_wp2_with fail
  go_end0
  exact RefIn.ends (T := fun _ => False) HE.out hl KW.out (fun i e => e.elim)

end Go.Proofs.YtlhajbcabpfbkaaGreatDoor
