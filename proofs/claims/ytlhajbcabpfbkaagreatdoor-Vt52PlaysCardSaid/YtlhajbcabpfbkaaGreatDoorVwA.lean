/-
  The document's terminal: a byte; a text.
-/
import Derived.Test.YtlhajbcabpfbkaaGreatDoorVtZ
namespace Go.Proofs.YtlhajbcabpfbkaaGreatDoor
open Go.RowKit
attribute [local go_sem] Oper.semAt_some

/-- What is pending begins with an ESC. -/
def PreOk (v : Vt) : Prop := v.pre.length = 1 → v.pre = [27]
theorem preOk_act {d : Dw} {s : List UInt8} {v : Vt} (hv : v.pre = []) (hw : d = .wait → s.length ≠ 1) : PreOk (actV d s v) := by
  intro h
  cases d <;> simp_all [actV, pushV]
theorem outD_wait (b : Nat) : outD b ≠ .wait := by
  unfold outD
  repeat' split
  all_goals simp
theorem preOk_byte (v : Vt) (b : UInt8) : PreOk (byteV v b) := by
  refine preOk_act rfl (fun h e => ?_)
  have hl : v.pre.length = 0 := by simpa using e
  rw [hl] at h
  unfold doD rowD at h
  by_cases hb : b.toNat = 27
  · rw [if_pos hb] at h; cases h
  · rw [if_neg hb, if_pos rfl] at h
    exact outD_wait _ h
theorem preOk_nil {v : Vt} (h : v.pre = []) : PreOk v := fun e => by rw [h] at e; simp at e

theorem Flat.there {v : Vt} (h : Flat v) : There v.z.R v.z.C v.z.r v.z.c := h.at'
theorem act_put {v : Vt} (h : Flat v) (b : UInt8) : actV .put [b] v = { v with z := { v.z with F := upd v.z.F (idx v.z.C v.z.r v.z.c) ⟨glyphV v.g b.toNat, 0, false, 0⟩, c := if v.z.c < (v.z.C : Int) - 1 then v.z.c + 1 else v.z.c, b := false } } := by
  show ({ v with z := putZ v.z ⟨glyphV v.g b.toNat, 0, false, 0⟩ 1 false } : Vt) = _
  rw [put_clamp _ _ h.nb h.at']
theorem put_min {c C : Int} (h : c < C) : (if c < C - 1 then c + 1 else c) = min (c + 1) (C - 1) := by split <;> omega

section
variable {w : World} {x lb n B : Nat} {v : Vt}
set_option maxRecDepth 100000 in
set_option maxHeartbeats 4000000 in
theorem byte_esc (h : RefIn w x lb n v) (hx : B ≤ x) (hl : B ≤ lb) (b : UInt8) (hb : b.toNat = 27) : Calls Tryz.prog 28 #[ptr x, .int .u8 (b.toNat : Int)] w (EndsR B x n (byteV v b) w) := by
  have X : Hid (RefIn (w.setCell ⟨x, 8, none⟩ (.string ⟨#[27]⟩)) x lb n (byteV v b)) := by
    show RefIn (w.setCell ⟨x, 8, none⟩ (.string (Qu.str [27]))) x lb n (byteV v b)
    have e : byteV v b = { v with pre := [27] } := by
      unfold byteV doD
      rw [if_pos hb]
      rfl
    rw [e]
    exact h.setP [27]
  have c8 := h.cP
  have f8 := h.fz 8
  rw [hb]
  clear h
  go_enter Tryz.func28, Tryz.ntmps28
  go_wp2_with fail
  go_end0
  exact X.out.ends hl (T := (· = x)) (Kept.set1 _ _ _ _) (fun i e => e ▸ hx)

set_option maxRecDepth 100000 in
set_option maxHeartbeats 4000000 in
theorem byte_zero (h : RefIn w x lb n v) (hF : Flat v) (hp : v.pre = []) (hx : B ≤ x) (hl : B ≤ lb) (b : UInt8) (hb : b.toNat ≠ 27) : Calls Tryz.prog 28 #[ptr x, .int .u8 (b.toNat : Int)] w (EndsR B x n (byteV v b) w) := by
  have hv : ({ v with pre := [] } : Vt) = v := by cases v; simp only at hp; rw [hp]
  have e : byteV v b = actV (outD b.toNat) [b] v := by
    unfold byteV doD rowD
    rw [hp, hv, if_neg hb]
    rfl
  rw [e]
  have c8 := h.cP
  have hs : (Qu.str v.pre).size = 0 := by rw [Qu.str_size, hp]; rfl
  have hb256 : b.toNat < 256 := UInt8.toNat_lt b
  have H := Lib.hid h
  have HF := Lib.hid hF
  have nb : ¬ (b.toNat : Int) = 27 := by omega
  clear h e hF hv
  by_cases h1 : 32 ≤ b.toNat ∧ b.toNat ≤ 126
  · have n1 : (32 : Int) ≤ (b.toNat : Int) := by omega
    have n2 : (b.toNat : Int) ≤ 126 := by omega
    have eo : outD b.toNat = .put := by
      unfold outD
      rw [if_neg (by omega), if_neg (by omega), if_neg (by omega), if_neg (by omega), if_pos h1]
    rw [eo]
    go_enter Tryz.func28, Tryz.ntmps28
    go_wp2_with fail
    refine (rput_any H.out HF.out.at' b.toNat hb256).mono ?_
    rintro e w2 ⟨rfl, h2, k2⟩
    have X : Hid (RefIn w2 x lb n (actV .put [b] v)) := by
      rw [act_put HF.out b]
      exact h2.asSt ⟨rfl, rfl, rfl, rfl, put_min HF.out.at'.2.2.2⟩
    have K2 := Lib.hid k2
    clear h2 k2
    go_wp2_with fail
    go_end0
    exact X.out.ends hl K2.out (fun i e => e.elim (fun e => e ▸ hx) (fun e => e ▸ hl))
  by_cases h2 : b.toNat < 32
  · have n1 : ¬ (32 : Int) ≤ (b.toNat : Int) := by omega
    have n2 : (b.toNat : Int) < 32 := by omega
    go_enter Tryz.func28, Tryz.ntmps28
    go_wp2_with fail
    refine (control_any H.out HF.out.at' hx hl b.toNat h2 hb [b]).mono ?_
    rintro e w2 ⟨rfl, h2, k2⟩
    have X := Lib.hid h2
    have K2 := Lib.hid k2
    clear h2 k2
    go_wp2_with fail
    go_end0
    exact ⟨rfl, X.out, K2.out⟩
  · have n1 : (32 : Int) ≤ (b.toNat : Int) := by omega
    have n2 : ¬ (b.toNat : Int) ≤ 126 := by omega
    have n3 : ¬ (b.toNat : Int) < 32 := by omega
    have eo : outD b.toNat = .no := by
      unfold outD
      rw [if_neg (by omega), if_neg (by omega), if_neg (by omega), if_neg (by omega), if_neg h1]
    rw [eo]
    go_enter Tryz.func28, Tryz.ntmps28
    go_wp2_with fail
    go_end0
    exact RefIn.ends (T := fun _ => False) H.out hl (Kept.refl _ _) (fun i e => e.elim)

set_option maxRecDepth 100000 in
set_option maxHeartbeats 4000000 in
theorem byte_one (h : RefIn w x lb n v) (hF : Flat v) (hp : v.pre = [27]) (hx : B ≤ x) (hl : B ≤ lb) (b : UInt8) (hb : b.toNat ≠ 27) : Calls Tryz.prog 28 #[ptr x, .int .u8 (b.toNat : Int)] w (EndsR B x n (byteV v b) w) := by
  have e : byteV v b = actV (begD b.toNat) [27, b] { v with pre := [] } := by
    unfold byteV doD rowD
    rw [hp, if_neg hb]
    rfl
  rw [e]
  have c8 := h.cP
  have f8 := h.fz 8
  have hs : (Qu.str v.pre).size = 1 := by rw [Qu.str_size, hp]; rfl
  have hb256 : b.toNat < 256 := UInt8.toNat_lt b
  have HF := Lib.hid hF
  have nb : ¬ (b.toNat : Int) = 27 := by omega
  by_cases h89 : b.toNat = 89
  · have n1 : (b.toNat : Int) = 89 := by omega
    have X : Hid (RefIn (w.setCell ⟨x, 8, none⟩ (.string ⟨#[27, 89]⟩)) x lb n (actV (begD b.toNat) [27, b] { v with pre := [] })) := by
      rw [h89]
      have eb : b = 89 := UInt8.toNat_inj.1 (by rw [h89]; rfl)
      rw [eb]
      exact h.setP [27, 89]
    clear h e
    go_enter Tryz.func28, Tryz.ntmps28
    go_wp2_with fail
    go_end0
    exact X.out.ends hl (T := (· = x)) (Kept.set1 _ _ _ _) (fun i e => e ▸ hx)
  · have n1 : ¬ (b.toNat : Int) = 89 := by omega
    have h0 := h.setP []
    have k0 : Kept (· = x) w (w.setCell ⟨x, 8, none⟩ (.string (Qu.str []))) := Kept.set1 _ _ _ _
    have es : (⟨#[]⟩ : ByteArray) = Qu.str [] := rfl
    have H0 := Lib.hid h0
    have K0 := Lib.hid k0
    clear h e h0 k0
    go_enter Tryz.func28, Tryz.ntmps28
    go_wp2_with fail
    refine (two_any H0.out HF.out.at' hx hl b.toNat hb256 h89 [27, b]).mono ?_
    rintro e w2 ⟨rfl, h2, k2⟩
    have X := Lib.hid h2
    have K2 : Hid (Kept (B ≤ ·) w w2) := (K0.out.mono (fun i _ e => e ▸ hx)).trans k2
    clear h2 k2
    go_wp2_with fail
    go_end0
    exact ⟨rfl, X.out, K2.out⟩

set_option maxRecDepth 100000 in
set_option maxHeartbeats 4000000 in
theorem byte_two (h : RefIn w x lb n v) (hp : v.pre.length = 2) (hx : B ≤ x) (hl : B ≤ lb) (b : UInt8) (hb : b.toNat ≠ 27) : Calls Tryz.prog 28 #[ptr x, .int .u8 (b.toNat : Int)] w (EndsR B x n (byteV v b) w) := by
  have e : byteV v b = { v with pre := v.pre ++ [b] } := by
    unfold byteV doD rowD
    rw [hp, if_neg hb, if_neg (by omega), if_neg (by omega), if_pos rfl]
    rfl
  rw [e]
  have c8 := h.cP
  have f8 := h.fz 8
  have hs : (Qu.str v.pre).size = 2 := by rw [Qu.str_size, hp]
  have nb : ¬ (b.toNat : Int) = 27 := by omega
  have hlx := h.lt
  have H := Lib.hid h
  have hcv : ∀ W : World, W.cell? ⟨w.heap.size, 0, none⟩ = some (.int .u8 (b.toNat : Int)) → (convert 77 9 (.slice (some ⟨w.heap.size, 0, none⟩) 1 1)).run Tryz.prog W = .ok (.string (Qu.str [b])) W := fun W hW =>
    run_convert_bytes_back W 77 9 5 ⟨w.heap.size, 0, none⟩ 1 [b] Tryz.underlying77 Tryz.underlying5 Tryz.underlying9 (fun j hj => by
      obtain rfl : j = 0 := by simp at hj; omega
      exact hW)
  obtain ⟨M, hM⟩ : ∃ M, v.pre ++ [b] = M := ⟨_, rfl⟩
  have happ : Qu.str v.pre ++ Qu.str [b] = Qu.str M := by rw [Qu.str_append, hM]
  rw [hM]
  have hno : ¬ 9223372036854775807 < 2 + 1 := by omega
  have hb1 : (Qu.str [b]).size = 1 := Qu.str_size _
  have X : Hid (RefIn (((w.setCell ⟨x, 8, none⟩ (.string (Qu.str M))).alloc (.cells #[.int .u8 (b.toNat : Int)] 5)).drew) x lb n { v with pre := M }) := (h.setP M).kept0 ((Kept.refl _ _).alloc _).drew
  have K : Hid (Kept (· = x) w (((w.setCell ⟨x, 8, none⟩ (.string (Qu.str M))).alloc (.cells #[.int .u8 (b.toNat : Int)] 5)).drew)) := ((Kept.set1 _ _ _ _).alloc _).drew
  clear h e hM
  go_enter Tryz.func28, Tryz.ntmps28
  go_wp2_with fail
  go_region_with (fail)
  all_goals
    go_wp2_with fail
    go_end0
    exact X.out.ends hl K.out (fun i e => e ▸ hx)

theorem byte_w (p : UInt8) {r : Int} (hr : (p.toNat : Int) - 32 = r) : wrap64 (p.toNat : Int) = (p.toNat : Int) ∧ wrap64 ((p.toNat : Int) - 32) = r ∧ IntKind.i64.wrap ((p.toNat : Int) - 32) = r := by
  have h : p.toNat < 256 := UInt8.toNat_lt p
  refine ⟨w64 (by omega) (by omega), by rw [w64 (by omega) (by omega)]; exact hr, ?_⟩
  rw [IntKind.wrap_i64]; omega
theorem st_go {z : St} (h : There z.R z.C z.r z.c) (row col : Int) : (moveZ z (goR z.R z.r row) (goC z.c col)).r = (if 0 ≤ row ∧ row < (z.R : Int) then row else z.r) ∧ (moveZ z (goR z.R z.r row) (goC z.c col)).c = (if 0 ≤ col then min col ((z.C : Int) - 1) else z.c) := by
  obtain ⟨h1, h2, h3, h4⟩ := h
  constructor
  · show nr (if 0 ≤ row ∧ row ≤ (z.R : Int) - 1 then row else z.r) z.R = _
    by_cases e : 0 ≤ row ∧ row < (z.R : Int)
    · rw [if_pos e, if_pos (by omega)]; exact nr_in _ _ e.1 e.2
    · rw [if_neg e, if_neg (by omega)]; exact nr_in _ _ h1 h2
  · show nr (if 0 ≤ col then col else z.c) z.C = _
    by_cases e : 0 ≤ col
    · rw [if_pos e, if_pos e]; unfold nr; omega
    · rw [if_neg e, if_neg e]; exact nr_in _ _ h3 h4

set_option maxRecDepth 100000 in
set_option maxHeartbeats 8000000 in
theorem byte_three (h : RefIn w x lb n v) (hF : Flat v) (hp : v.pre.length = 3) (hx : B ≤ x) (hl : B ≤ lb) (b : UInt8) (hb : b.toNat ≠ 27) : Calls Tryz.prog 28 #[ptr x, .int .u8 (b.toNat : Int)] w (EndsR B x n (byteV v b) w) := by
  obtain ⟨p0, p1, p2, hpre⟩ : ∃ p0 p1 p2, v.pre = [p0, p1, p2] := by
    match v.pre, hp with
    | [a, b, c], _ => exact ⟨a, b, c, rfl⟩
  have e : byteV v b = { v with pre := [], z := moveZ v.z (goR v.z.R v.z.r ((p2.toNat : Int) - 32)) (goC v.z.c ((b.toNat : Int) - 32)) } := by
    unfold byteV doD rowD
    rw [hpre, if_neg hb]
    rfl
  rw [e]
  have c8 := h.cP
  have f8 := h.fz 8
  have nb : ¬ (b.toNat : Int) = 27 := by omega
  have h0 := h.setP []
  have H0 := Lib.hid h0
  have k0 : Kept (· = x) w (w.setCell ⟨x, 8, none⟩ (.string (Qu.str []))) := Kept.set1 _ _ _ _
  have K0 := Lib.hid k0
  have es : (⟨#[]⟩ : ByteArray) = Qu.str [] := rfl
  have HS := Lib.hid (st_go hF.at' ((p2.toNat : Int) - 32) ((b.toNat : Int) - 32))
  obtain ⟨str1, hstr⟩ : ∃ str1, Qu.str v.pre = str1 := ⟨_, rfl⟩
  have hlt : 2 < str1.size := by rw [← hstr, Qu.str_size, hp]; omega
  have hsz : str1.size = 3 := by rw [← hstr, Qu.str_size, hp]
  have hg2 : str1[2]'hlt = p2 := by subst hstr; simp only [hpre]; rfl
  rw [hstr] at c8
  have c1 := h.cr
  have c0 := h.cR
  have c2 := h.cC
  have c3 := h.cc
  have f3 := h.fz 3
  have f4 := h.fz 4
  have b2 : p2.toNat < 256 := UInt8.toNat_lt p2
  have b3 : b.toNat < 256 := UInt8.toNat_lt b
  have hC2 : (v.z.C : Int) ≤ 255 := by have := h.C2; omega
  obtain ⟨row, hrow⟩ : ∃ row : Int, (p2.toNat : Int) - 32 = row := ⟨_, rfl⟩
  obtain ⟨col, hcol⟩ : ∃ col : Int, (b.toNat : Int) - 32 = col := ⟨_, rfl⟩
  have u3 : IntKind.i64.wrap ((v.z.C : Int) - 1) = (v.z.C : Int) - 1 := by rw [IntKind.wrap_i64]; omega
  obtain ⟨v1, v4, u1⟩ := byte_w p2 hrow
  obtain ⟨v3, v5, u2⟩ := byte_w b hcol
  rw [hrow, hcol] at HS ⊢
  have hlx := h.lt
  clear h e h0 k0 hstr hpre hp hF hrow hcol b2 b3
  obtain ⟨v2, hv2⟩ : ∃ v2, ({ v with pre := [], z := moveZ v.z (goR v.z.R v.z.r row) (goC v.z.c col) } : Vt) = v2 := ⟨_, rfl⟩
  have XR : Hid (∀ (lb' : Nat) (w' : World) (r' c' : Int), r' = (if 0 ≤ row ∧ row < (v.z.R : Int) then row else v.z.r) → c' = (if 0 ≤ col then min col ((v.z.C : Int) - 1) else v.z.c) → RefIn w' x lb' n { v with pre := [], z := { v.z with r := r', c := c' } } → RefIn w' x lb' n v2) := by
    intro lb' w' r' c' hr hc h
    rw [← hv2]
    exact h.asSt (z := moveZ v.z (goR v.z.R v.z.r row) (goC v.z.c col)) ⟨rfl, rfl, rfl, HS.out.1.trans hr.symm, HS.out.2.trans hc.symm⟩
  rw [hv2]
  clear hv2
  obtain ⟨W0, hW0⟩ : ∃ W0, W0 = w.setCell ⟨x, 8, none⟩ (.string (Qu.str [])) := ⟨_, rfl⟩
  have X34 : Hid (∀ q : Int, q = (if 0 ≤ col then min col ((v.z.C : Int) - 1) else v.z.c) → (0 ≤ row ∧ row < (v.z.R : Int)) → EndsR B x n v2 w (.returned (.tuple #[])) (((w.setCell ⟨x, 8, none⟩ (.string (Qu.str []))).setCell ⟨x, 3, none⟩ (.int .i64 row)).setCell ⟨x, 4, none⟩ (.int .i64 q))) := fun q hq hr => (XR.out lb _ row q (by rw [if_pos hr]) hq ((H0.out.setR row).setC q)).ends hl (T := (· = x)) ((K0.out.trans (Kept.set1 _ _ _ _)).trans (Kept.set1 _ _ _ _)) (fun i e => e ▸ hx)
  have X4 : Hid (∀ q : Int, q = (if 0 ≤ col then min col ((v.z.C : Int) - 1) else v.z.c) → ¬ (0 ≤ row ∧ row < (v.z.R : Int)) → EndsR B x n v2 w (.returned (.tuple #[])) ((w.setCell ⟨x, 8, none⟩ (.string (Qu.str []))).setCell ⟨x, 4, none⟩ (.int .i64 q))) := fun q hq hr => (XR.out lb _ v.z.r q (by rw [if_neg hr]) hq (H0.out.setC q)).ends hl (T := (· = x)) (K0.out.trans (Kept.set1 _ _ _ _)) (fun i e => e ▸ hx)
  have X3 : Hid (¬ 0 ≤ col → (0 ≤ row ∧ row < (v.z.R : Int)) → EndsR B x n v2 w (.returned (.tuple #[])) ((w.setCell ⟨x, 8, none⟩ (.string (Qu.str []))).setCell ⟨x, 3, none⟩ (.int .i64 row))) := fun hc hr => (XR.out lb _ row v.z.c (by rw [if_pos hr]) (by rw [if_neg hc]) (H0.out.setR row)).ends hl (T := (· = x)) (K0.out.trans (Kept.set1 _ _ _ _)) (fun i e => e ▸ hx)
  have X0 : Hid (¬ 0 ≤ col → ¬ (0 ≤ row ∧ row < (v.z.R : Int)) → EndsR B x n v2 w (.returned (.tuple #[])) (w.setCell ⟨x, 8, none⟩ (.string (Qu.str [])))) := fun hc hr => (XR.out lb _ v.z.r v.z.c (by rw [if_neg hr]) (by rw [if_neg hc]) H0.out).ends hl (T := (· = x)) K0.out (fun i e => e ▸ hx)
  clear hW0 XR H0 K0
  by_cases n3 : 0 ≤ col
  · by_cases n1 : 0 ≤ row
    · by_cases n2 : row < (v.z.R : Int)
      · go_enter Tryz.func28, Tryz.ntmps28
        go_wp2_with fail
        all_goals go_end0
        all_goals exact X34.out _ (by rw [if_pos n3]; omega) ⟨n1, n2⟩
      · go_enter Tryz.func28, Tryz.ntmps28
        go_wp2_with fail
        all_goals go_end0
        all_goals exact X4.out _ (by rw [if_pos n3]; omega) (by omega)
    · go_enter Tryz.func28, Tryz.ntmps28
      go_wp2_with fail
      all_goals go_end0
      all_goals exact X4.out _ (by rw [if_pos n3]; omega) (by omega)
  · by_cases n1 : 0 ≤ row
    · by_cases n2 : row < (v.z.R : Int)
      · go_enter Tryz.func28, Tryz.ntmps28
        go_wp2_with fail
        all_goals go_end0
        all_goals exact X3.out (by omega) ⟨n1, n2⟩
      · go_enter Tryz.func28, Tryz.ntmps28
        go_wp2_with fail
        all_goals go_end0
        all_goals exact X0.out (by omega) (by omega)
    · go_enter Tryz.func28, Tryz.ntmps28
      go_wp2_with fail
      all_goals go_end0
      all_goals exact X0.out (by omega) (by omega)

/-- A byte. -/
theorem byte_any (h : RefIn w x lb n v) (hF : Flat v) (hP : PreOk v) (hx : B ≤ x) (hl : B ≤ lb) (b : UInt8) : Calls Tryz.prog 28 #[ptr x, .int .u8 (b.toNat : Int)] w (EndsR B x n (byteV v b) w) := by
  by_cases hb : b.toNat = 27
  · exact byte_esc h hx hl b hb
  have h3 := hF.pre
  by_cases h0 : v.pre.length = 0
  · exact byte_zero h hF (List.eq_nil_of_length_eq_zero h0) hx hl b hb
  by_cases h1 : v.pre.length = 1
  · exact byte_one h hF (hP h1) hx hl b hb
  by_cases h2 : v.pre.length = 2
  · exact byte_two h h2 hx hl b hb
  · exact byte_three h hF (by omega) hx hl b hb

set_option maxRecDepth 100000 in
set_option maxHeartbeats 4000000 in
/-- A text. -/
theorem rfeed_any (h : RefIn w x lb n v) (hF : Flat v) (hP : PreOk v) (hx : B ≤ x) (hl : B ≤ lb) (s : List UInt8) (hs : s.length ≤ 140737488351232) : Calls Tryz.prog 12 #[ptr x, .string (Qu.str s)] w fun e w' => EndsR B x n (feedV s v) w e w' ∧ PreOk (feedV s v) := by
  have hsz : (Qu.str s).size = s.length := Qu.str_size _
  have hB : B ≤ w.heap.size := Nat.le_trans hx (Nat.le_of_lt h.lt)
  have H := Lib.hid h
  have HF := Lib.hid hF
  have HP := Lib.hid hP
  clear h hF hP
  go_enter Tryz.func12, Tryz.ntmps12
  go_wp2_with fail
  go_loopw [4] (fun s4 wr => ∃ k : Nat, k ≤ s.length ∧ s4 = .int .i64 (k : Int) ∧ Hid (∃ lb', B ≤ lb' ∧ RefIn wr x lb' n (feedV (s.take k) v)) ∧ Hid (Kept (B ≤ ·) w wr) ∧ Hid (PreOk (feedV (s.take k) v))) (fun s4 _ => s.length - (Qu.num s4).toNat)
  case atStart => exact ⟨0, Nat.zero_le _, rfl, ⟨lb, hl, H.out⟩, Kept.refl _ _, HP.out⟩
  case round =>
    obtain ⟨k, hk, rfl, hr, kr, hp⟩ := hrel
    have Hfl : Hid (Flat (feedV (s.take k) v)) := flat_feed HF.out
    by_cases hlt : k < s.length
    · obtain ⟨y, hy⟩ : ∃ y, y = feedV (s.take k) v := ⟨_, rfl⟩
      obtain ⟨bt, hbt⟩ : ∃ bt, bt = s[k] := ⟨_, rfl⟩
      have HS : Hid (feedV (s.take (k + 1)) v = byteV y bt) := by rw [hy, hbt]; exact feed_step hlt v
      rw [← hy] at hr hp Hfl
      have hltS : k < (Qu.str s).size := by rw [hsz]; exact hlt
      have hgt : (Qu.str s)[k]'hltS = bt := by rw [hbt]; rfl
      have hlt' : (k : Int) < (s.length : Int) := by omega
      have hwr : IntKind.i64.wrap ((k : Int) + 1) = (k : Int) + 1 := wrap_one k (Nat.le_trans (Nat.le_of_lt hlt) hs)
      clear hy hbt
      obtain ⟨lb', hl', hr'⟩ := hr
      have HR := Lib.hid hr'
      clear hr'
      go_wp2_with fail
      refine (byte_any HR.out Hfl.out hp.out hx hl' bt).mono ?_
      rintro e w2 ⟨rfl, h2, k2⟩
      have H2 := Lib.hid h2
      have K2 : Hid (Kept (B ≤ ·) w w2) := kr.out.trans k2
      clear h2 k2
      go_wp2_with fail
      go_roundw
      case rel => exact ⟨k + 1, hlt, by go_num, by rw [HS.out]; exact H2.out, K2.out, by rw [HS.out]; exact preOk_byte y bt⟩
      case measure => simp [Qu.num]; omega
    · have hkt : k = s.length := by omega
      rw [hkt, List.take_length] at hr hp
      have hlt' : ¬ (k : Int) < (s.length : Int) := by omega
      go_wp2_with fail
      go_end0
      exact ⟨⟨rfl, hr.out, kr.out⟩, hp.out⟩
end

end Go.Proofs.YtlhajbcabpfbkaaGreatDoor
