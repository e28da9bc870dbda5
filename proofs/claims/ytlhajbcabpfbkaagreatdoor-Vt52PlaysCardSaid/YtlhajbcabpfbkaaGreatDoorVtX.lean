/-
  The document's terminal: a byte's glyph is put.
-/
import Derived.Test.YtlhajbcabpfbkaaGreatDoorVtW
namespace Go.Proofs.YtlhajbcabpfbkaaGreatDoor
open Go.RowKit
attribute [local go_sem] Oper.semAt_some

theorem idx_wraps {R C n : Nat} {r c : Int} (h : There R C r c) (hn : n = R * C) (h16 : n ≤ 65025) (hC : C ≤ 255) : ∃ (P : Int) (m : Nat), IntKind.i64.wrap (r * C) = P ∧ wrap64 (r * C) = P ∧ IntKind.i64.wrap (P + c) = (m : Int) ∧ wrap64 (P + c) = (m : Int) ∧ m < n ∧ m = idx C r c := by
  have hi := idx_lt h
  obtain ⟨h1, h2, h3, h4⟩ := h
  obtain ⟨a, rfl⟩ : ∃ a : Nat, r = a := ⟨r.toNat, by omega⟩
  obtain ⟨b, rfl⟩ : ∃ b : Nat, c = b := ⟨c.toNat, by omega⟩
  obtain ⟨m, hm⟩ : ∃ m, m = idx C (a : Int) (b : Int) := ⟨_, rfl⟩
  have hm2 : m = a * C + b := by rw [hm]; simp [idx]
  rw [← hm, ← hn] at hi
  have e : (a : Int) * (C : Int) = ((a * C : Nat) : Int) := (Int.natCast_mul a C).symm
  refine ⟨((a * C : Nat) : Int), m, ?_, ?_, ?_, ?_, hi, hm⟩
  · rw [e, IntKind.wrap_i64]; omega
  · rw [e]; exact w64 (by omega) (by omega)
  · rw [hm2, IntKind.wrap_i64]; omega
  · rw [hm2, w64 (by omega) (by omega)]; omega

set_option maxRecDepth 100000 in
set_option maxHeartbeats 4000000 in
theorem rput_any {w : World} {x lb n : Nat} {v : Vt} (h : RefIn w x lb n v) (ht : There v.z.R v.z.C v.z.r v.z.c) (b : Nat) (hb : b < 256) : Calls Tryz.prog 44 #[ptr x, .int .u8 (b : Int)] w fun e w' => e = .returned (.tuple #[]) ∧ RefIn w' x lb n { v with z := { v.z with F := upd v.z.F (idx v.z.C v.z.r v.z.c) ⟨glyphV v.g b, 0, false, 0⟩, c := min (v.z.c + 1) ((v.z.C : Int) - 1) } } ∧ Kept (fun i => i = x ∨ i = lb) w w' := by
  obtain ⟨P, m, e1, e2, e3, e4, hm, hmi⟩ := idx_wraps ht h.size h.nle h.C2
  have HM := Lib.hid hmi
  have H := Lib.hid h
  have hlx : x < w.heap.size := h.lt
  have c0 := h.cL
  have c1 := h.cr
  have c2 := h.cC
  have c3 := h.cc
  have c4 := h.cG
  have fx := h.fz 4
  have hne := h.ne
  have hne' : ¬ lb = x := fun e => hne e.symm
  have r1 := h.row.cell hm
  have r2 := h.row.frozen m
  obtain ⟨h1, h2, h3, h4⟩ := ht
  have hC2 := h.C2
  have hC3 : (v.z.C : Int) ≤ 255 := by omega
  have hmn : (m : Int) < (n : Int) := by omega
  have u1 : IntKind.i64.wrap (v.z.c + 1) = v.z.c + 1 := by rw [IntKind.wrap_i64]; omega
  have u2 : IntKind.i64.wrap ((v.z.C : Int) - 1) = (v.z.C : Int) - 1 := by rw [IntKind.wrap_i64]; omega
  have u3 : wrap64 (v.z.c + 1) = v.z.c + 1 := w64 (by omega) (by omega)
  have u4 : wrap64 ((v.z.C : Int) - 1) = (v.z.C : Int) - 1 := w64 (by omega) (by omega)
  have hg : Hid (∀ w', Calls Tryz.prog 64 #[.int .i64 (if v.g then 3 else 1), .int .u8 (b : Int)] w' fun e w'' => e = .returned (.int .i32 (glyphV v.g b)) ∧ Kept0 w' w'') := fun w' => Gl.ref_any _ b hb w'
  obtain ⟨gl, hgl⟩ : ∃ gl, glyphV v.g b = gl := ⟨_, rfl⟩
  rw [hgl] at hg ⊢
  clear h hmi hgl h1 h2 hC2
  obtain ⟨v2, hv2⟩ : ∃ v2, ({ v with z := { v.z with F := upd v.z.F (idx v.z.C v.z.r v.z.c) ⟨gl, 0, false, 0⟩, c := min (v.z.c + 1) ((v.z.C : Int) - 1) } } : Vt) = v2 := ⟨_, rfl⟩
  have HV := Lib.hid hv2
  rw [hv2]
  clear hv2
  go_enter Tryz.func44, Tryz.ntmps44
  cases hgv : v.g
  all_goals
    rw [hgv] at c4 hg
    simp only [if_true, if_false, Bool.false_eq_true] at hg
    go_wp2_with fail
    go_region_held3 (fun w' => w'.cell? ⟨x, 2, none⟩ = some (.slice (some ⟨lb, 0, none⟩) n n) ∧ w'.cell? ⟨x, 3, none⟩ = some (.int .i64 v.z.r) ∧ w'.cell? ⟨x, 1, none⟩ = some (.int .i64 v.z.C) ∧ w'.cell? ⟨x, 4, none⟩ = some (.int .i64 v.z.c)) (go_keep)
      (first
        | (go_at_call 64; refine (hg.out _).mono ?_; rintro e w2 ⟨rfl, k2⟩; have HK : Hid (Kept0 w w2) := (Kept.refl (fun _ => False) w).drew.trans k2; have z0 := kcell HK.out c0; have z1 := kcell HK.out c1; have z2 := kcell HK.out c2; have z3 := kcell HK.out c3; have z5 := kcell HK.out r1; have z6 := (HK.out.frozen (b := lb) (o := m) (H.out.row.lt) (fun e => e)).trans r2; have z7 := (HK.out.frozen (b := x) (o := 4) hlx (fun e => e)).trans fx; clear k2))
    rename_i hHeld
    clear hHeld
    have X2 : Hid (RefIn (w2.setCell ⟨lb, m, none⟩ (.int .i32 gl)) x lb n { v with z := { v.z with F := upd v.z.F (idx v.z.C v.z.r v.z.c) ⟨gl, 0, false, 0⟩ } }) := by
      have h2 := H.out.kept0 HK.out
      exact h2.onRow (Kept.set1 _ _ _ _) ((h2.row.set m gl).congr (fun k _ => by
        rw [← HM.out]
        unfold updI upd
        by_cases e : k = m
        · rw [if_pos e, if_pos e]
        · rw [if_neg e, if_neg e]))
    have K2 : Hid (Kept (fun i => i = x ∨ i = lb) w (w2.setCell ⟨lb, m, none⟩ (.int .i32 gl))) := (Kept0.to HK.out).trans ((Kept.set1 _ _ _ _).mono (fun i _ e => Or.inr e))
    obtain ⟨W, hW⟩ : ∃ W, W = w2.setCell ⟨lb, m, none⟩ (.int .i32 gl) := ⟨_, rfl⟩
    rw [← hW] at X2 K2 ⊢
    have g1 := X2.out.cC
    have g2 := X2.out.cc
    have g3 := X2.out.fz 4
    have glx := X2.out.lt
    obtain ⟨q, hq⟩ : ∃ q : Int, (if (v.z.C : Int) - 1 < v.z.c + 1 then (v.z.C : Int) - 1 else v.z.c + 1) = q := ⟨_, rfl⟩
    have hqm : min (v.z.c + 1) ((v.z.C : Int) - 1) = q := by rw [← hq]; split <;> omega
    have X3 : Hid (RefIn (W.drew.setCell ⟨x, 4, none⟩ (.int .i64 q)) x lb n v2) := HV.out ▸ hqm ▸ (X2.out.kept0 (Kept.refl _ W).drew).setC (min (v.z.c + 1) ((v.z.C : Int) - 1))
    have K3 : Hid (Kept (fun i => i = x ∨ i = lb) w (W.drew.setCell ⟨x, 4, none⟩ (.int .i64 q))) := (K2.out.drew).trans ((Kept.set1 _ _ _ _).mono (fun i _ e => Or.inl e))
    clear hW z0 z1 z2 z3 z5 z6 z7 HK c0 c1 c2 c3 c4 r1 r2 fx hg e1 e2 e3 e4 HM H hlx hqm HV
    go_wp2_with fail
    go_still_tail 14, (by kernel_rfl)
    repeat still_step
    change wpList _ _ _ _ _ W.drew
    go_wp2_with fail
    go_end0
    exact ⟨rfl, X3.out, K3.out⟩

end Go.Proofs.YtlhajbcabpfbkaaGreatDoor
