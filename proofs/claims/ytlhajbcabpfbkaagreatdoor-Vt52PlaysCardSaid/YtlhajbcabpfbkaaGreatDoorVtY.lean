/-
  The document's terminal: a byte below 32, the byte behind an ESC.
-/
import Derived.Test.YtlhajbcabpfbkaaGreatDoorVtX
namespace Go.Proofs.YtlhajbcabpfbkaaGreatDoor
open Go.RowKit
attribute [local go_sem] Oper.semAt_some

/-- It ends, and the document's terminal is v now. -/
def EndsR (B x n : Nat) (v : Vt) (w : World) : Ending → World → Prop := fun e w' => e = .returned (.tuple #[]) ∧ (∃ lb, B ≤ lb ∧ RefIn w' x lb n v) ∧ Kept (B ≤ ·) w w'
namespace RefIn
variable {w w' : World} {x lb n B : Nat} {v : Vt}
/-- The same cells are said by another screen. -/
theorem asZ (h : RefIn w x lb n v) {z : St} (hR : z.R = v.z.R) (hC : z.C = v.z.C) (hF : ∀ i, i < n → (z.F i).g = (v.z.F i).g) (hr : z.r = v.z.r) (hc : z.c = v.z.c) : RefIn w x lb n { v with z := z } :=
  h.congr (by simp [headR, hR, hC, hr, hc]) hF hR hC rfl rfl
theorem asSt (h : RefIn w x lb n v) {z : St} (e : z.R = v.z.R ∧ z.C = v.z.C ∧ z.F = v.z.F ∧ z.r = v.z.r ∧ z.c = v.z.c) : RefIn w x lb n { v with z := z } :=
  h.asZ e.1 e.2.1 (fun i _ => by rw [e.2.2.1]) e.2.2.2.1 e.2.2.2.2
theorem ends {v' : Vt} (h : RefIn w' x lb n v') (hl : B ≤ lb) {T : Nat → Prop} (k : Kept T w w') (hT : ∀ i, T i → B ≤ i) : EndsR B x n v' w (.returned (.tuple #[])) w' := ⟨rfl, ⟨lb, hl, h⟩, k.mono (fun i _ e => hT i e)⟩
theorem endsD {v' : Vt} (h : RefIn w' x lb n v') (hl : B ≤ lb) {T : Nat → Prop} (k : Kept T w w') (hT : ∀ i, T i → B ≤ i) : EndsR B x n v' w (.returned (.tuple #[])) w'.drew := (h.kept0 (Kept.refl _ w').drew).ends hl k.drew hT
end RefIn

section
variable {z : St}
theorem st_left (h : There z.R z.C z.r z.c) : (stepZ z 0 (-1)).r = z.r ∧ (stepZ z 0 (-1)).c = max (z.c - 1) 0 := by
  obtain ⟨h1, h2, h3, h4⟩ := h
  constructor
  · show nr (z.r + cut 0 255) z.R = _; unfold nr cut; omega
  · show nr (z.c + cut (-1) 255) z.C = _; unfold nr cut; omega
theorem st_right (h : There z.R z.C z.r z.c) : (stepZ z 0 1).r = z.r ∧ (stepZ z 0 1).c = min (z.c + 1) ((z.C : Int) - 1) := by
  obtain ⟨h1, h2, h3, h4⟩ := h
  constructor
  · show nr (z.r + cut 0 255) z.R = _; unfold nr cut; omega
  · show nr (z.c + cut 1 255) z.C = _; unfold nr cut; omega
theorem st_up (h : There z.R z.C z.r z.c) : (stepZ z (-1) 0).r = max (z.r - 1) 0 ∧ (stepZ z (-1) 0).c = z.c := by
  obtain ⟨h1, h2, h3, h4⟩ := h
  constructor
  · show nr (z.r + cut (-1) 255) z.R = _; unfold nr cut; omega
  · show nr (z.c + cut 0 255) z.C = _; unfold nr cut; omega
theorem st_down (h : There z.R z.C z.r z.c) : (stepZ z 1 0).r = min (z.r + 1) ((z.R : Int) - 1) ∧ (stepZ z 1 0).c = z.c := by
  obtain ⟨h1, h2, h3, h4⟩ := h
  constructor
  · show nr (z.r + cut 1 255) z.R = _; unfold nr cut; omega
  · show nr (z.c + cut 0 255) z.C = _; unfold nr cut; omega
theorem st_move {p q : Int} (h : There z.R z.C p q) : (moveZ z p q).r = p ∧ (moveZ z p q).c = q := by
  obtain ⟨h1, h2, h3, h4⟩ := h
  exact ⟨nr_in _ _ h1 h2, nr_in _ _ h3 h4⟩
theorem st_feed (h : There z.R z.C z.r z.c) (hl : z.r = (z.R : Int) - 1) : (feedZ z 1).r = z.r ∧ (feedZ z 1).F = upF z.R z.C z.F 1 blk := by
  obtain ⟨h1, h2, h3, h4⟩ := h
  constructor
  · show nr (z.r + 1) z.R = _; unfold nr; omega
  · show upF z.R z.C z.F (z.r + 1 - nr (z.r + 1) z.R) blk = _
    rw [show z.r + 1 - nr (z.r + 1) z.R = 1 by unfold nr; omega]
theorem st_feed' (h : There z.R z.C z.r z.c) (hl : ¬ z.r = (z.R : Int) - 1) : (feedZ z 1).r = z.r + 1 ∧ (feedZ z 1).F = z.F := by
  obtain ⟨h1, h2, h3, h4⟩ := h
  constructor
  · show nr (z.r + 1) z.R = _; unfold nr; omega
  · show upF z.R z.C z.F (z.r + 1 - nr (z.r + 1) z.R) blk = _
    rw [show z.r + 1 - nr (z.r + 1) z.R = 0 by unfold nr; omega, up_none]
theorem st_back (h : There z.R z.C z.r z.c) (hl : z.r = 0) : (feedZ z (-1)).r = z.r ∧ (feedZ z (-1)).F = upF z.R z.C z.F (-1) blk := by
  obtain ⟨h1, h2, h3, h4⟩ := h
  constructor
  · show nr (z.r + -1) z.R = _; unfold nr; omega
  · show upF z.R z.C z.F (z.r + -1 - nr (z.r + -1) z.R) blk = _
    rw [show z.r + -1 - nr (z.r + -1) z.R = -1 by unfold nr; omega]
theorem st_back' (h : There z.R z.C z.r z.c) (hl : ¬ z.r = 0) : (feedZ z (-1)).r = z.r - 1 ∧ (feedZ z (-1)).F = z.F := by
  obtain ⟨h1, h2, h3, h4⟩ := h
  constructor
  · show nr (z.r + -1) z.R = _; unfold nr; omega
  · show upF z.R z.C z.F (z.r + -1 - nr (z.r + -1) z.R) blk = _
    rw [show z.r + -1 - nr (z.r + -1) z.R = 0 by unfold nr; omega, up_none]
end

/-- The next stop of eight columns. -/
theorem tab_lt {c i : Nat} (h1 : c < i) (h2 : i < c + 8 - c % 8) : ¬ ((i : Int).tmod 8 = 0) := by
  rw [Int.tmod_eq_emod_of_nonneg (by omega)]
  omega
theorem tab_at {c i : Nat} (h : i = c + 8 - c % 8) : (i : Int).tmod 8 = 0 := by
  rw [Int.tmod_eq_emod_of_nonneg (by omega)]
  omega
theorem st_tab {z : St} (h : There z.R z.C z.r z.c) {c T : Nat} (hc : z.c = c) (hT : T = c + 8 - c % 8) : (moveZ z z.r (tabC z.C z.c)).r = z.r ∧ (moveZ z z.r (tabC z.C z.c)).c = if (z.C : Int) ≤ (T : Int) then min (z.c + 1) ((z.C : Int) - 1) else (T : Int) := by
  obtain ⟨h1, h2, h3, h4⟩ := h
  have ht : z.c.tmod 8 = ((c % 8 : Nat) : Int) := by rw [hc, Int.tmod_eq_emod_of_nonneg (by omega)]; omega
  have e : tabC z.C z.c = if (z.C : Int) ≤ (T : Int) then z.c + 1 else (T : Int) := by
    unfold tabC
    rw [ht]
    by_cases e : (z.C : Int) ≤ (T : Int)
    · rw [if_pos e, if_pos (by omega)]
    · rw [if_neg e, if_neg (by omega)]; omega
  constructor
  · exact nr_in _ _ h1 h2
  · show nr (tabC z.C z.c) z.C = _
    rw [e]
    unfold nr
    split <;> omega

set_option maxRecDepth 100000 in
set_option maxHeartbeats 4000000 in
theorem control_any {w : World} {x lb n B : Nat} {v : Vt} (h : RefIn w x lb n v) (ht : There v.z.R v.z.C v.z.r v.z.c) (hx : B ≤ x) (hl : B ≤ lb) (b : Nat) (hb : b < 32) (h27 : b ≠ 27) (s : List UInt8) : Calls Tryz.prog 45 #[ptr x, .int .u8 (b : Int)] w (EndsR B x n (actV (outD b) s v) w) := by
  have H := Lib.hid h
  have HT := Lib.hid ht
  have hlx : x < w.heap.size := h.lt
  have c1 := h.cr
  have c2 := h.cC
  have c3 := h.cc
  have c0 := h.cR
  have f3 := h.fz 3
  have f4 := h.fz 4
  obtain ⟨h1, h2, h3, h4⟩ := ht
  have hC2 : (v.z.C : Int) ≤ 255 := by have := h.C2; omega
  have hR2 : (v.z.R : Int) ≤ 255 := by have := h.R2; omega
  have kx : ∀ (y : Value) (o : Nat), Hid (Kept (· = x) w (w.setCell ⟨x, o, none⟩ y)) := fun y o => Kept.set1 _ _ _ _
  have KX := Lib.hid kx
  clear kx h
  have u1 : IntKind.i64.wrap (v.z.c - 1) = v.z.c - 1 := by rw [IntKind.wrap_i64]; omega
  have u2 : IntKind.i64.wrap (v.z.c + 1) = v.z.c + 1 := by rw [IntKind.wrap_i64]; omega
  have u3 : IntKind.i64.wrap ((v.z.C : Int) - 1) = (v.z.C : Int) - 1 := by rw [IntKind.wrap_i64]; omega
  have u4 : IntKind.i64.wrap ((v.z.R : Int) - 1) = (v.z.R : Int) - 1 := by rw [IntKind.wrap_i64]; omega
  have u5 : IntKind.i64.wrap (v.z.r + 1) = v.z.r + 1 := by rw [IntKind.wrap_i64]; omega
  have x1 : wrap64 ((v.z.C : Int) - 1) = (v.z.C : Int) - 1 := w64 (by omega) (by omega)
  have x2 : wrap64 ((v.z.R : Int) - 1) = (v.z.R : Int) - 1 := w64 (by omega) (by omega)
  have x3 : wrap64 (v.z.c + 1) = v.z.c + 1 := w64 (by omega) (by omega)
  by_cases b8 : b = 8
  · subst b8
    have X : Hid (∀ q : Int, q = max (v.z.c - 1) 0 → RefIn (w.setCell ⟨x, 4, none⟩ (.int .i64 q)) x lb n (actV (outD 8) s v)) := fun q hq => (H.out.setC q).asSt ⟨rfl, rfl, rfl, (st_left HT.out).1, (st_left HT.out).2.trans hq.symm⟩
    go_enter Tryz.func45, Tryz.ntmps45
    go_wp2_with fail
    all_goals go_end0
    all_goals exact (X.out _ (by omega)).ends hl (KX.out _ _) (fun i e => e ▸ hx)
  by_cases b9 : b = 9
  · subst b9
    obtain ⟨cn, hcn⟩ : ∃ cn : Nat, v.z.c = cn := ⟨v.z.c.toNat, by omega⟩
    obtain ⟨T, hT⟩ : ∃ T, T = cn + 8 - cn % 8 := ⟨_, rfl⟩
    have hT2 : cn + 1 ≤ T ∧ T ≤ 263 := by omega
    have X : Hid (∀ q : Int, q = (if (v.z.C : Int) ≤ (T : Int) then min (v.z.c + 1) ((v.z.C : Int) - 1) else (T : Int)) → RefIn (w.setCell ⟨x, 4, none⟩ (.int .i64 q)) x lb n (actV (outD 9) s v)) := fun q hq => (H.out.setC q).asSt ⟨rfl, rfl, rfl, (st_tab HT.out hcn hT).1, (st_tab HT.out hcn hT).2.trans hq.symm⟩
    have Hcn := Lib.hid hcn
    have hTl := Lib.hid hT
    rw [hcn] at c3 u2 x3 h4
    clear hcn hT u1 h1 h2 h3 c1 c0 u4 u5 x2 f3
    go_enter Tryz.func45, Tryz.ntmps45
    go_wp2_with fail
    go_loopw [4] (fun s4 wr => ∃ i : Nat, cn < i ∧ i ≤ T ∧ s4 = .int .i64 (i : Int) ∧ wr = w) (fun s4 _ => T - (Qu.num s4).toNat)
    case atStart => exact ⟨cn + 1, Nat.lt_succ_self _, hT2.1, rfl, rfl⟩
    case round =>
      obtain ⟨i, hi1, hi2, rfl, rfl⟩ := hrel
      by_cases hlt : i < T
      · have hm0 : i < cn + 8 - cn % 8 := hTl.out ▸ hlt
        have hm : ¬ ((i : Int) % 8 = 0) := by omega
        clear hm0
        go_wp2_with fail
        go_roundw
        case rel => exact ⟨i + 1, by omega, hlt, by go_num, trivial⟩
        case measure => simp [Qu.num]; omega
      · have hiT : i = T := by omega
        subst hiT
        have hm0 := hTl.out
        have hm : (i : Int) % 8 = 0 := by omega
        clear hm0
        by_cases hCn : v.z.C ≤ i
        · have hCT : (v.z.C : Int) ≤ (i : Int) := by omega
          obtain ⟨q, hq⟩ : ∃ q : Int, (if (v.z.C : Int) - 1 < (cn : Int) + 1 then (v.z.C : Int) - 1 else (cn : Int) + 1) = q := ⟨_, rfl⟩
          have X9 := X.out q (by rw [if_pos hCT, ← hq, Hcn.out]; split <;> omega)
          have XE := Lib.hid (X9.endsD hl (KX.out _ _) (fun i e => e ▸ hx))
          clear X9 X
          go_wp2_with fail
          go_still_tail 11, (by kernel_rfl)
          repeat still_step
          change wpList _ _ _ _ _ wr.drew
          go_wp2_with fail
          go_end0
          exact XE.out
        · have hCT : ¬ (v.z.C : Int) ≤ (i : Int) := by omega
          have X9 := X.out i (by rw [if_neg hCT])
          have XE := Lib.hid (X9.ends hl (KX.out _ _) (fun i e => e ▸ hx))
          clear X9 X
          go_wp2_with fail
          go_end0
          exact XE.out
  by_cases b10 : b = 10
  · subst b10
    by_cases he : v.z.r = (v.z.R : Int) - 1
    · have hf := st_feed HT.out he
      have Hf := Lib.hid hf
      clear hf
      go_enter Tryz.func45, Tryz.ntmps45
      go_wp2_with fail
      go_still_tail 9, (by kernel_rfl)
      repeat still_step
      change wpList _ _ _ _ _ w.drew
      go_wp2_with fail
      refine (rscroll_any (H.out.kept0 (Kept.refl _ w).drew) true).mono ?_
      rintro e w2 ⟨rfl, h2, k2⟩
      have X2 : Hid (RefIn w2 x w.heap.size n (actV (outD 10) s v)) := h2.asSt (z := feedZ v.z 1) ⟨rfl, rfl, Hf.out.2, Hf.out.1, rfl⟩
      have K2 : Hid (Kept (· = x) w w2) := (Kept0.to (Kept.refl _ w).drew).trans k2
      have hB : B ≤ w.heap.size := by omega
      clear h2 k2
      go_wp2_with fail
      go_end0
      exact X2.out.ends hB K2.out (fun i e => e ▸ hx)
    · have X : Hid (RefIn (w.setCell ⟨x, 3, none⟩ (.int .i64 (v.z.r + 1))) x lb n (actV (outD 10) s v)) := (H.out.setR (v.z.r + 1)).asSt ⟨rfl, rfl, (st_feed' HT.out he).2, (st_feed' HT.out he).1, rfl⟩
      go_enter Tryz.func45, Tryz.ntmps45
      go_wp2_with fail
      go_still_tail 9, (by kernel_rfl)
      repeat still_step
      change wpList _ _ _ _ _ w.drew
      go_wp2_with fail
      go_end0
      exact X.out.endsD hl (KX.out _ _) (fun i e => e ▸ hx)
  by_cases b13 : b = 13
  · subst b13
    have X : Hid (RefIn (w.setCell ⟨x, 4, none⟩ (.int .i64 0)) x lb n (actV (outD 13) s v)) := (H.out.setC 0).asSt ⟨rfl, rfl, rfl, (st_move (p := v.z.r) (q := 0) ⟨h1, h2, by omega, by omega⟩).1, (st_move (p := v.z.r) (q := 0) ⟨h1, h2, by omega, by omega⟩).2⟩
    go_enter Tryz.func45, Tryz.ntmps45
    go_wp2_with fail
    go_end0
    exact X.out.ends hl (KX.out _ _) (fun i e => e ▸ hx)
  have o8 : ¬ (b : Int) = 8 := by omega
  have o9 : ¬ (b : Int) = 9 := by omega
  have o10 : ¬ (b : Int) = 10 := by omega
  have o13 : ¬ (b : Int) = 13 := by omega
  have o27 : ¬ (b : Int) = 27 := by omega
  have eb : outD b = .no := by
    unfold outD
    rw [if_neg b8, if_neg b9, if_neg b10, if_neg b13, if_neg (by omega)]
  rw [eb]
  go_enter Tryz.func45, Tryz.ntmps45
  go_wp2_with fail
  go_end0
  exact RefIn.ends (T := fun _ => False) H.out hl (Kept.refl _ _) (fun i e => e.elim)

end Go.Proofs.YtlhajbcabpfbkaaGreatDoor
