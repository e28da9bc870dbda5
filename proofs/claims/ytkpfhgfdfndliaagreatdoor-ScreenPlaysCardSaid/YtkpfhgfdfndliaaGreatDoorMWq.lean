/-
  Texts merged: WpPart WpPartB.
-/
import Derived.Test.YtkpfhgfdfndliaaGreatDoorMWp
/-
  What Part does, and the document's answer's.
-/
namespace Go.Proofs.YtkpfhgfdfndliaaGreatDoor
namespace Wp
open Go.RowKit

/-- Why a part has no places. -/
def partE (R C r c p : Int) : Int := if 1 ≤ R ∧ R ≤ 255 ∧ 1 ≤ C ∧ C ≤ 255 then (if 0 ≤ r ∧ r < R ∧ 0 ≤ c ∧ c < C then (if 1 ≤ p ∧ p ≤ 6 then 0 else 12) else 11) else 10
/-- The row, and the column, of a part's first place, and of its last one. -/
def fromR (r p : Int) : Int := if p = 1 ∨ p = 3 then 0 else r
def fromC (c p : Int) : Int := if p = 2 ∨ p = 5 then c else 0
def toR (R r p : Int) : Int := if p = 1 ∨ p = 2 then R - 1 else r
def toC (C c p : Int) : Int := if p = 3 ∨ p = 6 then c else C - 1

set_option maxHeartbeats 4000000 in
theorem part_ok (R C r c p : Int) (w : World) (h1 : 1 ≤ R ∧ R ≤ 255 ∧ 1 ≤ C ∧ C ≤ 255) (h2 : 0 ≤ r ∧ r < R ∧ 0 ≤ c ∧ c < C) (h3 : 1 ≤ p ∧ p ≤ 6) :
    Calls Tryz.prog 107 #[.agg #[.int .i64 R, .int .i64 C], .agg #[.int .i64 r, .int .i64 c], .int .i64 p] w fun e w' =>
      e = .returned (.tuple #[.agg #[.int .i64 (fromR r p), .int .i64 (fromC c p)], .agg #[.int .i64 (toR R r p), .int .i64 (toC C c p)], .int .i64 0]) ∧ Kept0 w w' := by
  obtain ⟨a1, a2, a3, a4⟩ := h1
  obtain ⟨b1, b2, b3, b4⟩ := h2
  have hm := mayE_yes ⟨a1, a2, a3, a4⟩
  have HM := Lib.hid hm
  clear hm
  have H3 := Lib.hid h3
  clear h3
  have HwR : Hid (IntKind.i64.wrap (R - 1) = R - 1) := by show _ = _; rw [IntWalk.i64_left]; exact w64 (by omega) (by omega)
  have HwC : Hid (IntKind.i64.wrap (C - 1) = C - 1) := by show _ = _; rw [IntWalk.i64_left]; exact w64 (by omega) (by omega)
  go_enter Tryz.func107, Tryz.ntmps107
  go_wp2_with fail
  refine (may_any _ _ _).mono ?_
  rw [HM.out]
  rintro e w1 ⟨rfl, hk1⟩
  have kk : Kept0 w w1 := (((((Kept.refl _ w).alloc _).alloc _).alloc _).alloc _).trans hk1
  have q0 : w1.cell? ⟨w.heap.size, 0, none⟩ = some (.int .i64 R) := kcell hk1 (by simp [go_sem])
  have q1 : w1.cell? ⟨w.heap.size, 1, none⟩ = some (.int .i64 C) := kcell hk1 (by simp [go_sem])
  have q2 : w1.cell? ⟨w.heap.size + 1, 0, none⟩ = some (.int .i64 r) := kcell hk1 (by simp [go_sem])
  have q3 : w1.cell? ⟨w.heap.size + 1, 1, none⟩ = some (.int .i64 c) := kcell hk1 (by simp [go_sem])
  have hT : Hid (TwoAt w1 (w.heap.size + 1 + 1) 0 0) := TwoAt.kept ⟨by simp [go_sem], by simp [go_sem], by simp [go_sem], by simp [go_sem]⟩ hk1 (fun e => e)
  have hU : Hid (TwoAt w1 (w.heap.size + 1 + 1 + 1) 0 0) := TwoAt.kept ⟨by simp [go_sem], by simp [go_sem], by simp [go_sem], by simp [go_sem]⟩ hk1 (fun e => e)
  have s1 : w.heap.size + 1 + 1 + 1 < w1.heap.size := hU.out.lt
  have s2 : w.heap.size + 1 + 1 < w1.heap.size := by omega
  have s3 : w.heap.size + 1 < w1.heap.size := by omega
  have s4 : w.heap.size < w1.heap.size := by omega
  clear hk1
  have r1 : w.heap.size < w.heap.size + 1 := by omega
  have r2 : w.heap.size + 1 < w.heap.size + 1 + 1 := by omega
  have r3 : w.heap.size + 1 + 1 < w.heap.size + 1 + 1 + 1 := by omega
  obtain ⟨ub, hub⟩ : ∃ q, q = w.heap.size + 1 + 1 + 1 := ⟨_, rfl⟩
  rw [← hub] at hU s1 r3 ⊢
  clear hub
  obtain ⟨tb, htb⟩ : ∃ q, q = w.heap.size + 1 + 1 := ⟨_, rfl⟩
  rw [← htb] at hT s2 r2 r3 ⊢
  clear htb
  obtain ⟨pb, hpb⟩ : ∃ q, q = w.heap.size + 1 := ⟨_, rfl⟩
  rw [← hpb] at q2 q3 s3 r1 r2 ⊢
  clear hpb
  have o3 := Nat.ne_of_lt s4
  go_wp2_with fail
  go_region_held3 (fun w' => w'.cell? ⟨w.heap.size, 0, none⟩ = some (.int .i64 R) ∧ w'.cell? ⟨w.heap.size, 1, none⟩ = some (.int .i64 C)) (go_keep) (first | fail)
  all_goals rw [HwR.out, HwC.out]
  · obtain ⟨w2, hW⟩ : ∃ W, W = ((w1.alloc (.cells #[.int .i64 0, .int .i64 0] 40)).alloc (.cells #[.int .i64 (R - 1), .int .i64 (C - 1)] 40)).drew := ⟨_, rfl⟩
    have hx : TwoAt w2 (w1.heap.size) (0) (0) := by rw [hW]; exact ⟨by simp [go_sem], by simp [go_sem], by simp [go_sem], by simp [go_sem]⟩
    have hy : TwoAt w2 (w1.heap.size + 1) ((R - 1)) ((C - 1)) := by rw [hW]; exact ⟨by simp [go_sem], by simp [go_sem], by simp [go_sem], by simp [go_sem]⟩
    have kW : Kept0 w1 w2 := by rw [hW]; exact (((Kept.refl _ w1).alloc _).alloc _).drew
    rw [← hW]
    clear hW
    obtain ⟨y, hq⟩ : ∃ q, q = w1.heap.size + 1 := ⟨_, rfl⟩
    obtain ⟨x, hp⟩ : ∃ q, q = w1.heap.size := ⟨_, rfl⟩
    have gx : w1.heap.size ≤ x := by omega
    have gy : w1.heap.size ≤ y := by omega
    rw [← hp] at hx
    rw [← hq] at hy
    first | rw [← hq, ← hp] | rw [← hp, ← hq]
    clear hp hq
    have q2 := kcell kW q2
    have q3 := kcell kW q3
    have z0 := hx.c0
    have z1 := hx.c1
    have z2 := hy.c0
    have z3 := hy.c1
    have hT := Lib.hid (hT.out.kept kW (fun e => e))
    have hU := Lib.hid (hU.out.kept kW (fun e => e))
    have kk := Lib.hid (kk.trans kW)
    have s8 := kW.size
    have s7 : pb < w2.heap.size := by omega
    have lx := hx.lt
    have ly := hy.lt
    have A0 : ∀ o o', ((w2.alloc o).alloc o').cell? ⟨pb, 0, none⟩ = some (.int .i64 r) := fun _ _ => kcell (((Kept.refl _ w2).alloc _).alloc _) q2
    have A1 : ∀ o o', ((w2.alloc o).alloc o').cell? ⟨y, 1, none⟩ = some (.int .i64 (C - 1)) := fun _ _ => kcell (((Kept.refl _ w2).alloc _).alloc _) z3
    clear kW hx hy q0 q1
    have o1 := Nat.ne_of_lt s7
    have o2 := Nat.ne_of_lt ly
    go_wp2_with fail
    go_region_held3 (fun w' => w'.cell? ⟨pb, 0, none⟩ = some (.int .i64 r) ∧ w'.cell? ⟨y, 1, none⟩ = some (.int .i64 (C - 1))) (go_keep) (first | fail)
    · obtain ⟨w3, hW⟩ : ∃ W, W = ((w2.alloc (.cells #[.int .i64 r, .int .i64 0] 40)).alloc (.cells #[.int .i64 r, .int .i64 (C - 1)] 40)).drew := ⟨_, rfl⟩
      have hx : TwoAt w3 (w2.heap.size) (r) (0) := by rw [hW]; exact ⟨by simp [go_sem], by simp [go_sem], by simp [go_sem], by simp [go_sem]⟩
      have hy : TwoAt w3 (w2.heap.size + 1) (r) ((C - 1)) := by rw [hW]; exact ⟨by simp [go_sem], by simp [go_sem], by simp [go_sem], by simp [go_sem]⟩
      have kW : Kept0 w2 w3 := by rw [hW]; exact (((Kept.refl _ w2).alloc _).alloc _).drew
      rw [← hW]
      clear hW
      obtain ⟨y2, hq⟩ : ∃ q, q = w2.heap.size + 1 := ⟨_, rfl⟩
      obtain ⟨x2, hp⟩ : ∃ q, q = w2.heap.size := ⟨_, rfl⟩
      have gx2 : w2.heap.size ≤ x2 := by omega
      have gy2 : w2.heap.size ≤ y2 := by omega
      rw [← hp] at hx
      rw [← hq] at hy
      first | rw [← hq, ← hp] | rw [← hp, ← hq]
      clear hp hq
      have q2 := kcell kW q2
      have q3 := kcell kW q3
      have z0 := kcell kW z0
      have z1 := kcell kW z1
      have z2 := kcell kW z2
      have z3 := kcell kW z3
      have v0 := hx.c0
      have v1 := hx.c1
      have v2 := hy.c0
      have v3 := hy.c1
      have hT := hT.out.kept kW (fun e => e)
      have hU := hU.out.kept kW (fun e => e)
      have kk := Lib.hid (kk.out.trans kW)
      have s9 := kW.size
      obtain ⟨t0, t1, t2, t3⟩ := hT
      obtain ⟨u0, u1, u2, u3⟩ := hU
      clear kW hx hy A0 A1
      have hp : p = 1 ∨ p = 2 ∨ p = 3 ∨ p = 4 ∨ p = 5 ∨ p = 6 := by have := H3.out; omega
      clear H3
      have e1 : ¬ x = tb := by omega
      have e1r : ¬ tb = x := by omega
      have e2 : ¬ x = ub := by omega
      have e2r : ¬ ub = x := by omega
      have e3 : ¬ y = tb := by omega
      have e3r : ¬ tb = y := by omega
      have e4 : ¬ y = ub := by omega
      have e4r : ¬ ub = y := by omega
      have e5 : ¬ x2 = tb := by omega
      have e5r : ¬ tb = x2 := by omega
      have e6 : ¬ x2 = ub := by omega
      have e6r : ¬ ub = x2 := by omega
      have e7 : ¬ y2 = tb := by omega
      have e7r : ¬ tb = y2 := by omega
      have e8 : ¬ y2 = ub := by omega
      have e8r : ¬ ub = y2 := by omega
      have e9 : ¬ pb = tb := by omega
      have e9r : ¬ tb = pb := by omega
      have e10 : ¬ pb = ub := by omega
      have e10r : ¬ ub = pb := by omega
      have gt : w.heap.size ≤ tb := by omega
      have gu : w.heap.size ≤ ub := by omega
      have e99 : ¬ tb = ub := by omega
      have e99r : ¬ ub = tb := by omega
      rcases hp with rfl | rfl | rfl | rfl | rfl | rfl
      · go_wp2_with fail
        go_region_held3 (fun w' => w'.cell? ⟨x, 0, none⟩ = some (.int .i64 0) ∧ w'.cell? ⟨x, 1, none⟩ = some (.int .i64 0) ∧ w'.cell? ⟨y, 0, none⟩ = some (.int .i64 (R - 1)) ∧ w'.cell? ⟨y, 1, none⟩ = some (.int .i64 (C - 1))) (go_keep) (first | fail)
        all_goals
          go_wp2_with fail
          refine bodyPost_ret (v := .tuple #[.agg #[.int .i64 (fromR r 1), .int .i64 (fromC c 1)], .agg #[.int .i64 (toR R r 1), .int .i64 (toC C c 1)], .int .i64 0]) (by simp [results, Tryz.results107, go_sem, fromR, fromC, toR, toC, *]) rfl ⟨rfl, ?_⟩
          exact ((((kk.out.setCell _ (Or.inl (by first | exact gt | exact gu)) _).setCell _ (Or.inl (by first | exact gt | exact gu)) _).setCell _ (Or.inl (by first | exact gt | exact gu)) _).setCell _ (Or.inl (by first | exact gt | exact gu)) _).drew
      · go_wp2_with fail
        go_region_held3 (fun w' => w'.cell? ⟨pb, 0, none⟩ = some (.int .i64 r) ∧ w'.cell? ⟨pb, 1, none⟩ = some (.int .i64 c) ∧ w'.cell? ⟨y, 0, none⟩ = some (.int .i64 (R - 1)) ∧ w'.cell? ⟨y, 1, none⟩ = some (.int .i64 (C - 1))) (go_keep) (first | fail)
        all_goals
          go_wp2_with fail
          refine bodyPost_ret (v := .tuple #[.agg #[.int .i64 (fromR r 2), .int .i64 (fromC c 2)], .agg #[.int .i64 (toR R r 2), .int .i64 (toC C c 2)], .int .i64 0]) (by simp [results, Tryz.results107, go_sem, fromR, fromC, toR, toC, *]) rfl ⟨rfl, ?_⟩
          exact ((((kk.out.setCell _ (Or.inl (by first | exact gt | exact gu)) _).setCell _ (Or.inl (by first | exact gt | exact gu)) _).setCell _ (Or.inl (by first | exact gt | exact gu)) _).setCell _ (Or.inl (by first | exact gt | exact gu)) _).drew
      · go_wp2_with fail
        go_region_held3 (fun w' => w'.cell? ⟨x, 0, none⟩ = some (.int .i64 0) ∧ w'.cell? ⟨x, 1, none⟩ = some (.int .i64 0) ∧ w'.cell? ⟨pb, 0, none⟩ = some (.int .i64 r) ∧ w'.cell? ⟨pb, 1, none⟩ = some (.int .i64 c)) (go_keep) (first | fail)
        all_goals
          go_wp2_with fail
          refine bodyPost_ret (v := .tuple #[.agg #[.int .i64 (fromR r 3), .int .i64 (fromC c 3)], .agg #[.int .i64 (toR R r 3), .int .i64 (toC C c 3)], .int .i64 0]) (by simp [results, Tryz.results107, go_sem, fromR, fromC, toR, toC, *]) rfl ⟨rfl, ?_⟩
          exact ((((kk.out.setCell _ (Or.inl (by first | exact gt | exact gu)) _).setCell _ (Or.inl (by first | exact gt | exact gu)) _).setCell _ (Or.inl (by first | exact gt | exact gu)) _).setCell _ (Or.inl (by first | exact gt | exact gu)) _).drew
      · go_wp2_with fail
        go_region_held3 (fun w' => w'.cell? ⟨x2, 0, none⟩ = some (.int .i64 r) ∧ w'.cell? ⟨x2, 1, none⟩ = some (.int .i64 0) ∧ w'.cell? ⟨y2, 0, none⟩ = some (.int .i64 r) ∧ w'.cell? ⟨y2, 1, none⟩ = some (.int .i64 (C - 1))) (go_keep) (first | fail)
        all_goals
          go_wp2_with fail
          refine bodyPost_ret (v := .tuple #[.agg #[.int .i64 (fromR r 4), .int .i64 (fromC c 4)], .agg #[.int .i64 (toR R r 4), .int .i64 (toC C c 4)], .int .i64 0]) (by simp [results, Tryz.results107, go_sem, fromR, fromC, toR, toC, *]) rfl ⟨rfl, ?_⟩
          exact ((((kk.out.setCell _ (Or.inl (by first | exact gt | exact gu)) _).setCell _ (Or.inl (by first | exact gt | exact gu)) _).setCell _ (Or.inl (by first | exact gt | exact gu)) _).setCell _ (Or.inl (by first | exact gt | exact gu)) _).drew
      · go_wp2_with fail
        go_region_held3 (fun w' => w'.cell? ⟨pb, 0, none⟩ = some (.int .i64 r) ∧ w'.cell? ⟨pb, 1, none⟩ = some (.int .i64 c) ∧ w'.cell? ⟨y2, 0, none⟩ = some (.int .i64 r) ∧ w'.cell? ⟨y2, 1, none⟩ = some (.int .i64 (C - 1))) (go_keep) (first | fail)
        all_goals
          go_wp2_with fail
          refine bodyPost_ret (v := .tuple #[.agg #[.int .i64 (fromR r 5), .int .i64 (fromC c 5)], .agg #[.int .i64 (toR R r 5), .int .i64 (toC C c 5)], .int .i64 0]) (by simp [results, Tryz.results107, go_sem, fromR, fromC, toR, toC, *]) rfl ⟨rfl, ?_⟩
          exact ((((kk.out.setCell _ (Or.inl (by first | exact gt | exact gu)) _).setCell _ (Or.inl (by first | exact gt | exact gu)) _).setCell _ (Or.inl (by first | exact gt | exact gu)) _).setCell _ (Or.inl (by first | exact gt | exact gu)) _).drew
      · go_wp2_with fail
        go_region_held3 (fun w' => w'.cell? ⟨x2, 0, none⟩ = some (.int .i64 r) ∧ w'.cell? ⟨x2, 1, none⟩ = some (.int .i64 0) ∧ w'.cell? ⟨pb, 0, none⟩ = some (.int .i64 r) ∧ w'.cell? ⟨pb, 1, none⟩ = some (.int .i64 c)) (go_keep) (first | fail)
        all_goals
          go_wp2_with fail
          refine bodyPost_ret (v := .tuple #[.agg #[.int .i64 (fromR r 6), .int .i64 (fromC c 6)], .agg #[.int .i64 (toR R r 6), .int .i64 (toC C c 6)], .int .i64 0]) (by simp [results, Tryz.results107, go_sem, fromR, fromC, toR, toC, *]) rfl ⟨rfl, ?_⟩
          exact ((((kk.out.setCell _ (Or.inl (by first | exact gt | exact gu)) _).setCell _ (Or.inl (by first | exact gt | exact gu)) _).setCell _ (Or.inl (by first | exact gt | exact gu)) _).setCell _ (Or.inl (by first | exact gt | exact gu)) _).drew
    · obtain ⟨w3, hW⟩ : ∃ W, W = ((w2.alloc (.cells #[.int .i64 r, .int .i64 (C - 1)] 40)).alloc (.cells #[.int .i64 r, .int .i64 0] 40)).drew := ⟨_, rfl⟩
      have hx : TwoAt w3 (w2.heap.size + 1) (r) (0) := by rw [hW]; exact ⟨by simp [go_sem], by simp [go_sem], by simp [go_sem], by simp [go_sem]⟩
      have hy : TwoAt w3 (w2.heap.size) (r) ((C - 1)) := by rw [hW]; exact ⟨by simp [go_sem], by simp [go_sem], by simp [go_sem], by simp [go_sem]⟩
      have kW : Kept0 w2 w3 := by rw [hW]; exact (((Kept.refl _ w2).alloc _).alloc _).drew
      rw [← hW]
      clear hW
      obtain ⟨y2, hq⟩ : ∃ q, q = w2.heap.size := ⟨_, rfl⟩
      obtain ⟨x2, hp⟩ : ∃ q, q = w2.heap.size + 1 := ⟨_, rfl⟩
      have gx2 : w2.heap.size ≤ x2 := by omega
      have gy2 : w2.heap.size ≤ y2 := by omega
      rw [← hp] at hx
      rw [← hq] at hy
      first | rw [← hq, ← hp] | rw [← hp, ← hq]
      clear hp hq
      have q2 := kcell kW q2
      have q3 := kcell kW q3
      have z0 := kcell kW z0
      have z1 := kcell kW z1
      have z2 := kcell kW z2
      have z3 := kcell kW z3
      have v0 := hx.c0
      have v1 := hx.c1
      have v2 := hy.c0
      have v3 := hy.c1
      have hT := hT.out.kept kW (fun e => e)
      have hU := hU.out.kept kW (fun e => e)
      have kk := Lib.hid (kk.out.trans kW)
      have s9 := kW.size
      obtain ⟨t0, t1, t2, t3⟩ := hT
      obtain ⟨u0, u1, u2, u3⟩ := hU
      clear kW hx hy A0 A1
      have hp : p = 1 ∨ p = 2 ∨ p = 3 ∨ p = 4 ∨ p = 5 ∨ p = 6 := by have := H3.out; omega
      clear H3
      have e1 : ¬ x = tb := by omega
      have e1r : ¬ tb = x := by omega
      have e2 : ¬ x = ub := by omega
      have e2r : ¬ ub = x := by omega
      have e3 : ¬ y = tb := by omega
      have e3r : ¬ tb = y := by omega
      have e4 : ¬ y = ub := by omega
      have e4r : ¬ ub = y := by omega
      have e5 : ¬ x2 = tb := by omega
      have e5r : ¬ tb = x2 := by omega
      have e6 : ¬ x2 = ub := by omega
      have e6r : ¬ ub = x2 := by omega
      have e7 : ¬ y2 = tb := by omega
      have e7r : ¬ tb = y2 := by omega
      have e8 : ¬ y2 = ub := by omega
      have e8r : ¬ ub = y2 := by omega
      have e9 : ¬ pb = tb := by omega
      have e9r : ¬ tb = pb := by omega
      have e10 : ¬ pb = ub := by omega
      have e10r : ¬ ub = pb := by omega
      have gt : w.heap.size ≤ tb := by omega
      have gu : w.heap.size ≤ ub := by omega
      have e99 : ¬ tb = ub := by omega
      have e99r : ¬ ub = tb := by omega
      rcases hp with rfl | rfl | rfl | rfl | rfl | rfl
      · go_wp2_with fail
        go_region_held3 (fun w' => w'.cell? ⟨x, 0, none⟩ = some (.int .i64 0) ∧ w'.cell? ⟨x, 1, none⟩ = some (.int .i64 0) ∧ w'.cell? ⟨y, 0, none⟩ = some (.int .i64 (R - 1)) ∧ w'.cell? ⟨y, 1, none⟩ = some (.int .i64 (C - 1))) (go_keep) (first | fail)
        all_goals
          go_wp2_with fail
          refine bodyPost_ret (v := .tuple #[.agg #[.int .i64 (fromR r 1), .int .i64 (fromC c 1)], .agg #[.int .i64 (toR R r 1), .int .i64 (toC C c 1)], .int .i64 0]) (by simp [results, Tryz.results107, go_sem, fromR, fromC, toR, toC, *]) rfl ⟨rfl, ?_⟩
          exact ((((kk.out.setCell _ (Or.inl (by first | exact gt | exact gu)) _).setCell _ (Or.inl (by first | exact gt | exact gu)) _).setCell _ (Or.inl (by first | exact gt | exact gu)) _).setCell _ (Or.inl (by first | exact gt | exact gu)) _).drew
      · go_wp2_with fail
        go_region_held3 (fun w' => w'.cell? ⟨pb, 0, none⟩ = some (.int .i64 r) ∧ w'.cell? ⟨pb, 1, none⟩ = some (.int .i64 c) ∧ w'.cell? ⟨y, 0, none⟩ = some (.int .i64 (R - 1)) ∧ w'.cell? ⟨y, 1, none⟩ = some (.int .i64 (C - 1))) (go_keep) (first | fail)
        all_goals
          go_wp2_with fail
          refine bodyPost_ret (v := .tuple #[.agg #[.int .i64 (fromR r 2), .int .i64 (fromC c 2)], .agg #[.int .i64 (toR R r 2), .int .i64 (toC C c 2)], .int .i64 0]) (by simp [results, Tryz.results107, go_sem, fromR, fromC, toR, toC, *]) rfl ⟨rfl, ?_⟩
          exact ((((kk.out.setCell _ (Or.inl (by first | exact gt | exact gu)) _).setCell _ (Or.inl (by first | exact gt | exact gu)) _).setCell _ (Or.inl (by first | exact gt | exact gu)) _).setCell _ (Or.inl (by first | exact gt | exact gu)) _).drew
      · go_wp2_with fail
        go_region_held3 (fun w' => w'.cell? ⟨x, 0, none⟩ = some (.int .i64 0) ∧ w'.cell? ⟨x, 1, none⟩ = some (.int .i64 0) ∧ w'.cell? ⟨pb, 0, none⟩ = some (.int .i64 r) ∧ w'.cell? ⟨pb, 1, none⟩ = some (.int .i64 c)) (go_keep) (first | fail)
        all_goals
          go_wp2_with fail
          refine bodyPost_ret (v := .tuple #[.agg #[.int .i64 (fromR r 3), .int .i64 (fromC c 3)], .agg #[.int .i64 (toR R r 3), .int .i64 (toC C c 3)], .int .i64 0]) (by simp [results, Tryz.results107, go_sem, fromR, fromC, toR, toC, *]) rfl ⟨rfl, ?_⟩
          exact ((((kk.out.setCell _ (Or.inl (by first | exact gt | exact gu)) _).setCell _ (Or.inl (by first | exact gt | exact gu)) _).setCell _ (Or.inl (by first | exact gt | exact gu)) _).setCell _ (Or.inl (by first | exact gt | exact gu)) _).drew
      · go_wp2_with fail
        go_region_held3 (fun w' => w'.cell? ⟨x2, 0, none⟩ = some (.int .i64 r) ∧ w'.cell? ⟨x2, 1, none⟩ = some (.int .i64 0) ∧ w'.cell? ⟨y2, 0, none⟩ = some (.int .i64 r) ∧ w'.cell? ⟨y2, 1, none⟩ = some (.int .i64 (C - 1))) (go_keep) (first | fail)
        all_goals
          go_wp2_with fail
          refine bodyPost_ret (v := .tuple #[.agg #[.int .i64 (fromR r 4), .int .i64 (fromC c 4)], .agg #[.int .i64 (toR R r 4), .int .i64 (toC C c 4)], .int .i64 0]) (by simp [results, Tryz.results107, go_sem, fromR, fromC, toR, toC, *]) rfl ⟨rfl, ?_⟩
          exact ((((kk.out.setCell _ (Or.inl (by first | exact gt | exact gu)) _).setCell _ (Or.inl (by first | exact gt | exact gu)) _).setCell _ (Or.inl (by first | exact gt | exact gu)) _).setCell _ (Or.inl (by first | exact gt | exact gu)) _).drew
      · go_wp2_with fail
        go_region_held3 (fun w' => w'.cell? ⟨pb, 0, none⟩ = some (.int .i64 r) ∧ w'.cell? ⟨pb, 1, none⟩ = some (.int .i64 c) ∧ w'.cell? ⟨y2, 0, none⟩ = some (.int .i64 r) ∧ w'.cell? ⟨y2, 1, none⟩ = some (.int .i64 (C - 1))) (go_keep) (first | fail)
        all_goals
          go_wp2_with fail
          refine bodyPost_ret (v := .tuple #[.agg #[.int .i64 (fromR r 5), .int .i64 (fromC c 5)], .agg #[.int .i64 (toR R r 5), .int .i64 (toC C c 5)], .int .i64 0]) (by simp [results, Tryz.results107, go_sem, fromR, fromC, toR, toC, *]) rfl ⟨rfl, ?_⟩
          exact ((((kk.out.setCell _ (Or.inl (by first | exact gt | exact gu)) _).setCell _ (Or.inl (by first | exact gt | exact gu)) _).setCell _ (Or.inl (by first | exact gt | exact gu)) _).setCell _ (Or.inl (by first | exact gt | exact gu)) _).drew
      · go_wp2_with fail
        go_region_held3 (fun w' => w'.cell? ⟨x2, 0, none⟩ = some (.int .i64 r) ∧ w'.cell? ⟨x2, 1, none⟩ = some (.int .i64 0) ∧ w'.cell? ⟨pb, 0, none⟩ = some (.int .i64 r) ∧ w'.cell? ⟨pb, 1, none⟩ = some (.int .i64 c)) (go_keep) (first | fail)
        all_goals
          go_wp2_with fail
          refine bodyPost_ret (v := .tuple #[.agg #[.int .i64 (fromR r 6), .int .i64 (fromC c 6)], .agg #[.int .i64 (toR R r 6), .int .i64 (toC C c 6)], .int .i64 0]) (by simp [results, Tryz.results107, go_sem, fromR, fromC, toR, toC, *]) rfl ⟨rfl, ?_⟩
          exact ((((kk.out.setCell _ (Or.inl (by first | exact gt | exact gu)) _).setCell _ (Or.inl (by first | exact gt | exact gu)) _).setCell _ (Or.inl (by first | exact gt | exact gu)) _).setCell _ (Or.inl (by first | exact gt | exact gu)) _).drew
  · obtain ⟨w2, hW⟩ : ∃ W, W = ((w1.alloc (.cells #[.int .i64 (R - 1), .int .i64 (C - 1)] 40)).alloc (.cells #[.int .i64 0, .int .i64 0] 40)).drew := ⟨_, rfl⟩
    have hx : TwoAt w2 (w1.heap.size + 1) (0) (0) := by rw [hW]; exact ⟨by simp [go_sem], by simp [go_sem], by simp [go_sem], by simp [go_sem]⟩
    have hy : TwoAt w2 (w1.heap.size) ((R - 1)) ((C - 1)) := by rw [hW]; exact ⟨by simp [go_sem], by simp [go_sem], by simp [go_sem], by simp [go_sem]⟩
    have kW : Kept0 w1 w2 := by rw [hW]; exact (((Kept.refl _ w1).alloc _).alloc _).drew
    rw [← hW]
    clear hW
    obtain ⟨y, hq⟩ : ∃ q, q = w1.heap.size := ⟨_, rfl⟩
    obtain ⟨x, hp⟩ : ∃ q, q = w1.heap.size + 1 := ⟨_, rfl⟩
    have gx : w1.heap.size ≤ x := by omega
    have gy : w1.heap.size ≤ y := by omega
    rw [← hp] at hx
    rw [← hq] at hy
    first | rw [← hq, ← hp] | rw [← hp, ← hq]
    clear hp hq
    have q2 := kcell kW q2
    have q3 := kcell kW q3
    have z0 := hx.c0
    have z1 := hx.c1
    have z2 := hy.c0
    have z3 := hy.c1
    have hT := Lib.hid (hT.out.kept kW (fun e => e))
    have hU := Lib.hid (hU.out.kept kW (fun e => e))
    have kk := Lib.hid (kk.trans kW)
    have s8 := kW.size
    have s7 : pb < w2.heap.size := by omega
    have lx := hx.lt
    have ly := hy.lt
    have A0 : ∀ o o', ((w2.alloc o).alloc o').cell? ⟨pb, 0, none⟩ = some (.int .i64 r) := fun _ _ => kcell (((Kept.refl _ w2).alloc _).alloc _) q2
    have A1 : ∀ o o', ((w2.alloc o).alloc o').cell? ⟨y, 1, none⟩ = some (.int .i64 (C - 1)) := fun _ _ => kcell (((Kept.refl _ w2).alloc _).alloc _) z3
    clear kW hx hy q0 q1
    have o1 := Nat.ne_of_lt s7
    have o2 := Nat.ne_of_lt ly
    go_wp2_with fail
    go_region_held3 (fun w' => w'.cell? ⟨pb, 0, none⟩ = some (.int .i64 r) ∧ w'.cell? ⟨y, 1, none⟩ = some (.int .i64 (C - 1))) (go_keep) (first | fail)
    · obtain ⟨w3, hW⟩ : ∃ W, W = ((w2.alloc (.cells #[.int .i64 r, .int .i64 0] 40)).alloc (.cells #[.int .i64 r, .int .i64 (C - 1)] 40)).drew := ⟨_, rfl⟩
      have hx : TwoAt w3 (w2.heap.size) (r) (0) := by rw [hW]; exact ⟨by simp [go_sem], by simp [go_sem], by simp [go_sem], by simp [go_sem]⟩
      have hy : TwoAt w3 (w2.heap.size + 1) (r) ((C - 1)) := by rw [hW]; exact ⟨by simp [go_sem], by simp [go_sem], by simp [go_sem], by simp [go_sem]⟩
      have kW : Kept0 w2 w3 := by rw [hW]; exact (((Kept.refl _ w2).alloc _).alloc _).drew
      rw [← hW]
      clear hW
      obtain ⟨y2, hq⟩ : ∃ q, q = w2.heap.size + 1 := ⟨_, rfl⟩
      obtain ⟨x2, hp⟩ : ∃ q, q = w2.heap.size := ⟨_, rfl⟩
      have gx2 : w2.heap.size ≤ x2 := by omega
      have gy2 : w2.heap.size ≤ y2 := by omega
      rw [← hp] at hx
      rw [← hq] at hy
      first | rw [← hq, ← hp] | rw [← hp, ← hq]
      clear hp hq
      have q2 := kcell kW q2
      have q3 := kcell kW q3
      have z0 := kcell kW z0
      have z1 := kcell kW z1
      have z2 := kcell kW z2
      have z3 := kcell kW z3
      have v0 := hx.c0
      have v1 := hx.c1
      have v2 := hy.c0
      have v3 := hy.c1
      have hT := hT.out.kept kW (fun e => e)
      have hU := hU.out.kept kW (fun e => e)
      have kk := Lib.hid (kk.out.trans kW)
      have s9 := kW.size
      obtain ⟨t0, t1, t2, t3⟩ := hT
      obtain ⟨u0, u1, u2, u3⟩ := hU
      clear kW hx hy A0 A1
      have hp : p = 1 ∨ p = 2 ∨ p = 3 ∨ p = 4 ∨ p = 5 ∨ p = 6 := by have := H3.out; omega
      clear H3
      have e1 : ¬ x = tb := by omega
      have e1r : ¬ tb = x := by omega
      have e2 : ¬ x = ub := by omega
      have e2r : ¬ ub = x := by omega
      have e3 : ¬ y = tb := by omega
      have e3r : ¬ tb = y := by omega
      have e4 : ¬ y = ub := by omega
      have e4r : ¬ ub = y := by omega
      have e5 : ¬ x2 = tb := by omega
      have e5r : ¬ tb = x2 := by omega
      have e6 : ¬ x2 = ub := by omega
      have e6r : ¬ ub = x2 := by omega
      have e7 : ¬ y2 = tb := by omega
      have e7r : ¬ tb = y2 := by omega
      have e8 : ¬ y2 = ub := by omega
      have e8r : ¬ ub = y2 := by omega
      have e9 : ¬ pb = tb := by omega
      have e9r : ¬ tb = pb := by omega
      have e10 : ¬ pb = ub := by omega
      have e10r : ¬ ub = pb := by omega
      have gt : w.heap.size ≤ tb := by omega
      have gu : w.heap.size ≤ ub := by omega
      have e99 : ¬ tb = ub := by omega
      have e99r : ¬ ub = tb := by omega
      rcases hp with rfl | rfl | rfl | rfl | rfl | rfl
      · go_wp2_with fail
        go_region_held3 (fun w' => w'.cell? ⟨x, 0, none⟩ = some (.int .i64 0) ∧ w'.cell? ⟨x, 1, none⟩ = some (.int .i64 0) ∧ w'.cell? ⟨y, 0, none⟩ = some (.int .i64 (R - 1)) ∧ w'.cell? ⟨y, 1, none⟩ = some (.int .i64 (C - 1))) (go_keep) (first | fail)
        all_goals
          go_wp2_with fail
          refine bodyPost_ret (v := .tuple #[.agg #[.int .i64 (fromR r 1), .int .i64 (fromC c 1)], .agg #[.int .i64 (toR R r 1), .int .i64 (toC C c 1)], .int .i64 0]) (by simp [results, Tryz.results107, go_sem, fromR, fromC, toR, toC, *]) rfl ⟨rfl, ?_⟩
          exact ((((kk.out.setCell _ (Or.inl (by first | exact gt | exact gu)) _).setCell _ (Or.inl (by first | exact gt | exact gu)) _).setCell _ (Or.inl (by first | exact gt | exact gu)) _).setCell _ (Or.inl (by first | exact gt | exact gu)) _).drew
      · go_wp2_with fail
        go_region_held3 (fun w' => w'.cell? ⟨pb, 0, none⟩ = some (.int .i64 r) ∧ w'.cell? ⟨pb, 1, none⟩ = some (.int .i64 c) ∧ w'.cell? ⟨y, 0, none⟩ = some (.int .i64 (R - 1)) ∧ w'.cell? ⟨y, 1, none⟩ = some (.int .i64 (C - 1))) (go_keep) (first | fail)
        all_goals
          go_wp2_with fail
          refine bodyPost_ret (v := .tuple #[.agg #[.int .i64 (fromR r 2), .int .i64 (fromC c 2)], .agg #[.int .i64 (toR R r 2), .int .i64 (toC C c 2)], .int .i64 0]) (by simp [results, Tryz.results107, go_sem, fromR, fromC, toR, toC, *]) rfl ⟨rfl, ?_⟩
          exact ((((kk.out.setCell _ (Or.inl (by first | exact gt | exact gu)) _).setCell _ (Or.inl (by first | exact gt | exact gu)) _).setCell _ (Or.inl (by first | exact gt | exact gu)) _).setCell _ (Or.inl (by first | exact gt | exact gu)) _).drew
      · go_wp2_with fail
        go_region_held3 (fun w' => w'.cell? ⟨x, 0, none⟩ = some (.int .i64 0) ∧ w'.cell? ⟨x, 1, none⟩ = some (.int .i64 0) ∧ w'.cell? ⟨pb, 0, none⟩ = some (.int .i64 r) ∧ w'.cell? ⟨pb, 1, none⟩ = some (.int .i64 c)) (go_keep) (first | fail)
        all_goals
          go_wp2_with fail
          refine bodyPost_ret (v := .tuple #[.agg #[.int .i64 (fromR r 3), .int .i64 (fromC c 3)], .agg #[.int .i64 (toR R r 3), .int .i64 (toC C c 3)], .int .i64 0]) (by simp [results, Tryz.results107, go_sem, fromR, fromC, toR, toC, *]) rfl ⟨rfl, ?_⟩
          exact ((((kk.out.setCell _ (Or.inl (by first | exact gt | exact gu)) _).setCell _ (Or.inl (by first | exact gt | exact gu)) _).setCell _ (Or.inl (by first | exact gt | exact gu)) _).setCell _ (Or.inl (by first | exact gt | exact gu)) _).drew
      · go_wp2_with fail
        go_region_held3 (fun w' => w'.cell? ⟨x2, 0, none⟩ = some (.int .i64 r) ∧ w'.cell? ⟨x2, 1, none⟩ = some (.int .i64 0) ∧ w'.cell? ⟨y2, 0, none⟩ = some (.int .i64 r) ∧ w'.cell? ⟨y2, 1, none⟩ = some (.int .i64 (C - 1))) (go_keep) (first | fail)
        all_goals
          go_wp2_with fail
          refine bodyPost_ret (v := .tuple #[.agg #[.int .i64 (fromR r 4), .int .i64 (fromC c 4)], .agg #[.int .i64 (toR R r 4), .int .i64 (toC C c 4)], .int .i64 0]) (by simp [results, Tryz.results107, go_sem, fromR, fromC, toR, toC, *]) rfl ⟨rfl, ?_⟩
          exact ((((kk.out.setCell _ (Or.inl (by first | exact gt | exact gu)) _).setCell _ (Or.inl (by first | exact gt | exact gu)) _).setCell _ (Or.inl (by first | exact gt | exact gu)) _).setCell _ (Or.inl (by first | exact gt | exact gu)) _).drew
      · go_wp2_with fail
        go_region_held3 (fun w' => w'.cell? ⟨pb, 0, none⟩ = some (.int .i64 r) ∧ w'.cell? ⟨pb, 1, none⟩ = some (.int .i64 c) ∧ w'.cell? ⟨y2, 0, none⟩ = some (.int .i64 r) ∧ w'.cell? ⟨y2, 1, none⟩ = some (.int .i64 (C - 1))) (go_keep) (first | fail)
        all_goals
          go_wp2_with fail
          refine bodyPost_ret (v := .tuple #[.agg #[.int .i64 (fromR r 5), .int .i64 (fromC c 5)], .agg #[.int .i64 (toR R r 5), .int .i64 (toC C c 5)], .int .i64 0]) (by simp [results, Tryz.results107, go_sem, fromR, fromC, toR, toC, *]) rfl ⟨rfl, ?_⟩
          exact ((((kk.out.setCell _ (Or.inl (by first | exact gt | exact gu)) _).setCell _ (Or.inl (by first | exact gt | exact gu)) _).setCell _ (Or.inl (by first | exact gt | exact gu)) _).setCell _ (Or.inl (by first | exact gt | exact gu)) _).drew
      · go_wp2_with fail
        go_region_held3 (fun w' => w'.cell? ⟨x2, 0, none⟩ = some (.int .i64 r) ∧ w'.cell? ⟨x2, 1, none⟩ = some (.int .i64 0) ∧ w'.cell? ⟨pb, 0, none⟩ = some (.int .i64 r) ∧ w'.cell? ⟨pb, 1, none⟩ = some (.int .i64 c)) (go_keep) (first | fail)
        all_goals
          go_wp2_with fail
          refine bodyPost_ret (v := .tuple #[.agg #[.int .i64 (fromR r 6), .int .i64 (fromC c 6)], .agg #[.int .i64 (toR R r 6), .int .i64 (toC C c 6)], .int .i64 0]) (by simp [results, Tryz.results107, go_sem, fromR, fromC, toR, toC, *]) rfl ⟨rfl, ?_⟩
          exact ((((kk.out.setCell _ (Or.inl (by first | exact gt | exact gu)) _).setCell _ (Or.inl (by first | exact gt | exact gu)) _).setCell _ (Or.inl (by first | exact gt | exact gu)) _).setCell _ (Or.inl (by first | exact gt | exact gu)) _).drew
    · obtain ⟨w3, hW⟩ : ∃ W, W = ((w2.alloc (.cells #[.int .i64 r, .int .i64 (C - 1)] 40)).alloc (.cells #[.int .i64 r, .int .i64 0] 40)).drew := ⟨_, rfl⟩
      have hx : TwoAt w3 (w2.heap.size + 1) (r) (0) := by rw [hW]; exact ⟨by simp [go_sem], by simp [go_sem], by simp [go_sem], by simp [go_sem]⟩
      have hy : TwoAt w3 (w2.heap.size) (r) ((C - 1)) := by rw [hW]; exact ⟨by simp [go_sem], by simp [go_sem], by simp [go_sem], by simp [go_sem]⟩
      have kW : Kept0 w2 w3 := by rw [hW]; exact (((Kept.refl _ w2).alloc _).alloc _).drew
      rw [← hW]
      clear hW
      obtain ⟨y2, hq⟩ : ∃ q, q = w2.heap.size := ⟨_, rfl⟩
      obtain ⟨x2, hp⟩ : ∃ q, q = w2.heap.size + 1 := ⟨_, rfl⟩
      have gx2 : w2.heap.size ≤ x2 := by omega
      have gy2 : w2.heap.size ≤ y2 := by omega
      rw [← hp] at hx
      rw [← hq] at hy
      first | rw [← hq, ← hp] | rw [← hp, ← hq]
      clear hp hq
      have q2 := kcell kW q2
      have q3 := kcell kW q3
      have z0 := kcell kW z0
      have z1 := kcell kW z1
      have z2 := kcell kW z2
      have z3 := kcell kW z3
      have v0 := hx.c0
      have v1 := hx.c1
      have v2 := hy.c0
      have v3 := hy.c1
      have hT := hT.out.kept kW (fun e => e)
      have hU := hU.out.kept kW (fun e => e)
      have kk := Lib.hid (kk.out.trans kW)
      have s9 := kW.size
      obtain ⟨t0, t1, t2, t3⟩ := hT
      obtain ⟨u0, u1, u2, u3⟩ := hU
      clear kW hx hy A0 A1
      have hp : p = 1 ∨ p = 2 ∨ p = 3 ∨ p = 4 ∨ p = 5 ∨ p = 6 := by have := H3.out; omega
      clear H3
      have e1 : ¬ x = tb := by omega
      have e1r : ¬ tb = x := by omega
      have e2 : ¬ x = ub := by omega
      have e2r : ¬ ub = x := by omega
      have e3 : ¬ y = tb := by omega
      have e3r : ¬ tb = y := by omega
      have e4 : ¬ y = ub := by omega
      have e4r : ¬ ub = y := by omega
      have e5 : ¬ x2 = tb := by omega
      have e5r : ¬ tb = x2 := by omega
      have e6 : ¬ x2 = ub := by omega
      have e6r : ¬ ub = x2 := by omega
      have e7 : ¬ y2 = tb := by omega
      have e7r : ¬ tb = y2 := by omega
      have e8 : ¬ y2 = ub := by omega
      have e8r : ¬ ub = y2 := by omega
      have e9 : ¬ pb = tb := by omega
      have e9r : ¬ tb = pb := by omega
      have e10 : ¬ pb = ub := by omega
      have e10r : ¬ ub = pb := by omega
      have gt : w.heap.size ≤ tb := by omega
      have gu : w.heap.size ≤ ub := by omega
      have e99 : ¬ tb = ub := by omega
      have e99r : ¬ ub = tb := by omega
      rcases hp with rfl | rfl | rfl | rfl | rfl | rfl
      · go_wp2_with fail
        go_region_held3 (fun w' => w'.cell? ⟨x, 0, none⟩ = some (.int .i64 0) ∧ w'.cell? ⟨x, 1, none⟩ = some (.int .i64 0) ∧ w'.cell? ⟨y, 0, none⟩ = some (.int .i64 (R - 1)) ∧ w'.cell? ⟨y, 1, none⟩ = some (.int .i64 (C - 1))) (go_keep) (first | fail)
        all_goals
          go_wp2_with fail
          refine bodyPost_ret (v := .tuple #[.agg #[.int .i64 (fromR r 1), .int .i64 (fromC c 1)], .agg #[.int .i64 (toR R r 1), .int .i64 (toC C c 1)], .int .i64 0]) (by simp [results, Tryz.results107, go_sem, fromR, fromC, toR, toC, *]) rfl ⟨rfl, ?_⟩
          exact ((((kk.out.setCell _ (Or.inl (by first | exact gt | exact gu)) _).setCell _ (Or.inl (by first | exact gt | exact gu)) _).setCell _ (Or.inl (by first | exact gt | exact gu)) _).setCell _ (Or.inl (by first | exact gt | exact gu)) _).drew
      · go_wp2_with fail
        go_region_held3 (fun w' => w'.cell? ⟨pb, 0, none⟩ = some (.int .i64 r) ∧ w'.cell? ⟨pb, 1, none⟩ = some (.int .i64 c) ∧ w'.cell? ⟨y, 0, none⟩ = some (.int .i64 (R - 1)) ∧ w'.cell? ⟨y, 1, none⟩ = some (.int .i64 (C - 1))) (go_keep) (first | fail)
        all_goals
          go_wp2_with fail
          refine bodyPost_ret (v := .tuple #[.agg #[.int .i64 (fromR r 2), .int .i64 (fromC c 2)], .agg #[.int .i64 (toR R r 2), .int .i64 (toC C c 2)], .int .i64 0]) (by simp [results, Tryz.results107, go_sem, fromR, fromC, toR, toC, *]) rfl ⟨rfl, ?_⟩
          exact ((((kk.out.setCell _ (Or.inl (by first | exact gt | exact gu)) _).setCell _ (Or.inl (by first | exact gt | exact gu)) _).setCell _ (Or.inl (by first | exact gt | exact gu)) _).setCell _ (Or.inl (by first | exact gt | exact gu)) _).drew
      · go_wp2_with fail
        go_region_held3 (fun w' => w'.cell? ⟨x, 0, none⟩ = some (.int .i64 0) ∧ w'.cell? ⟨x, 1, none⟩ = some (.int .i64 0) ∧ w'.cell? ⟨pb, 0, none⟩ = some (.int .i64 r) ∧ w'.cell? ⟨pb, 1, none⟩ = some (.int .i64 c)) (go_keep) (first | fail)
        all_goals
          go_wp2_with fail
          refine bodyPost_ret (v := .tuple #[.agg #[.int .i64 (fromR r 3), .int .i64 (fromC c 3)], .agg #[.int .i64 (toR R r 3), .int .i64 (toC C c 3)], .int .i64 0]) (by simp [results, Tryz.results107, go_sem, fromR, fromC, toR, toC, *]) rfl ⟨rfl, ?_⟩
          exact ((((kk.out.setCell _ (Or.inl (by first | exact gt | exact gu)) _).setCell _ (Or.inl (by first | exact gt | exact gu)) _).setCell _ (Or.inl (by first | exact gt | exact gu)) _).setCell _ (Or.inl (by first | exact gt | exact gu)) _).drew
      · go_wp2_with fail
        go_region_held3 (fun w' => w'.cell? ⟨x2, 0, none⟩ = some (.int .i64 r) ∧ w'.cell? ⟨x2, 1, none⟩ = some (.int .i64 0) ∧ w'.cell? ⟨y2, 0, none⟩ = some (.int .i64 r) ∧ w'.cell? ⟨y2, 1, none⟩ = some (.int .i64 (C - 1))) (go_keep) (first | fail)
        all_goals
          go_wp2_with fail
          refine bodyPost_ret (v := .tuple #[.agg #[.int .i64 (fromR r 4), .int .i64 (fromC c 4)], .agg #[.int .i64 (toR R r 4), .int .i64 (toC C c 4)], .int .i64 0]) (by simp [results, Tryz.results107, go_sem, fromR, fromC, toR, toC, *]) rfl ⟨rfl, ?_⟩
          exact ((((kk.out.setCell _ (Or.inl (by first | exact gt | exact gu)) _).setCell _ (Or.inl (by first | exact gt | exact gu)) _).setCell _ (Or.inl (by first | exact gt | exact gu)) _).setCell _ (Or.inl (by first | exact gt | exact gu)) _).drew
      · go_wp2_with fail
        go_region_held3 (fun w' => w'.cell? ⟨pb, 0, none⟩ = some (.int .i64 r) ∧ w'.cell? ⟨pb, 1, none⟩ = some (.int .i64 c) ∧ w'.cell? ⟨y2, 0, none⟩ = some (.int .i64 r) ∧ w'.cell? ⟨y2, 1, none⟩ = some (.int .i64 (C - 1))) (go_keep) (first | fail)
        all_goals
          go_wp2_with fail
          refine bodyPost_ret (v := .tuple #[.agg #[.int .i64 (fromR r 5), .int .i64 (fromC c 5)], .agg #[.int .i64 (toR R r 5), .int .i64 (toC C c 5)], .int .i64 0]) (by simp [results, Tryz.results107, go_sem, fromR, fromC, toR, toC, *]) rfl ⟨rfl, ?_⟩
          exact ((((kk.out.setCell _ (Or.inl (by first | exact gt | exact gu)) _).setCell _ (Or.inl (by first | exact gt | exact gu)) _).setCell _ (Or.inl (by first | exact gt | exact gu)) _).setCell _ (Or.inl (by first | exact gt | exact gu)) _).drew
      · go_wp2_with fail
        go_region_held3 (fun w' => w'.cell? ⟨x2, 0, none⟩ = some (.int .i64 r) ∧ w'.cell? ⟨x2, 1, none⟩ = some (.int .i64 0) ∧ w'.cell? ⟨pb, 0, none⟩ = some (.int .i64 r) ∧ w'.cell? ⟨pb, 1, none⟩ = some (.int .i64 c)) (go_keep) (first | fail)
        all_goals
          go_wp2_with fail
          refine bodyPost_ret (v := .tuple #[.agg #[.int .i64 (fromR r 6), .int .i64 (fromC c 6)], .agg #[.int .i64 (toR R r 6), .int .i64 (toC C c 6)], .int .i64 0]) (by simp [results, Tryz.results107, go_sem, fromR, fromC, toR, toC, *]) rfl ⟨rfl, ?_⟩
          exact ((((kk.out.setCell _ (Or.inl (by first | exact gt | exact gu)) _).setCell _ (Or.inl (by first | exact gt | exact gu)) _).setCell _ (Or.inl (by first | exact gt | exact gu)) _).setCell _ (Or.inl (by first | exact gt | exact gu)) _).drew
end Wp
end Go.Proofs.YtkpfhgfdfndliaaGreatDoor

/-
  What Part does of what is none, and what the document's answer's Part is.
-/
namespace Go.Proofs.YtkpfhgfdfndliaaGreatDoor
namespace Wp
open Go.RowKit

set_option maxHeartbeats 4000000 in
theorem part_kind (R C r c p : Int) (w : World) (h1 : 1 ≤ R ∧ R ≤ 255 ∧ 1 ≤ C ∧ C ≤ 255) (h2 : 0 ≤ r ∧ r < R ∧ 0 ≤ c ∧ c < C) (h3 : ¬ (1 ≤ p ∧ p ≤ 6)) :
    Calls Tryz.prog 107 #[.agg #[.int .i64 R, .int .i64 C], .agg #[.int .i64 r, .int .i64 c], .int .i64 p] w fun e w' =>
      e = .returned (.tuple #[.agg #[.int .i64 0, .int .i64 0], .agg #[.int .i64 0, .int .i64 0], .int .i64 12]) ∧ Kept0 w w' := by
  obtain ⟨a1, a2, a3, a4⟩ := h1
  obtain ⟨b1, b2, b3, b4⟩ := h2
  have hm := mayE_yes ⟨a1, a2, a3, a4⟩
  have HM := Lib.hid hm
  clear hm
  have H3 := Lib.hid h3
  clear h3
  have HwR : Hid (IntKind.i64.wrap (R - 1) = R - 1) := by show _ = _; rw [IntWalk.i64_left]; exact w64 (by omega) (by omega)
  have HwC : Hid (IntKind.i64.wrap (C - 1) = C - 1) := by show _ = _; rw [IntWalk.i64_left]; exact w64 (by omega) (by omega)
  go_enter Tryz.func107, Tryz.ntmps107
  go_wp2_with fail
  refine (may_any _ _ _).mono ?_
  rw [HM.out]
  rintro e w1 ⟨rfl, hk1⟩
  have kk : Kept0 w w1 := (((((Kept.refl _ w).alloc _).alloc _).alloc _).alloc _).trans hk1
  have q0 : w1.cell? ⟨w.heap.size, 0, none⟩ = some (.int .i64 R) := kcell hk1 (by simp [go_sem])
  have q1 : w1.cell? ⟨w.heap.size, 1, none⟩ = some (.int .i64 C) := kcell hk1 (by simp [go_sem])
  have q2 : w1.cell? ⟨w.heap.size + 1, 0, none⟩ = some (.int .i64 r) := kcell hk1 (by simp [go_sem])
  have q3 : w1.cell? ⟨w.heap.size + 1, 1, none⟩ = some (.int .i64 c) := kcell hk1 (by simp [go_sem])
  have hT : Hid (TwoAt w1 (w.heap.size + 1 + 1) 0 0) := TwoAt.kept ⟨by simp [go_sem], by simp [go_sem], by simp [go_sem], by simp [go_sem]⟩ hk1 (fun e => e)
  have hU : Hid (TwoAt w1 (w.heap.size + 1 + 1 + 1) 0 0) := TwoAt.kept ⟨by simp [go_sem], by simp [go_sem], by simp [go_sem], by simp [go_sem]⟩ hk1 (fun e => e)
  have s1 : w.heap.size + 1 + 1 + 1 < w1.heap.size := hU.out.lt
  have s2 : w.heap.size + 1 + 1 < w1.heap.size := by omega
  have s3 : w.heap.size + 1 < w1.heap.size := by omega
  have s4 : w.heap.size < w1.heap.size := by omega
  clear hk1
  have r1 : w.heap.size < w.heap.size + 1 := by omega
  have r2 : w.heap.size + 1 < w.heap.size + 1 + 1 := by omega
  have r3 : w.heap.size + 1 + 1 < w.heap.size + 1 + 1 + 1 := by omega
  obtain ⟨ub, hub⟩ : ∃ q, q = w.heap.size + 1 + 1 + 1 := ⟨_, rfl⟩
  rw [← hub] at hU s1 r3 ⊢
  clear hub
  obtain ⟨tb, htb⟩ : ∃ q, q = w.heap.size + 1 + 1 := ⟨_, rfl⟩
  rw [← htb] at hT s2 r2 r3 ⊢
  clear htb
  obtain ⟨pb, hpb⟩ : ∃ q, q = w.heap.size + 1 := ⟨_, rfl⟩
  rw [← hpb] at q2 q3 s3 r1 r2 ⊢
  clear hpb
  have o3 := Nat.ne_of_lt s4
  go_wp2_with fail
  go_region_held3 (fun w' => w'.cell? ⟨w.heap.size, 0, none⟩ = some (.int .i64 R) ∧ w'.cell? ⟨w.heap.size, 1, none⟩ = some (.int .i64 C)) (go_keep) (first | fail)
  all_goals rw [HwR.out, HwC.out]
  · obtain ⟨w2, hW⟩ : ∃ W, W = ((w1.alloc (.cells #[.int .i64 0, .int .i64 0] 40)).alloc (.cells #[.int .i64 (R - 1), .int .i64 (C - 1)] 40)).drew := ⟨_, rfl⟩
    have hx : TwoAt w2 (w1.heap.size) (0) (0) := by rw [hW]; exact ⟨by simp [go_sem], by simp [go_sem], by simp [go_sem], by simp [go_sem]⟩
    have hy : TwoAt w2 (w1.heap.size + 1) ((R - 1)) ((C - 1)) := by rw [hW]; exact ⟨by simp [go_sem], by simp [go_sem], by simp [go_sem], by simp [go_sem]⟩
    have kW : Kept0 w1 w2 := by rw [hW]; exact (((Kept.refl _ w1).alloc _).alloc _).drew
    rw [← hW]
    clear hW
    obtain ⟨y, hq⟩ : ∃ q, q = w1.heap.size + 1 := ⟨_, rfl⟩
    obtain ⟨x, hp⟩ : ∃ q, q = w1.heap.size := ⟨_, rfl⟩
    have gx : w1.heap.size ≤ x := by omega
    have gy : w1.heap.size ≤ y := by omega
    rw [← hp] at hx
    rw [← hq] at hy
    first | rw [← hq, ← hp] | rw [← hp, ← hq]
    clear hp hq
    have q2 := kcell kW q2
    have q3 := kcell kW q3
    have z0 := hx.c0
    have z1 := hx.c1
    have z2 := hy.c0
    have z3 := hy.c1
    have hT := Lib.hid (hT.out.kept kW (fun e => e))
    have hU := Lib.hid (hU.out.kept kW (fun e => e))
    have kk := Lib.hid (kk.trans kW)
    have s8 := kW.size
    have s7 : pb < w2.heap.size := by omega
    have lx := hx.lt
    have ly := hy.lt
    have A0 : ∀ o o', ((w2.alloc o).alloc o').cell? ⟨pb, 0, none⟩ = some (.int .i64 r) := fun _ _ => kcell (((Kept.refl _ w2).alloc _).alloc _) q2
    have A1 : ∀ o o', ((w2.alloc o).alloc o').cell? ⟨y, 1, none⟩ = some (.int .i64 (C - 1)) := fun _ _ => kcell (((Kept.refl _ w2).alloc _).alloc _) z3
    clear kW hx hy q0 q1
    have o1 := Nat.ne_of_lt s7
    have o2 := Nat.ne_of_lt ly
    go_wp2_with fail
    go_region_held3 (fun w' => w'.cell? ⟨pb, 0, none⟩ = some (.int .i64 r) ∧ w'.cell? ⟨y, 1, none⟩ = some (.int .i64 (C - 1))) (go_keep) (first | fail)
    · obtain ⟨w3, hW⟩ : ∃ W, W = ((w2.alloc (.cells #[.int .i64 r, .int .i64 0] 40)).alloc (.cells #[.int .i64 r, .int .i64 (C - 1)] 40)).drew := ⟨_, rfl⟩
      have hx : TwoAt w3 (w2.heap.size) (r) (0) := by rw [hW]; exact ⟨by simp [go_sem], by simp [go_sem], by simp [go_sem], by simp [go_sem]⟩
      have hy : TwoAt w3 (w2.heap.size + 1) (r) ((C - 1)) := by rw [hW]; exact ⟨by simp [go_sem], by simp [go_sem], by simp [go_sem], by simp [go_sem]⟩
      have kW : Kept0 w2 w3 := by rw [hW]; exact (((Kept.refl _ w2).alloc _).alloc _).drew
      rw [← hW]
      clear hW
      obtain ⟨y2, hq⟩ : ∃ q, q = w2.heap.size + 1 := ⟨_, rfl⟩
      obtain ⟨x2, hp⟩ : ∃ q, q = w2.heap.size := ⟨_, rfl⟩
      have gx2 : w2.heap.size ≤ x2 := by omega
      have gy2 : w2.heap.size ≤ y2 := by omega
      rw [← hp] at hx
      rw [← hq] at hy
      first | rw [← hq, ← hp] | rw [← hp, ← hq]
      clear hp hq
      have q2 := kcell kW q2
      have q3 := kcell kW q3
      have z0 := kcell kW z0
      have z1 := kcell kW z1
      have z2 := kcell kW z2
      have z3 := kcell kW z3
      have v0 := hx.c0
      have v1 := hx.c1
      have v2 := hy.c0
      have v3 := hy.c1
      have hT := hT.out.kept kW (fun e => e)
      have hU := hU.out.kept kW (fun e => e)
      have kk := Lib.hid (kk.out.trans kW)
      have s9 := kW.size
      obtain ⟨t0, t1, t2, t3⟩ := hT
      obtain ⟨u0, u1, u2, u3⟩ := hU
      clear kW hx hy A0 A1
      have f1 : ¬ p = 1 := by have := H3.out; omega
      have f2 : ¬ p = 2 := by have := H3.out; omega
      have f3 : ¬ p = 3 := by have := H3.out; omega
      have f4 : ¬ p = 4 := by have := H3.out; omega
      have f5 : ¬ p = 5 := by have := H3.out; omega
      have f6 : ¬ p = 6 := by have := H3.out; omega
      clear H3
      have e1 : ¬ x = tb := by omega
      have e1r : ¬ tb = x := by omega
      have e2 : ¬ x = ub := by omega
      have e2r : ¬ ub = x := by omega
      have e3 : ¬ y = tb := by omega
      have e3r : ¬ tb = y := by omega
      have e4 : ¬ y = ub := by omega
      have e4r : ¬ ub = y := by omega
      have e5 : ¬ x2 = tb := by omega
      have e5r : ¬ tb = x2 := by omega
      have e6 : ¬ x2 = ub := by omega
      have e6r : ¬ ub = x2 := by omega
      have e7 : ¬ y2 = tb := by omega
      have e7r : ¬ tb = y2 := by omega
      have e8 : ¬ y2 = ub := by omega
      have e8r : ¬ ub = y2 := by omega
      have e9 : ¬ pb = tb := by omega
      have e9r : ¬ tb = pb := by omega
      have e10 : ¬ pb = ub := by omega
      have e10r : ¬ ub = pb := by omega
      have gt : w.heap.size ≤ tb := by omega
      have gu : w.heap.size ≤ ub := by omega
      have e99 : ¬ tb = ub := by omega
      have e99r : ¬ ub = tb := by omega
      go_wp2_with fail
      refine bodyPost_ret (v := .tuple #[.agg #[.int .i64 0, .int .i64 0], .agg #[.int .i64 0, .int .i64 0], .int .i64 12]) (by simp [results, Tryz.results107, go_sem, *]) rfl ⟨rfl, ?_⟩
      exact (((kk.out.setCell _ (Or.inl (by first | exact gt | exact gu)) _).setCell _ (Or.inl (by first | exact gt | exact gu)) _).setCell _ (Or.inl (by first | exact gt | exact gu)) _).setCell _ (Or.inl (by first | exact gt | exact gu)) _
    · obtain ⟨w3, hW⟩ : ∃ W, W = ((w2.alloc (.cells #[.int .i64 r, .int .i64 (C - 1)] 40)).alloc (.cells #[.int .i64 r, .int .i64 0] 40)).drew := ⟨_, rfl⟩
      have hx : TwoAt w3 (w2.heap.size + 1) (r) (0) := by rw [hW]; exact ⟨by simp [go_sem], by simp [go_sem], by simp [go_sem], by simp [go_sem]⟩
      have hy : TwoAt w3 (w2.heap.size) (r) ((C - 1)) := by rw [hW]; exact ⟨by simp [go_sem], by simp [go_sem], by simp [go_sem], by simp [go_sem]⟩
      have kW : Kept0 w2 w3 := by rw [hW]; exact (((Kept.refl _ w2).alloc _).alloc _).drew
      rw [← hW]
      clear hW
      obtain ⟨y2, hq⟩ : ∃ q, q = w2.heap.size := ⟨_, rfl⟩
      obtain ⟨x2, hp⟩ : ∃ q, q = w2.heap.size + 1 := ⟨_, rfl⟩
      have gx2 : w2.heap.size ≤ x2 := by omega
      have gy2 : w2.heap.size ≤ y2 := by omega
      rw [← hp] at hx
      rw [← hq] at hy
      first | rw [← hq, ← hp] | rw [← hp, ← hq]
      clear hp hq
      have q2 := kcell kW q2
      have q3 := kcell kW q3
      have z0 := kcell kW z0
      have z1 := kcell kW z1
      have z2 := kcell kW z2
      have z3 := kcell kW z3
      have v0 := hx.c0
      have v1 := hx.c1
      have v2 := hy.c0
      have v3 := hy.c1
      have hT := hT.out.kept kW (fun e => e)
      have hU := hU.out.kept kW (fun e => e)
      have kk := Lib.hid (kk.out.trans kW)
      have s9 := kW.size
      obtain ⟨t0, t1, t2, t3⟩ := hT
      obtain ⟨u0, u1, u2, u3⟩ := hU
      clear kW hx hy A0 A1
      have f1 : ¬ p = 1 := by have := H3.out; omega
      have f2 : ¬ p = 2 := by have := H3.out; omega
      have f3 : ¬ p = 3 := by have := H3.out; omega
      have f4 : ¬ p = 4 := by have := H3.out; omega
      have f5 : ¬ p = 5 := by have := H3.out; omega
      have f6 : ¬ p = 6 := by have := H3.out; omega
      clear H3
      have e1 : ¬ x = tb := by omega
      have e1r : ¬ tb = x := by omega
      have e2 : ¬ x = ub := by omega
      have e2r : ¬ ub = x := by omega
      have e3 : ¬ y = tb := by omega
      have e3r : ¬ tb = y := by omega
      have e4 : ¬ y = ub := by omega
      have e4r : ¬ ub = y := by omega
      have e5 : ¬ x2 = tb := by omega
      have e5r : ¬ tb = x2 := by omega
      have e6 : ¬ x2 = ub := by omega
      have e6r : ¬ ub = x2 := by omega
      have e7 : ¬ y2 = tb := by omega
      have e7r : ¬ tb = y2 := by omega
      have e8 : ¬ y2 = ub := by omega
      have e8r : ¬ ub = y2 := by omega
      have e9 : ¬ pb = tb := by omega
      have e9r : ¬ tb = pb := by omega
      have e10 : ¬ pb = ub := by omega
      have e10r : ¬ ub = pb := by omega
      have gt : w.heap.size ≤ tb := by omega
      have gu : w.heap.size ≤ ub := by omega
      have e99 : ¬ tb = ub := by omega
      have e99r : ¬ ub = tb := by omega
      go_wp2_with fail
      refine bodyPost_ret (v := .tuple #[.agg #[.int .i64 0, .int .i64 0], .agg #[.int .i64 0, .int .i64 0], .int .i64 12]) (by simp [results, Tryz.results107, go_sem, *]) rfl ⟨rfl, ?_⟩
      exact (((kk.out.setCell _ (Or.inl (by first | exact gt | exact gu)) _).setCell _ (Or.inl (by first | exact gt | exact gu)) _).setCell _ (Or.inl (by first | exact gt | exact gu)) _).setCell _ (Or.inl (by first | exact gt | exact gu)) _
  · obtain ⟨w2, hW⟩ : ∃ W, W = ((w1.alloc (.cells #[.int .i64 (R - 1), .int .i64 (C - 1)] 40)).alloc (.cells #[.int .i64 0, .int .i64 0] 40)).drew := ⟨_, rfl⟩
    have hx : TwoAt w2 (w1.heap.size + 1) (0) (0) := by rw [hW]; exact ⟨by simp [go_sem], by simp [go_sem], by simp [go_sem], by simp [go_sem]⟩
    have hy : TwoAt w2 (w1.heap.size) ((R - 1)) ((C - 1)) := by rw [hW]; exact ⟨by simp [go_sem], by simp [go_sem], by simp [go_sem], by simp [go_sem]⟩
    have kW : Kept0 w1 w2 := by rw [hW]; exact (((Kept.refl _ w1).alloc _).alloc _).drew
    rw [← hW]
    clear hW
    obtain ⟨y, hq⟩ : ∃ q, q = w1.heap.size := ⟨_, rfl⟩
    obtain ⟨x, hp⟩ : ∃ q, q = w1.heap.size + 1 := ⟨_, rfl⟩
    have gx : w1.heap.size ≤ x := by omega
    have gy : w1.heap.size ≤ y := by omega
    rw [← hp] at hx
    rw [← hq] at hy
    first | rw [← hq, ← hp] | rw [← hp, ← hq]
    clear hp hq
    have q2 := kcell kW q2
    have q3 := kcell kW q3
    have z0 := hx.c0
    have z1 := hx.c1
    have z2 := hy.c0
    have z3 := hy.c1
    have hT := Lib.hid (hT.out.kept kW (fun e => e))
    have hU := Lib.hid (hU.out.kept kW (fun e => e))
    have kk := Lib.hid (kk.trans kW)
    have s8 := kW.size
    have s7 : pb < w2.heap.size := by omega
    have lx := hx.lt
    have ly := hy.lt
    have A0 : ∀ o o', ((w2.alloc o).alloc o').cell? ⟨pb, 0, none⟩ = some (.int .i64 r) := fun _ _ => kcell (((Kept.refl _ w2).alloc _).alloc _) q2
    have A1 : ∀ o o', ((w2.alloc o).alloc o').cell? ⟨y, 1, none⟩ = some (.int .i64 (C - 1)) := fun _ _ => kcell (((Kept.refl _ w2).alloc _).alloc _) z3
    clear kW hx hy q0 q1
    have o1 := Nat.ne_of_lt s7
    have o2 := Nat.ne_of_lt ly
    go_wp2_with fail
    go_region_held3 (fun w' => w'.cell? ⟨pb, 0, none⟩ = some (.int .i64 r) ∧ w'.cell? ⟨y, 1, none⟩ = some (.int .i64 (C - 1))) (go_keep) (first | fail)
    · obtain ⟨w3, hW⟩ : ∃ W, W = ((w2.alloc (.cells #[.int .i64 r, .int .i64 0] 40)).alloc (.cells #[.int .i64 r, .int .i64 (C - 1)] 40)).drew := ⟨_, rfl⟩
      have hx : TwoAt w3 (w2.heap.size) (r) (0) := by rw [hW]; exact ⟨by simp [go_sem], by simp [go_sem], by simp [go_sem], by simp [go_sem]⟩
      have hy : TwoAt w3 (w2.heap.size + 1) (r) ((C - 1)) := by rw [hW]; exact ⟨by simp [go_sem], by simp [go_sem], by simp [go_sem], by simp [go_sem]⟩
      have kW : Kept0 w2 w3 := by rw [hW]; exact (((Kept.refl _ w2).alloc _).alloc _).drew
      rw [← hW]
      clear hW
      obtain ⟨y2, hq⟩ : ∃ q, q = w2.heap.size + 1 := ⟨_, rfl⟩
      obtain ⟨x2, hp⟩ : ∃ q, q = w2.heap.size := ⟨_, rfl⟩
      have gx2 : w2.heap.size ≤ x2 := by omega
      have gy2 : w2.heap.size ≤ y2 := by omega
      rw [← hp] at hx
      rw [← hq] at hy
      first | rw [← hq, ← hp] | rw [← hp, ← hq]
      clear hp hq
      have q2 := kcell kW q2
      have q3 := kcell kW q3
      have z0 := kcell kW z0
      have z1 := kcell kW z1
      have z2 := kcell kW z2
      have z3 := kcell kW z3
      have v0 := hx.c0
      have v1 := hx.c1
      have v2 := hy.c0
      have v3 := hy.c1
      have hT := hT.out.kept kW (fun e => e)
      have hU := hU.out.kept kW (fun e => e)
      have kk := Lib.hid (kk.out.trans kW)
      have s9 := kW.size
      obtain ⟨t0, t1, t2, t3⟩ := hT
      obtain ⟨u0, u1, u2, u3⟩ := hU
      clear kW hx hy A0 A1
      have f1 : ¬ p = 1 := by have := H3.out; omega
      have f2 : ¬ p = 2 := by have := H3.out; omega
      have f3 : ¬ p = 3 := by have := H3.out; omega
      have f4 : ¬ p = 4 := by have := H3.out; omega
      have f5 : ¬ p = 5 := by have := H3.out; omega
      have f6 : ¬ p = 6 := by have := H3.out; omega
      clear H3
      have e1 : ¬ x = tb := by omega
      have e1r : ¬ tb = x := by omega
      have e2 : ¬ x = ub := by omega
      have e2r : ¬ ub = x := by omega
      have e3 : ¬ y = tb := by omega
      have e3r : ¬ tb = y := by omega
      have e4 : ¬ y = ub := by omega
      have e4r : ¬ ub = y := by omega
      have e5 : ¬ x2 = tb := by omega
      have e5r : ¬ tb = x2 := by omega
      have e6 : ¬ x2 = ub := by omega
      have e6r : ¬ ub = x2 := by omega
      have e7 : ¬ y2 = tb := by omega
      have e7r : ¬ tb = y2 := by omega
      have e8 : ¬ y2 = ub := by omega
      have e8r : ¬ ub = y2 := by omega
      have e9 : ¬ pb = tb := by omega
      have e9r : ¬ tb = pb := by omega
      have e10 : ¬ pb = ub := by omega
      have e10r : ¬ ub = pb := by omega
      have gt : w.heap.size ≤ tb := by omega
      have gu : w.heap.size ≤ ub := by omega
      have e99 : ¬ tb = ub := by omega
      have e99r : ¬ ub = tb := by omega
      go_wp2_with fail
      refine bodyPost_ret (v := .tuple #[.agg #[.int .i64 0, .int .i64 0], .agg #[.int .i64 0, .int .i64 0], .int .i64 12]) (by simp [results, Tryz.results107, go_sem, *]) rfl ⟨rfl, ?_⟩
      exact (((kk.out.setCell _ (Or.inl (by first | exact gt | exact gu)) _).setCell _ (Or.inl (by first | exact gt | exact gu)) _).setCell _ (Or.inl (by first | exact gt | exact gu)) _).setCell _ (Or.inl (by first | exact gt | exact gu)) _
    · obtain ⟨w3, hW⟩ : ∃ W, W = ((w2.alloc (.cells #[.int .i64 r, .int .i64 (C - 1)] 40)).alloc (.cells #[.int .i64 r, .int .i64 0] 40)).drew := ⟨_, rfl⟩
      have hx : TwoAt w3 (w2.heap.size + 1) (r) (0) := by rw [hW]; exact ⟨by simp [go_sem], by simp [go_sem], by simp [go_sem], by simp [go_sem]⟩
      have hy : TwoAt w3 (w2.heap.size) (r) ((C - 1)) := by rw [hW]; exact ⟨by simp [go_sem], by simp [go_sem], by simp [go_sem], by simp [go_sem]⟩
      have kW : Kept0 w2 w3 := by rw [hW]; exact (((Kept.refl _ w2).alloc _).alloc _).drew
      rw [← hW]
      clear hW
      obtain ⟨y2, hq⟩ : ∃ q, q = w2.heap.size := ⟨_, rfl⟩
      obtain ⟨x2, hp⟩ : ∃ q, q = w2.heap.size + 1 := ⟨_, rfl⟩
      have gx2 : w2.heap.size ≤ x2 := by omega
      have gy2 : w2.heap.size ≤ y2 := by omega
      rw [← hp] at hx
      rw [← hq] at hy
      first | rw [← hq, ← hp] | rw [← hp, ← hq]
      clear hp hq
      have q2 := kcell kW q2
      have q3 := kcell kW q3
      have z0 := kcell kW z0
      have z1 := kcell kW z1
      have z2 := kcell kW z2
      have z3 := kcell kW z3
      have v0 := hx.c0
      have v1 := hx.c1
      have v2 := hy.c0
      have v3 := hy.c1
      have hT := hT.out.kept kW (fun e => e)
      have hU := hU.out.kept kW (fun e => e)
      have kk := Lib.hid (kk.out.trans kW)
      have s9 := kW.size
      obtain ⟨t0, t1, t2, t3⟩ := hT
      obtain ⟨u0, u1, u2, u3⟩ := hU
      clear kW hx hy A0 A1
      have f1 : ¬ p = 1 := by have := H3.out; omega
      have f2 : ¬ p = 2 := by have := H3.out; omega
      have f3 : ¬ p = 3 := by have := H3.out; omega
      have f4 : ¬ p = 4 := by have := H3.out; omega
      have f5 : ¬ p = 5 := by have := H3.out; omega
      have f6 : ¬ p = 6 := by have := H3.out; omega
      clear H3
      have e1 : ¬ x = tb := by omega
      have e1r : ¬ tb = x := by omega
      have e2 : ¬ x = ub := by omega
      have e2r : ¬ ub = x := by omega
      have e3 : ¬ y = tb := by omega
      have e3r : ¬ tb = y := by omega
      have e4 : ¬ y = ub := by omega
      have e4r : ¬ ub = y := by omega
      have e5 : ¬ x2 = tb := by omega
      have e5r : ¬ tb = x2 := by omega
      have e6 : ¬ x2 = ub := by omega
      have e6r : ¬ ub = x2 := by omega
      have e7 : ¬ y2 = tb := by omega
      have e7r : ¬ tb = y2 := by omega
      have e8 : ¬ y2 = ub := by omega
      have e8r : ¬ ub = y2 := by omega
      have e9 : ¬ pb = tb := by omega
      have e9r : ¬ tb = pb := by omega
      have e10 : ¬ pb = ub := by omega
      have e10r : ¬ ub = pb := by omega
      have gt : w.heap.size ≤ tb := by omega
      have gu : w.heap.size ≤ ub := by omega
      have e99 : ¬ tb = ub := by omega
      have e99r : ¬ ub = tb := by omega
      go_wp2_with fail
      refine bodyPost_ret (v := .tuple #[.agg #[.int .i64 0, .int .i64 0], .agg #[.int .i64 0, .int .i64 0], .int .i64 12]) (by simp [results, Tryz.results107, go_sem, *]) rfl ⟨rfl, ?_⟩
      exact (((kk.out.setCell _ (Or.inl (by first | exact gt | exact gu)) _).setCell _ (Or.inl (by first | exact gt | exact gu)) _).setCell _ (Or.inl (by first | exact gt | exact gu)) _).setCell _ (Or.inl (by first | exact gt | exact gu)) _

set_option maxHeartbeats 1000000 in
theorem part_size (R C r c p : Int) (w : World) (h1 : ¬ (1 ≤ R ∧ R ≤ 255 ∧ 1 ≤ C ∧ C ≤ 255)) :
    Calls Tryz.prog 107 #[.agg #[.int .i64 R, .int .i64 C], .agg #[.int .i64 r, .int .i64 c], .int .i64 p] w fun e w' =>
      e = .returned (.tuple #[.agg #[.int .i64 0, .int .i64 0], .agg #[.int .i64 0, .int .i64 0], .int .i64 10]) ∧ Kept0 w w' := by
  have HM := Lib.hid (mayE_no h1)
  clear h1
  go_enter Tryz.func107, Tryz.ntmps107
  go_wp2_with fail
  refine (may_any _ _ _).mono ?_
  rw [HM.out]
  rintro e w1 ⟨rfl, hk1⟩
  have kk : Kept0 w w1 := (((((Kept.refl _ w).alloc _).alloc _).alloc _).alloc _).trans hk1
  have hT : TwoAt w1 (w.heap.size + 1 + 1) 0 0 := TwoAt.kept ⟨by simp [go_sem], by simp [go_sem], by simp [go_sem], by simp [go_sem]⟩ hk1 (fun e => e)
  have hU : TwoAt w1 (w.heap.size + 1 + 1 + 1) 0 0 := TwoAt.kept ⟨by simp [go_sem], by simp [go_sem], by simp [go_sem], by simp [go_sem]⟩ hk1 (fun e => e)
  have gt : w.heap.size ≤ w.heap.size + 1 + 1 := by omega
  have gu : w.heap.size ≤ w.heap.size + 1 + 1 + 1 := by omega
  have ne : ¬ w.heap.size + 1 + 1 = w.heap.size + 1 + 1 + 1 := by omega
  obtain ⟨ub, hub⟩ : ∃ q, q = w.heap.size + 1 + 1 + 1 := ⟨_, rfl⟩
  rw [← hub] at hU gu ne ⊢
  clear hub
  obtain ⟨tb, htb⟩ : ∃ q, q = w.heap.size + 1 + 1 := ⟨_, rfl⟩
  rw [← htb] at hT gt ne ⊢
  clear htb
  have ne2 : ¬ ub = tb := fun e => ne e.symm
  obtain ⟨t0, t1, t2, t3⟩ := hT
  obtain ⟨u0, u1, u2, u3⟩ := hU
  clear hk1
  go_wp2_with fail
  refine bodyPost_ret (v := .tuple #[.agg #[.int .i64 0, .int .i64 0], .agg #[.int .i64 0, .int .i64 0], .int .i64 10]) (by simp [results, Tryz.results107, go_sem, *]) rfl ⟨rfl, ?_⟩
  exact (((kk.setCell _ (Or.inl (by first | exact gt | exact gu)) _).setCell _ (Or.inl (by first | exact gt | exact gu)) _).setCell _ (Or.inl (by first | exact gt | exact gu)) _).setCell _ (Or.inl (by first | exact gt | exact gu)) _

set_option maxHeartbeats 2000000 in
theorem part_place (R C r c p : Int) (w : World) (h1 : 1 ≤ R ∧ R ≤ 255 ∧ 1 ≤ C ∧ C ≤ 255) (h2 : ¬ (0 ≤ r ∧ r < R ∧ 0 ≤ c ∧ c < C)) :
    Calls Tryz.prog 107 #[.agg #[.int .i64 R, .int .i64 C], .agg #[.int .i64 r, .int .i64 c], .int .i64 p] w fun e w' =>
      e = .returned (.tuple #[.agg #[.int .i64 0, .int .i64 0], .agg #[.int .i64 0, .int .i64 0], .int .i64 11]) ∧ Kept0 w w' := by
  have HM := Lib.hid (mayE_yes h1)
  clear h1
  have H2 := Lib.hid h2
  clear h2
  go_enter Tryz.func107, Tryz.ntmps107
  go_wp2_with fail
  refine (may_any _ _ _).mono ?_
  rw [HM.out]
  rintro e w1 ⟨rfl, hk1⟩
  have kk : Kept0 w w1 := (((((Kept.refl _ w).alloc _).alloc _).alloc _).alloc _).trans hk1
  have q0 : w1.cell? ⟨w.heap.size, 0, none⟩ = some (.int .i64 R) := kcell hk1 (by simp [go_sem])
  have q1 : w1.cell? ⟨w.heap.size, 1, none⟩ = some (.int .i64 C) := kcell hk1 (by simp [go_sem])
  have q2 : w1.cell? ⟨w.heap.size + 1, 0, none⟩ = some (.int .i64 r) := kcell hk1 (by simp [go_sem])
  have q3 : w1.cell? ⟨w.heap.size + 1, 1, none⟩ = some (.int .i64 c) := kcell hk1 (by simp [go_sem])
  have hT : TwoAt w1 (w.heap.size + 1 + 1) 0 0 := TwoAt.kept ⟨by simp [go_sem], by simp [go_sem], by simp [go_sem], by simp [go_sem]⟩ hk1 (fun e => e)
  have hU : TwoAt w1 (w.heap.size + 1 + 1 + 1) 0 0 := TwoAt.kept ⟨by simp [go_sem], by simp [go_sem], by simp [go_sem], by simp [go_sem]⟩ hk1 (fun e => e)
  have gt : w.heap.size ≤ w.heap.size + 1 + 1 := by omega
  have gu : w.heap.size ≤ w.heap.size + 1 + 1 + 1 := by omega
  have ne : ¬ w.heap.size + 1 + 1 = w.heap.size + 1 + 1 + 1 := by omega
  obtain ⟨ub, hub⟩ : ∃ q, q = w.heap.size + 1 + 1 + 1 := ⟨_, rfl⟩
  rw [← hub] at hU gu ne ⊢
  clear hub
  obtain ⟨tb, htb⟩ : ∃ q, q = w.heap.size + 1 + 1 := ⟨_, rfl⟩
  rw [← htb] at hT gt ne ⊢
  clear htb
  have ne2 : ¬ ub = tb := fun e => ne e.symm
  obtain ⟨t0, t1, t2, t3⟩ := hT
  obtain ⟨u0, u1, u2, u3⟩ := hU
  have hor : r < 0 ∨ (¬ r < 0 ∧ R ≤ r) ∨ (¬ r < 0 ∧ ¬ R ≤ r ∧ c < 0) ∨ (¬ r < 0 ∧ ¬ R ≤ r ∧ ¬ c < 0 ∧ C ≤ c) := by have := H2.out; omega
  clear hk1 H2
  rcases hor with h1 | ⟨h1, h2⟩ | ⟨h1, h2, h3⟩ | ⟨h1, h2, h3, h4⟩
  all_goals
    go_wp2_with fail
    refine bodyPost_ret (v := .tuple #[.agg #[.int .i64 0, .int .i64 0], .agg #[.int .i64 0, .int .i64 0], .int .i64 11]) (by simp [results, Tryz.results107, go_sem, *]) rfl ⟨rfl, ?_⟩
    exact (((kk.setCell _ (Or.inl (by first | exact gt | exact gu)) _).setCell _ (Or.inl (by first | exact gt | exact gu)) _).setCell _ (Or.inl (by first | exact gt | exact gu)) _).setCell _ (Or.inl (by first | exact gt | exact gu)) _
end Wp
end Go.Proofs.YtkpfhgfdfndliaaGreatDoor
