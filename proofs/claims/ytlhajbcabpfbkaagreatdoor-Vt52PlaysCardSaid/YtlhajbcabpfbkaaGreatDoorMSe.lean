/-
  Texts merged: ScrE ScrG.
-/
import Derived.Test.YtlhajbcabpfbkaaGreatDoorMSc
import Derived.Test.YtlhajbcabpfbkaaGreatDoorMPt
import Derived.Defers
import Derived.Recover
/-
  Calls of a screen that put something off to their end: Feed, Put, Resize.
-/
namespace Go.Proofs.YtlhajbcabpfbkaaGreatDoor
open Go.RowKit

set_option maxHeartbeats 400000 in
theorem smove_deferred {s g t cap tb m R C : Nat} {F : Nat → Cel} {S : Nat → Bool} {r c : Int} {b : Bool} (p q : Int) (u : FrameMode) (w : World) (h : ScrIn w s g t cap tb m R C F S r c b) :
    CallsD Tryz.prog 24 #[ptr s, pos p q] u w fun e u' w' => u' = u ∧ (e = .returned (.tuple #[]) ∧ ScrIn w' s g t cap tb m R C F S (nr p R) (nr q C) false ∧ Kept (· = s) w w') := by
  have hl := h.lt
  have HN := Lib.hid (fun w' => near_any (R : Int) (C : Int) p q w')
  rw [show nearR (R : Int) (C : Int) p = nr p R from if_pos (may_of h.grid.R1 h.grid.R2 h.grid.C1 h.grid.C2), show nearC (R : Int) (C : Int) q = nr q C from if_pos (may_of h.grid.R1 h.grid.R2 h.grid.C1 h.grid.C2)] at HN
  have HT : Hid (There R C (nr p R) (nr q C)) := st_there h.grid.R1 h.grid.C1
  have H := Lib.hid h
  clear h
  go_enter_d Tryz.func24, Tryz.ntmps24
  go_wp2_with fail
  obtain ⟨W, hW⟩ : ∃ W, W = w.alloc (.cells #[.int .i64 p, .int .i64 q] 45) := ⟨_, rfl⟩
  have k0 : Kept0 w W := by rw [hW]; exact (Kept.refl _ w).alloc _
  have hp : Two W w.heap.size p q := by rw [hW]; exact Two.of (heap_new _ _)
  rw [← hW]
  clear hW
  have HW := Lib.hid (H.out.kept0 k0)
  have KK := Lib.hid k0
  clear k0
  obtain ⟨p0, p1, p2, p3⟩ := hp
  have n1 : ¬ w.heap.size = s := by omega
  have n2 : ¬ s = w.heap.size := by omega
  obtain ⟨p5, hp5⟩ : ∃ p5, p5 = nr p R := ⟨_, rfl⟩
  obtain ⟨q5, hq5⟩ : ∃ q5, q5 = nr q C := ⟨_, rfl⟩
  rw [← hp5, ← hq5] at HN HT
  have HP5 := Lib.hid hp5
  have HQ5 := Lib.hid hq5
  clear hp5 hq5
  go_region_held3 (fun w' => w'.cell? ⟨w.heap.size, 0, none⟩ = some (.int .i64 p) ∧ w'.cell? ⟨w.heap.size, 1, none⟩ = some (.int .i64 q)) (go_keep)
    (first
      | (go_at_call 38; refine (HN.out _).mono ?_; rintro e w4 ⟨rfl, hk4⟩; have kn4 : Hid (Kept0 W w4) := kn.out.trans hk4; obtain ⟨z0, z1, z2, z3⟩ := z.kept0 hk4; have HS := Lib.hid (HW.out.kept0 kn4.out); have y0 := HS.out.c0; have y1 := HS.out.c1; have y2 := HS.out.c2; have f0 := HS.out.fz 0; have f1 := HS.out.fz 1; have f2 := HS.out.fz 2)
      | (go_at_call 39; refine (ssize_any _ (HW.out.kept0 (Kept.refl _ W).drew)).mono ?_; rintro e w3 ⟨rfl, hk3⟩; have kn : Hid (Kept0 W w3) := (Kept.refl _ W).drew.trans hk3; have z : Two w3 w.heap.size p q := ⟨kcell kn.out p0, kcell kn.out p1, kfrozen kn.out p0 p2, kfrozen kn.out p1 p3⟩; have z9 := z; obtain ⟨z0, z1, z2, z3⟩ := z9))
  all_goals
    go_wp2_with fail
    go_end0
    have e1 := HP5.out
    have e2 := HQ5.out
    subst e1 e2
    exact ⟨rfl, HS.out.onPlace HT.out, (KK.out.to.trans kn4.out.to).trans (ScrIn.keptPlace _ s _ _ false)⟩

theorem Blank.cel {w : World} (h : Blank w) : CelAt w 0 blk := by
  obtain ⟨t, h⟩ := h
  exact ⟨by simp [World.cell?, h, blk], by simp [World.cell?, h, blk], by simp [World.cell?, h, blk], by simp [World.cell?, h, blk]⟩
theorem three_set {w : World} {b : Nat} {x y : Int} {v : Bool} (h : Three w b x y v) (p q : Int) (u : Bool) : Three (((w.setCell ⟨b, 0, none⟩ (.int .i64 p)).setCell ⟨b, 1, none⟩ (.int .i64 q)).setCell ⟨b, 2, none⟩ (.bool u)) b p q u :=
  ⟨by simp [go_sem, h.c0], by simp [go_sem, h.c1], by simp [go_sem, h.c2], by simp [go_sem, h.f0], by simp [go_sem, h.f1], by simp [go_sem, h.f2]⟩
theorem three_newE (w : World) (t : TypeId) : Three (w.alloc (.cells #[.int .i64 0, .int .i64 0, .bool false] t)) w.heap.size 0 0 false := Three.of (heap_new w _)
theorem three_newED (w : World) (t : TypeId) : Three (w.alloc (.cells #[.int .i64 0, .int .i64 0, .bool false] t)).drew w.heap.size 0 0 false := (three_newE w t).kept0 (Kept.refl _ _).drew

set_option maxRecDepth 100000 in
set_option maxHeartbeats 2000000 in
theorem sfeed_core {s g t cap tb m R C : Nat} {F F' : Nat → Cel} {S : Nat → Bool} {r c : Int} {b : Bool} (n p q d : Int) (w : World) (h : ScrIn w s g t cap tb m R C F S r c b) (hbl : Blank w) (ht0 : ¬ t = 0)
    (hS : ∀ w', Calls Tryz.prog 106 #[pos R C, place r c b, .int .i64 n, .int .i64 0] w' fun e w'' => e = .returned (place p q false) ∧ Kept0 w' w'')
    (hd : IntKind.i64.wrap (n - IntKind.i64.wrap (p - r)) = d)
    (hU : ∀ w', GridAt w' g t cap R C F → Calls Tryz.prog 107 #[ptr g, .int .i64 d, blk.v] w' fun e w'' => (∃ V, e = .returned V) ∧ GridAt w'' g t cap R C F' ∧ Kept (· = t) w' w'') :
    Calls Tryz.prog 96 #[ptr s, .int .i64 n] w fun e w' => e = .returned (.tuple #[]) ∧ ScrIn w' s g t cap tb m R C F' S (nr p R) (nr q C) false ∧ Kept (fun i => i = s ∨ i = t) w w' := by
  have HS := Lib.hid hS
  have HU := Lib.hid hU
  have hts : ¬ s = t := h.apart.1.2.1
  have htl := h.grid.row.lt
  have HB := Lib.hid hbl
  have c0 := h.c0
  have c1 := h.c1
  have c2 := h.c2
  have c3 := h.c3
  have H := Lib.hid h
  have hl := h.lt
  clear h hS hU hbl
  go_enter_defers Tryz.func96, Tryz.ntmps96
  go_wp2_with fail
  have d0 := fun w' (k : Kept0 w w') => kcell k c0
  have d1 := fun w' (k : Kept0 w w') => kcell k c1
  have d2 := fun w' (k : Kept0 w w') => kcell k c2
  go_region_held3 (fun w' => Kept0 w w') (repeat (first | assumption | exact Kept.refl _ _ | refine Kept.drew ?_ | refine Kept.alloc ?_ _ | refine Kept.setCell ?_ _ (Or.inl (by first | exact Nat.le_refl _ | assumption)) _))
    (first
      | (go_at_call 106; refine (HS.out _).mono ?_; rintro e w4 ⟨rfl, hk4⟩
         have kb : Kept0 w w4 := by first | exact ka.trans hk4 | exact (ka.alloc _).trans hk4
         have kz4 : w.heap.size ≤ w4.heap.size := kb.size
         try (have u4 : Three w4 w3.heap.size 0 0 false := (three_newE w3 85).kept0 hk4; have v4 := u4.lt; have U4 := Lib.hid u4; obtain ⟨r0, r1, r2, r3, r4, r5⟩ := u4)
         try (have u2 : Three w4 w.heap.size 0 0 false := u0.kept0 hk4; have v2 := u2.lt; have U2 := Lib.hid u2; obtain ⟨m0, m1, m2, m3, m4, m5⟩ := u2))
      | (go_at_call 39; refine (ssize_any _ (H.out.kept0 (by first | exact (Kept.refl _ w).drew | exact ((Kept.refl _ w).alloc _).drew))).mono ?_; rintro e w3 ⟨rfl, hk3⟩
         have ka : Kept0 w w3 := by first | exact (Kept.refl _ w).drew.trans hk3 | exact ((Kept.refl _ w).alloc _).drew.trans hk3
         have kz3 : w.heap.size ≤ w3.heap.size := ka.size
         try (have u0 : Three w3 w.heap.size 0 0 false := (three_newED w 85).kept0 hk3)))
  · have T4 : Three (w4.alloc (.cells #[.int .i64 p, .int .i64 q, .bool false] 85)) (w4.heap.size) p q false := Three.of (heap_new _ _)
    have kV : Kept0 w (w4.alloc (.cells #[.int .i64 p, .int .i64 q, .bool false] 85)) := kb.alloc _
    have hb4 : t < w4.heap.size := by omega
    generalize (w4.alloc (.cells #[.int .i64 p, .int .i64 q, .bool false] 85)) = V at T4 kV ⊢
    obtain ⟨b4, e4⟩ : ∃ b4, b4 = w4.heap.size := ⟨_, rfl⟩
    rw [← e4] at T4 hb4
    rw [← e4]
    clear e4
    obtain ⟨z0, z1, z2, z3, z4, z5⟩ := T4
    have KV := Lib.hid kV
    clear kV
    go_wp2_with fail
    have f4 : ¬ b4 = t := by omega
    have x3 := fun w' (k : Kept (· = t) V w') => kcellS k (kcell KV.out c3) hts
    have x0 := fun w' (k : Kept (· = t) V w') => kcellS k (kcell KV.out c0) hts
    have y0 := fun w' (k : Kept (· = t) V w') => kcellS k z0 f4
    have hB := (HB.out.kept0 KV.out).cel
    have g0 := fun w' (k : Kept (· = t) V w') => kcellS k hB.c0 (fun e => ht0 e.symm)
    have g1 := fun w' (k : Kept (· = t) V w') => kcellS k hB.c1 (fun e => ht0 e.symm)
    have g2 := fun w' (k : Kept (· = t) V w') => kcellS k hB.c2 (fun e => ht0 e.symm)
    have g3 := fun w' (k : Kept (· = t) V w') => kcellS k hB.c3 (fun e => ht0 e.symm)
    go_region_held3 (fun w' => Kept (· = t) V w') (repeat (first | assumption | exact Kept.refl _ _ | refine Kept.drew ?_))
      (first | (go_at_call 107; refine (HU.out _ (H.out.kept0 KV.out.drew).grid).mono ?_; rintro e w5 ⟨⟨V5, rfl⟩, hg5, hk5⟩; have kc : Kept (· = t) V w5 := (Kept.refl _ V).drew.trans hk5; have HG := Lib.hid hg5; clear hg5))
    all_goals
      refine leaves_cons (f := 24) (args := #[ptr s, pos p q]) (by simp) (by simp [go_sem]) ?_
      refine (smove_deferred p q .returning w5 ((H.out.kept0 KV.out).onGrid kc HG.out)).mono ?_
      rintro e u' w6 ⟨rfl, rfl, h6, k6⟩
      refine ⟨.tuple #[], results_none rfl _ _ _, ?_⟩
      exact ⟨rfl, h6, (Kept0.to KV.out).trans ((kc.mono (fun _ _ e => Or.inr e)).trans (k6.mono (fun _ _ e => Or.inl e)))⟩
  · have T4 : Three (((w4.setCell ⟨w3.heap.size, 0, none⟩ (.int .i64 p)).setCell ⟨w3.heap.size, 1, none⟩ (.int .i64 q)).setCell ⟨w3.heap.size, 2, none⟩ (.bool false)) (w3.heap.size) p q false := three_set U4.out p q false
    have kV : Kept0 w (((w4.setCell ⟨w3.heap.size, 0, none⟩ (.int .i64 p)).setCell ⟨w3.heap.size, 1, none⟩ (.int .i64 q)).setCell ⟨w3.heap.size, 2, none⟩ (.bool false)) := ((kb.setCell _ (Or.inl kz3) _).setCell _ (Or.inl kz3) _).setCell _ (Or.inl kz3) _
    have hb4 : t < w3.heap.size := by omega
    generalize (((w4.setCell ⟨w3.heap.size, 0, none⟩ (.int .i64 p)).setCell ⟨w3.heap.size, 1, none⟩ (.int .i64 q)).setCell ⟨w3.heap.size, 2, none⟩ (.bool false)) = V at T4 kV ⊢
    obtain ⟨b4, e4⟩ : ∃ b4, b4 = w3.heap.size := ⟨_, rfl⟩
    rw [← e4] at T4 hb4
    rw [← e4]
    clear e4
    obtain ⟨z0, z1, z2, z3, z4, z5⟩ := T4
    have KV := Lib.hid kV
    clear kV
    go_wp2_with fail
    have f4 : ¬ b4 = t := by omega
    have x3 := fun w' (k : Kept (· = t) V w') => kcellS k (kcell KV.out c3) hts
    have x0 := fun w' (k : Kept (· = t) V w') => kcellS k (kcell KV.out c0) hts
    have y0 := fun w' (k : Kept (· = t) V w') => kcellS k z0 f4
    have hB := (HB.out.kept0 KV.out).cel
    have g0 := fun w' (k : Kept (· = t) V w') => kcellS k hB.c0 (fun e => ht0 e.symm)
    have g1 := fun w' (k : Kept (· = t) V w') => kcellS k hB.c1 (fun e => ht0 e.symm)
    have g2 := fun w' (k : Kept (· = t) V w') => kcellS k hB.c2 (fun e => ht0 e.symm)
    have g3 := fun w' (k : Kept (· = t) V w') => kcellS k hB.c3 (fun e => ht0 e.symm)
    go_region_held3 (fun w' => Kept (· = t) V w') (repeat (first | assumption | exact Kept.refl _ _ | refine Kept.drew ?_))
      (first | (go_at_call 107; refine (HU.out _ (H.out.kept0 KV.out.drew).grid).mono ?_; rintro e w5 ⟨⟨V5, rfl⟩, hg5, hk5⟩; have kc : Kept (· = t) V w5 := (Kept.refl _ V).drew.trans hk5; have HG := Lib.hid hg5; clear hg5))
    all_goals
      refine leaves_cons (f := 24) (args := #[ptr s, pos p q]) (by simp) (by simp [go_sem]) ?_
      refine (smove_deferred p q .returning w5 ((H.out.kept0 KV.out).onGrid kc HG.out)).mono ?_
      rintro e u' w6 ⟨rfl, rfl, h6, k6⟩
      refine ⟨.tuple #[], results_none rfl _ _ _, ?_⟩
      exact ⟨rfl, h6, (Kept0.to KV.out).trans ((kc.mono (fun _ _ e => Or.inr e)).trans (k6.mono (fun _ _ e => Or.inl e)))⟩
  · have T4 : Three (((w4.setCell ⟨w.heap.size, 0, none⟩ (.int .i64 p)).setCell ⟨w.heap.size, 1, none⟩ (.int .i64 q)).setCell ⟨w.heap.size, 2, none⟩ (.bool false)) (w.heap.size) p q false := three_set U2.out p q false
    have kV : Kept0 w (((w4.setCell ⟨w.heap.size, 0, none⟩ (.int .i64 p)).setCell ⟨w.heap.size, 1, none⟩ (.int .i64 q)).setCell ⟨w.heap.size, 2, none⟩ (.bool false)) := ((kb.setCell _ (Or.inl (Nat.le_refl _)) _).setCell _ (Or.inl (Nat.le_refl _)) _).setCell _ (Or.inl (Nat.le_refl _)) _
    have hb4 : t < w.heap.size := by omega
    generalize (((w4.setCell ⟨w.heap.size, 0, none⟩ (.int .i64 p)).setCell ⟨w.heap.size, 1, none⟩ (.int .i64 q)).setCell ⟨w.heap.size, 2, none⟩ (.bool false)) = V at T4 kV ⊢
    obtain ⟨b4, e4⟩ : ∃ b4, b4 = w.heap.size := ⟨_, rfl⟩
    rw [← e4] at T4 hb4
    rw [← e4]
    clear e4
    obtain ⟨z0, z1, z2, z3, z4, z5⟩ := T4
    have KV := Lib.hid kV
    clear kV
    go_wp2_with fail
    have f4 : ¬ b4 = t := by omega
    have x3 := fun w' (k : Kept (· = t) V w') => kcellS k (kcell KV.out c3) hts
    have x0 := fun w' (k : Kept (· = t) V w') => kcellS k (kcell KV.out c0) hts
    have y0 := fun w' (k : Kept (· = t) V w') => kcellS k z0 f4
    have hB := (HB.out.kept0 KV.out).cel
    have g0 := fun w' (k : Kept (· = t) V w') => kcellS k hB.c0 (fun e => ht0 e.symm)
    have g1 := fun w' (k : Kept (· = t) V w') => kcellS k hB.c1 (fun e => ht0 e.symm)
    have g2 := fun w' (k : Kept (· = t) V w') => kcellS k hB.c2 (fun e => ht0 e.symm)
    have g3 := fun w' (k : Kept (· = t) V w') => kcellS k hB.c3 (fun e => ht0 e.symm)
    go_region_held3 (fun w' => Kept (· = t) V w') (repeat (first | assumption | exact Kept.refl _ _ | refine Kept.drew ?_))
      (first | (go_at_call 107; refine (HU.out _ (H.out.kept0 KV.out.drew).grid).mono ?_; rintro e w5 ⟨⟨V5, rfl⟩, hg5, hk5⟩; have kc : Kept (· = t) V w5 := (Kept.refl _ V).drew.trans hk5; have HG := Lib.hid hg5; clear hg5))
    all_goals
      refine leaves_cons (f := 24) (args := #[ptr s, pos p q]) (by simp) (by simp [go_sem]) ?_
      refine (smove_deferred p q .returning w5 ((H.out.kept0 KV.out).onGrid kc HG.out)).mono ?_
      rintro e u' w6 ⟨rfl, rfl, h6, k6⟩
      refine ⟨.tuple #[], results_none rfl _ _ _, ?_⟩
      exact ⟨rfl, h6, (Kept0.to KV.out).trans ((kc.mono (fun _ _ e => Or.inr e)).trans (k6.mono (fun _ _ e => Or.inl e)))⟩

/-- How far the lines go, and where the cursor is, behind Feed. -/
def feedR (R : Nat) (r n : Int) : Int := nr (r + n) R
def feedD (R : Nat) (r n : Int) : Int := r + n - nr (r + n) R

theorem sfeed_any {s g t cap tb m R C : Nat} {F : Nat → Cel} {S : Nat → Bool} {r c : Int} {b : Bool} (n : Int) (w : World) (h : ScrIn w s g t cap tb m R C F S r c b) (hbl : Blank w) (ht0 : ¬ t = 0) (hn : -9223372036854775808 ≤ n ∧ n ≤ 9223372036854775807) :
    Calls Tryz.prog 96 #[ptr s, .int .i64 n] w fun e w' => e = .returned (.tuple #[]) ∧ ScrIn w' s g t cap tb m R C (upF R C F (feedD R r n) blk) S (feedR R r n) c false ∧ Kept (fun i => i = s ∨ i = t) w w' := by
  have hm := may_of h.grid.R1 h.grid.R2 h.grid.C1 h.grid.C2
  have hth := h.there
  have hR2 := h.grid.R2
  have hC2 := h.grid.C2
  obtain ⟨q1, q2, q3, q4⟩ := hth
  have eR : nr (r + cut n 255) R = feedR R r n := by unfold feedR nr cut; omega
  have eC : nr (c + cut 0 255) C = c := by unfold nr cut; omega
  have e1 : nr (feedR R r n) R = feedR R r n := by unfold feedR; exact nr_nr _ _ (by omega)
  have e2 : nr c C = c := nr_in _ _ q3 q4
  have hS := fun w' => step_any (R : Int) (C : Int) r c n 0 b w'
  rw [show nearR (R : Int) (C : Int) r = r from (if_pos hm).trans (nr_in _ _ q1 q2), show nearC (R : Int) (C : Int) c = c from (if_pos hm).trans e2, show nearR (R : Int) (C : Int) (r + cut n 255) = nr (r + cut n 255) R from if_pos hm, show nearC (R : Int) (C : Int) (c + cut 0 255) = nr (c + cut 0 255) C from if_pos hm, eR, eC] at hS
  have := sfeed_core (F' := upF R C F (feedD R r n) blk) n (feedR R r n) c (feedD R r n) w h hbl ht0 hS (by
    have a1 : IntKind.i64.wrap (feedR R r n - r) = feedR R r n - r := IntWalk.i64_in _ (by unfold feedR nr; constructor <;> omega)
    rw [a1]
    have a2 : IntKind.i64.wrap (n - (feedR R r n - r)) = n - (feedR R r n - r) := IntWalk.i64_in _ (by unfold feedR nr; constructor <;> omega)
    rw [a2]
    unfold feedD feedR
    omega) (fun w' hg => (up_any g t cap R C F (feedD R r n) blk w' hg).mono (by rintro e w2 ⟨rfl, h1, h2⟩; exact ⟨⟨_, rfl⟩, h1, h2⟩))
  rwa [e1, e2] at this

set_option maxRecDepth 100000 in
set_option maxHeartbeats 2000000 in
/-- The closure that Put puts off. -/
theorem put_closure {s g t cap tb m R C : Nat} {F : Nat → Cel} {S : Nat → Bool} {r c : Int} {b : Bool} (bn bs : Nat) (p q : Int) (v : Bool) (u : FrameMode) (w : World) (h : ScrIn w s g t cap tb m R C F S r c b) (hn : Three w bn p q v) (hb : w.cell? ⟨bs, 0, none⟩ = some (ptr s)) (hth : There R C p q) :
    CallsD Tryz.prog 108 #[ptr bn, ptr bs] u w fun e u' w' => u' = u ∧ (e = .returned (.tuple #[]) ∧ ScrIn w' s g t cap tb m R C F S p q v ∧ Kept (· = s) w w') := by
  have H := Lib.hid h
  have y0 := h.c0
  have y1 := h.c1
  have y2 := h.c2
  have f0 := h.fz 0
  have f1 := h.fz 1
  have f2 := h.fz 2
  obtain ⟨z0, z1, z2, z3, z4, z5⟩ := hn
  have HT := Lib.hid hth
  clear h hth
  go_enter_d Tryz.func108, Tryz.ntmps108
  go_wp2_with fail
  go_end0
  exact ⟨rfl, H.out.onPlace HT.out, ScrIn.keptPlace _ s p q v⟩

set_option maxRecDepth 100000 in
set_option maxHeartbeats 2000000 in
theorem sput_free {s g t cap tb m R C : Nat} {F F' : Nat → Cel} {S : Nat → Bool} {r c : Int} {b : Bool} (x : Cel) (k p q : Int) (v : Bool) (w : World) (h : ScrIn w s g t cap tb m R C F S r c b) (hbl : Blank w) (ht0 : ¬ t = 0) (hth : There R C p q)
    (hP : ∀ w', GridAt w' g t cap R C F → Calls Tryz.prog 109 #[ptr g, place r c b, x.v, .int .i64 k, blk.v] w' fun e w'' => (∃ n E, e = .returned (.tuple #[place p q v, .int .i64 n, .int .i64 E])) ∧ GridAt w'' g t cap R C F' ∧ Kept (· = t) w' w'') :
    Calls Tryz.prog 100 #[ptr s, x.v, .int .i64 k, .bool false] w fun e w' => e = .returned (.tuple #[]) ∧ ScrIn w' s g t cap tb m R C F' S p q v ∧ Kept (fun i => i = s ∨ i = t) w w' := by
  have HP := Lib.hid hP
  have hts : ¬ s = t := h.apart.1.2.1
  have htl := h.grid.row.lt
  have HB := Lib.hid hbl
  have c0 := h.c0
  have c1 := h.c1
  have c2 := h.c2
  have c3 := h.c3
  have H := Lib.hid h
  have hl := h.lt
  have hmf : ∀ (fn : Fn) (first cap : Array Value) (w : World), (Instr.makeFunc fn first cap).run Tryz.prog w = .ok (.func fn first cap) w := fun _ _ _ _ => rfl
  clear h hP hbl
  go_enter_defers Tryz.func100, Tryz.ntmps100
  go_wp2_with fail
  obtain ⟨V, hV⟩ : ∃ V, V = (((w.alloc (.cells #[ptr s] 32)).alloc (.cells #[.int .i32 x.g, .int .i64 x.a, .bool x.b, .int .i64 x.m] 52)).alloc (.cells #[.int .i64 r, .int .i64 c, .bool b] 85)) := ⟨_, rfl⟩
  have kV : Kept0 w V := by rw [hV]; exact (((Kept.refl _ w).alloc _).alloc _).alloc _
  have bs : V.cell? ⟨w.heap.size, 0, none⟩ = some (ptr s) := by rw [hV]; simp [go_sem]
  have bx : CelAt V (w.heap.size + 1) x := by rw [hV]; constructor <;> simp [go_sem]
  have T3 : Three V (w.heap.size + 1 + 1) r c b := by rw [hV]; exact Three.of (by have := heap_new2 (w.alloc (.cells #[ptr s] 32)) (.cells #[.int .i32 x.g, .int .i64 x.a, .bool x.b, .int .i64 x.m] 52) (.cells #[.int .i64 r, .int .i64 c, .bool b] 85); rwa [World.size_alloc] at this)
  rw [← hV]
  clear hV
  have KV := Lib.hid kV
  have HT3 := Lib.hid T3
  have HBS := Lib.hid bs
  have hB := (HB.out.kept0 kV).cel
  have c0 := fun w' (k : Kept (fun i => i = t ∨ i = w.heap.size + 1 + 1) V w') => kcellS k (kcell kV c0) (by omega)
  have c1 := fun w' (k : Kept (fun i => i = t ∨ i = w.heap.size + 1 + 1) V w') => kcellS k (kcell kV c1) (by omega)
  have c2 := fun w' (k : Kept (fun i => i = t ∨ i = w.heap.size + 1 + 1) V w') => kcellS k (kcell kV c2) (by omega)
  have c3 := fun w' (k : Kept (fun i => i = t ∨ i = w.heap.size + 1 + 1) V w') => kcellS k (kcell kV c3) (by omega)
  have s0 := fun w' (k : Kept (fun i => i = t ∨ i = w.heap.size + 1 + 1) V w') => kcellS k bs (by omega)
  have x0 := fun w' (k : Kept (fun i => i = t ∨ i = w.heap.size + 1 + 1) V w') => kcellS k bx.c0 (by omega)
  have x1 := fun w' (k : Kept (fun i => i = t ∨ i = w.heap.size + 1 + 1) V w') => kcellS k bx.c1 (by omega)
  have x2 := fun w' (k : Kept (fun i => i = t ∨ i = w.heap.size + 1 + 1) V w') => kcellS k bx.c2 (by omega)
  have x3 := fun w' (k : Kept (fun i => i = t ∨ i = w.heap.size + 1 + 1) V w') => kcellS k bx.c3 (by omega)
  have g0 := fun w' (k : Kept (fun i => i = t ∨ i = w.heap.size + 1 + 1) V w') => kcellS k hB.c0 (by omega)
  have g1 := fun w' (k : Kept (fun i => i = t ∨ i = w.heap.size + 1 + 1) V w') => kcellS k hB.c1 (by omega)
  have g2 := fun w' (k : Kept (fun i => i = t ∨ i = w.heap.size + 1 + 1) V w') => kcellS k hB.c2 (by omega)
  have g3 := fun w' (k : Kept (fun i => i = t ∨ i = w.heap.size + 1 + 1) V w') => kcellS k hB.c3 (by omega)
  clear kV bx T3 bs hB
  go_region_held3 (fun w' => Kept (fun i => i = t ∨ i = w.heap.size + 1 + 1) V w') (repeat (first | assumption | exact Kept.refl _ _ | refine Kept.drew ?_ | refine Kept.setCell ?_ _ (Or.inr (Or.inr rfl)) _))
    (first | (go_at_call 109; refine (HP.out _ (H.out.kept0 KV.out.drew).grid).mono ?_; rintro e w5 ⟨⟨n5, E5, rfl⟩, hg5, hk5⟩; have kd : Hid (Kept (· = t) V w5) := (Kept.refl _ V).drew.trans hk5; have kc : Kept (fun i => i = t ∨ i = w.heap.size + 1 + 1) V w5 := kd.out.mono (fun _ _ e => Or.inl e); have HG := Lib.hid hg5; clear hg5; have T5 := Lib.hid (HT3.out.kept kd.out (by omega)); obtain ⟨z0, z1, z2, z3, z4, z5⟩ := T5.out))
  all_goals
    have kE : Kept (· = w.heap.size + 1 + 1) w5 (((w5.setCell ⟨w.heap.size + 1 + 1, 0, none⟩ (.int .i64 p)).setCell ⟨w.heap.size + 1 + 1, 1, none⟩ (.int .i64 q)).setCell ⟨w.heap.size + 1 + 1, 2, none⟩ (.bool v)) := ScrIn.keptPlace w5 _ p q v
    have T6 := three_set T5.out p q v
    have H5 := (H.out.kept0 KV.out).onGrid kd.out HG.out
    have hlt := H.out.all_lt
    have H6 := H5.kept kE (fun i hi e => by have := hlt i hi; omega)
    have bs6 := kcellS kE (kcellS kc HBS.out (by omega)) (by omega)
    generalize (((w5.setCell ⟨w.heap.size + 1 + 1, 0, none⟩ (.int .i64 p)).setCell ⟨w.heap.size + 1 + 1, 1, none⟩ (.int .i64 q)).setCell ⟨w.heap.size + 1 + 1, 2, none⟩ (.bool v)) = V6 at kE T6 H6 bs6 ⊢
    have HH6 := Lib.hid H6
    have HT6 := Lib.hid T6
    have kk : Hid (Kept (fun i => i = s ∨ i = t) w V6) := (((Kept0.to KV.out : Kept (· = t) w V).trans kd.out).mono (fun _ _ e => Or.inr e)).later kE (fun i hi e => by omega)
    clear H5 H6 T6 hlt kE
    go_wp2_with fail
    refine leaves_cons (f := 108) (args := #[ptr (w.heap.size + 1 + 1), ptr w.heap.size]) (by simp) (by simp [go_sem]) ?_
    refine (put_closure _ _ p q v .returning V6 HH6.out HT6.out bs6 hth).mono ?_
    rintro e u' w7 ⟨rfl, rfl, h7, k7⟩
    refine ⟨.tuple #[], results_none rfl _ _ _, ?_⟩
    exact ⟨rfl, h7, kk.out.trans (k7.mono (fun _ _ e => Or.inl e))⟩

end Go.Proofs.YtlhajbcabpfbkaaGreatDoor

/-
  Put of a screen with guard.
-/
namespace Go.Proofs.YtlhajbcabpfbkaaGreatDoor
open Go.RowKit

set_option maxRecDepth 100000 in
set_option maxHeartbeats 2000000 in
theorem sput_some {s g t cap tb m R C : Nat} {F F' : Nat → Cel} {S : Nat → Bool} {r c : Int} {b : Bool} (x : Cel) (k p q : Int) (w : World) (h : ScrIn w s g t cap tb m R C F S r c b) (hth : There R C p q)
    (hP : ∀ w', GridAt w' g t cap R C F → Calls Tryz.prog 110 #[ptr g, place r c b, x.v] w' fun e w'' => e = .returned (.tuple #[place p q false, .int .i64 0]) ∧ GridAt w'' g t cap R C F' ∧ Kept (· = t) w' w'') :
    Calls Tryz.prog 100 #[ptr s, x.v, .int .i64 k, .bool true] w fun e w' => e = .returned (.tuple #[]) ∧ ScrIn w' s g t cap tb m R C F' S p q false ∧ Kept (fun i => i = s ∨ i = t) w w' := by
  have HP := Lib.hid hP
  have hts : ¬ s = t := h.apart.1.2.1
  have htl := h.grid.row.lt
  have c0 := h.c0
  have c1 := h.c1
  have c2 := h.c2
  have c3 := h.c3
  have H := Lib.hid h
  have hl := h.lt
  have hmf : ∀ (fn : Fn) (first cap : Array Value) (w : World), (Instr.makeFunc fn first cap).run Tryz.prog w = .ok (.func fn first cap) w := fun _ _ _ _ => rfl
  clear h hP
  go_enter_defers Tryz.func100, Tryz.ntmps100
  go_wp2_with fail
  obtain ⟨V, hV⟩ : ∃ V, V = (((w.alloc (.cells #[ptr s] 32)).alloc (.cells #[.int .i32 x.g, .int .i64 x.a, .bool x.b, .int .i64 x.m] 52)).alloc (.cells #[.int .i64 r, .int .i64 c, .bool b] 85)) := ⟨_, rfl⟩
  have kV : Kept0 w V := by rw [hV]; exact (((Kept.refl _ w).alloc _).alloc _).alloc _
  have bs : V.cell? ⟨w.heap.size, 0, none⟩ = some (ptr s) := by rw [hV]; simp [go_sem]
  have bx : CelAt V (w.heap.size + 1) x := by rw [hV]; constructor <;> simp [go_sem]
  have T3 : Three V (w.heap.size + 1 + 1) r c b := by rw [hV]; exact Three.of (by have := heap_new2 (w.alloc (.cells #[ptr s] 32)) (.cells #[.int .i32 x.g, .int .i64 x.a, .bool x.b, .int .i64 x.m] 52) (.cells #[.int .i64 r, .int .i64 c, .bool b] 85); rwa [World.size_alloc] at this)
  have hzV0 : V.heap.size = w.heap.size + 1 + 1 + 1 := by rw [hV]; simp
  rw [← hV]
  clear hV
  have KV := Lib.hid kV
  have HT3 := Lib.hid T3
  have HBS := Lib.hid bs
  have c0 := fun w' (k : Kept (fun i => i = t ∨ w.heap.size + 1 + 1 ≤ i) V w') => kcellS k (kcell kV c0) (by omega)
  have c1 := fun w' (k : Kept (fun i => i = t ∨ w.heap.size + 1 + 1 ≤ i) V w') => kcellS k (kcell kV c1) (by omega)
  have c2 := fun w' (k : Kept (fun i => i = t ∨ w.heap.size + 1 + 1 ≤ i) V w') => kcellS k (kcell kV c2) (by omega)
  have c3 := fun w' (k : Kept (fun i => i = t ∨ w.heap.size + 1 + 1 ≤ i) V w') => kcellS k (kcell kV c3) (by omega)
  have s0 := fun w' (k : Kept (fun i => i = t ∨ w.heap.size + 1 + 1 ≤ i) V w') => kcellS k bs (by omega)
  have x0 := fun w' (k : Kept (fun i => i = t ∨ w.heap.size + 1 + 1 ≤ i) V w') => kcellS k bx.c0 (by omega)
  have x1 := fun w' (k : Kept (fun i => i = t ∨ w.heap.size + 1 + 1 ≤ i) V w') => kcellS k bx.c1 (by omega)
  have x2 := fun w' (k : Kept (fun i => i = t ∨ w.heap.size + 1 + 1 ≤ i) V w') => kcellS k bx.c2 (by omega)
  have x3 := fun w' (k : Kept (fun i => i = t ∨ w.heap.size + 1 + 1 ≤ i) V w') => kcellS k bx.c3 (by omega)
  clear kV bx T3 bs
  have hzV : V.heap.size = w.heap.size + 1 + 1 + 1 := hzV0
  have hge : w.heap.size + 1 + 1 ≤ V.heap.size := by omega
  have hge3 : w.heap.size + 1 + 1 < V.heap.size := by omega
  clear hzV hzV0
  go_region_held3 (fun w' => Kept (fun i => i = t ∨ w.heap.size + 1 + 1 ≤ i) V w') (repeat (first | assumption | exact Kept.refl _ _ | refine Kept.drew ?_ | refine Kept.alloc ?_ _ | refine Kept.setCell ?_ _ (by first | exact Or.inl (Nat.le_refl _) | exact Or.inl (by assumption)) _))
    (first
      | (go_at_call 110; refine (HP.out _ (H.out.kept0 (by first | exact KV.out.drew | exact (KV.out.alloc _).drew)).grid).mono ?_; rintro e w5 ⟨rfl, hg5, hk5⟩
         have kd : Hid (Kept (· = t) V w5) := by first | exact (Kept.refl _ V).drew.trans hk5 | exact ((Kept.refl _ V).alloc _).drew.trans hk5
         have kc : Kept (fun i => i = t ∨ w.heap.size + 1 + 1 ≤ i) V w5 := kd.out.mono (fun _ _ e => Or.inl e)
         have HG := Lib.hid hg5
         clear hg5
         have T5 := Lib.hid (HT3.out.kept kd.out (by omega))
         have kz5 : V.heap.size ≤ w5.heap.size := kd.out.size
         try (have u0 : Three w5 V.heap.size 0 0 false := (three_newED V 85).kept hk5 (by omega); have v0 := u0.lt; have U0 := Lib.hid u0; obtain ⟨m0, m1, m2, m3, m4, m5⟩ := u0)))
  all_goals
    first
      | (have T9 : Three (((w5.setCell ⟨V.heap.size, 0, none⟩ (.int .i64 p)).setCell ⟨V.heap.size, 1, none⟩ (.int .i64 q)).setCell ⟨V.heap.size, 2, none⟩ (.bool false)) V.heap.size p q false := three_set U0.out p q false
         have kE : Kept (fun i => w.heap.size + 1 + 1 + 1 ≤ i) w5 (((w5.setCell ⟨V.heap.size, 0, none⟩ (.int .i64 p)).setCell ⟨V.heap.size, 1, none⟩ (.int .i64 q)).setCell ⟨V.heap.size, 2, none⟩ (.bool false)) := (ScrIn.keptPlace w5 V.heap.size p q false).mono (fun i _ e => by omega)
         have f9 : w.heap.size + 1 + 1 < V.heap.size := by omega
         generalize (((w5.setCell ⟨V.heap.size, 0, none⟩ (.int .i64 p)).setCell ⟨V.heap.size, 1, none⟩ (.int .i64 q)).setCell ⟨V.heap.size, 2, none⟩ (.bool false)) = V5 at T9 kE ⊢
         obtain ⟨b9, e9⟩ : ∃ b9, b9 = V.heap.size := ⟨_, rfl⟩
         rw [← e9] at T9 f9
         rw [← e9]
         clear e9)
      | (have T9 : Three (w5.alloc (.cells #[.int .i64 p, .int .i64 q, .bool false] 85)) w5.heap.size p q false := Three.of (heap_new _ _)
         have kE : Kept (fun i => w.heap.size + 1 + 1 + 1 ≤ i) w5 (w5.alloc (.cells #[.int .i64 p, .int .i64 q, .bool false] 85)) := (Kept.refl _ _).alloc _
         have f9 : w.heap.size + 1 + 1 < w5.heap.size := by omega
         generalize (w5.alloc (.cells #[.int .i64 p, .int .i64 q, .bool false] 85)) = V5 at T9 kE ⊢
         obtain ⟨b9, e9⟩ : ∃ b9, b9 = w5.heap.size := ⟨_, rfl⟩
         rw [← e9] at T9 f9
         rw [← e9]
         clear e9)
    have H5 := (H.out.kept0 KV.out).onGrid kd.out HG.out
    have hlt := H.out.all_lt
    have HH5 := Lib.hid (H5.kept kE (fun i hi e => by have := hlt i hi; omega))
    have BS5 := Lib.hid (kcellS kE (kcellS kd.out HBS.out (by omega)) (by omega))
    have T8 := Lib.hid (T5.out.kept kE (by omega))
    have kk : Hid (Kept (fun i => i = s ∨ i = t) w V5) := (((Kept0.to KV.out : Kept (· = t) w V).trans kd.out).mono (fun _ _ e => Or.inr e)).later kE (fun i hi e => by omega)
    obtain ⟨z0, z1, z2, z3, z4, z5⟩ := T8.out
    obtain ⟨y0, y1, y2, y3, y4, y5⟩ := T9
    clear H5 hlt kE
    go_wp2_with fail
    have kF : Kept (· = w.heap.size + 1 + 1) V5 (((V5.setCell ⟨w.heap.size + 1 + 1, 0, none⟩ (.int .i64 p)).setCell ⟨w.heap.size + 1 + 1, 1, none⟩ (.int .i64 q)).setCell ⟨w.heap.size + 1 + 1, 2, none⟩ (.bool false)) := ScrIn.keptPlace V5 _ p q false
    have hlt := H.out.all_lt
    refine leaves_cons (f := 108) (args := #[ptr (w.heap.size + 1 + 1), ptr w.heap.size]) (by simp) (by simp [go_sem]) ?_
    refine (put_closure _ _ p q false .returning _ (HH5.out.kept kF (fun i hi e => by have := hlt i hi; omega)) (three_set T8.out p q false) (kcellS kF BS5.out (by omega)) hth).mono ?_
    rintro e u' w7 ⟨rfl, rfl, h7, k7⟩
    refine ⟨.tuple #[], results_none rfl _ _ _, ?_⟩
    exact ⟨rfl, h7, (kk.out.later kF (fun i hi e => by omega)).trans (k7.mono (fun _ _ e => Or.inl e))⟩

set_option maxRecDepth 100000 in
set_option maxHeartbeats 2000000 in
theorem sput_none {s g t cap tb m R C : Nat} {F F' : Nat → Cel} {S : Nat → Bool} {r c : Int} {b : Bool} (x : Cel) (k p q : Int) (w : World) (h : ScrIn w s g t cap tb m R C F S r c b)
    (hP : ∀ w', GridAt w' g t cap R C F → Calls Tryz.prog 110 #[ptr g, place r c b, x.v] w' fun e w'' => e = .returned (.tuple #[place p q false, .int .i64 15]) ∧ GridAt w'' g t cap R C F' ∧ Kept (· = t) w' w'') :
    Calls Tryz.prog 100 #[ptr s, x.v, .int .i64 k, .bool true] w fun e w' => e = .returned (.tuple #[]) ∧ ScrIn w' s g t cap tb m R C F' S r c b ∧ Kept (fun i => i = s ∨ i = t) w w' := by
  have HP := Lib.hid hP
  have hth := h.there
  have hts : ¬ s = t := h.apart.1.2.1
  have htl := h.grid.row.lt
  have c0 := h.c0
  have c1 := h.c1
  have c2 := h.c2
  have c3 := h.c3
  have H := Lib.hid h
  have hl := h.lt
  have hmf : ∀ (fn : Fn) (first cap : Array Value) (w : World), (Instr.makeFunc fn first cap).run Tryz.prog w = .ok (.func fn first cap) w := fun _ _ _ _ => rfl
  clear h hP
  go_enter_defers Tryz.func100, Tryz.ntmps100
  go_wp2_with fail
  obtain ⟨V, hV⟩ : ∃ V, V = (((w.alloc (.cells #[ptr s] 32)).alloc (.cells #[.int .i32 x.g, .int .i64 x.a, .bool x.b, .int .i64 x.m] 52)).alloc (.cells #[.int .i64 r, .int .i64 c, .bool b] 85)) := ⟨_, rfl⟩
  have kV : Kept0 w V := by rw [hV]; exact (((Kept.refl _ w).alloc _).alloc _).alloc _
  have bs : V.cell? ⟨w.heap.size, 0, none⟩ = some (ptr s) := by rw [hV]; simp [go_sem]
  have bx : CelAt V (w.heap.size + 1) x := by rw [hV]; constructor <;> simp [go_sem]
  have T3 : Three V (w.heap.size + 1 + 1) r c b := by rw [hV]; exact Three.of (by have := heap_new2 (w.alloc (.cells #[ptr s] 32)) (.cells #[.int .i32 x.g, .int .i64 x.a, .bool x.b, .int .i64 x.m] 52) (.cells #[.int .i64 r, .int .i64 c, .bool b] 85); rwa [World.size_alloc] at this)
  have hzV0 : V.heap.size = w.heap.size + 1 + 1 + 1 := by rw [hV]; simp
  rw [← hV]
  clear hV
  have KV := Lib.hid kV
  have HT3 := Lib.hid T3
  have HBS := Lib.hid bs
  have c0 := fun w' (k : Kept (fun i => i = t ∨ w.heap.size + 1 + 1 ≤ i) V w') => kcellS k (kcell kV c0) (by omega)
  have c1 := fun w' (k : Kept (fun i => i = t ∨ w.heap.size + 1 + 1 ≤ i) V w') => kcellS k (kcell kV c1) (by omega)
  have c2 := fun w' (k : Kept (fun i => i = t ∨ w.heap.size + 1 + 1 ≤ i) V w') => kcellS k (kcell kV c2) (by omega)
  have c3 := fun w' (k : Kept (fun i => i = t ∨ w.heap.size + 1 + 1 ≤ i) V w') => kcellS k (kcell kV c3) (by omega)
  have s0 := fun w' (k : Kept (fun i => i = t ∨ w.heap.size + 1 + 1 ≤ i) V w') => kcellS k bs (by omega)
  have x0 := fun w' (k : Kept (fun i => i = t ∨ w.heap.size + 1 + 1 ≤ i) V w') => kcellS k bx.c0 (by omega)
  have x1 := fun w' (k : Kept (fun i => i = t ∨ w.heap.size + 1 + 1 ≤ i) V w') => kcellS k bx.c1 (by omega)
  have x2 := fun w' (k : Kept (fun i => i = t ∨ w.heap.size + 1 + 1 ≤ i) V w') => kcellS k bx.c2 (by omega)
  have x3 := fun w' (k : Kept (fun i => i = t ∨ w.heap.size + 1 + 1 ≤ i) V w') => kcellS k bx.c3 (by omega)
  clear kV bx T3 bs
  have hzV : V.heap.size = w.heap.size + 1 + 1 + 1 := hzV0
  have hge : w.heap.size + 1 + 1 ≤ V.heap.size := by omega
  have hge3 : w.heap.size + 1 + 1 < V.heap.size := by omega
  clear hzV hzV0
  go_region_held3 (fun w' => Kept (fun i => i = t ∨ w.heap.size + 1 + 1 ≤ i) V w') (repeat (first | assumption | exact Kept.refl _ _ | refine Kept.drew ?_ | refine Kept.alloc ?_ _ | refine Kept.setCell ?_ _ (by first | exact Or.inl (Nat.le_refl _) | exact Or.inl (by assumption)) _))
    (first
      | (go_at_call 110; refine (HP.out _ (H.out.kept0 (by first | exact KV.out.drew | exact (KV.out.alloc _).drew)).grid).mono ?_; rintro e w5 ⟨rfl, hg5, hk5⟩
         have kd : Hid (Kept (· = t) V w5) := by first | exact (Kept.refl _ V).drew.trans hk5 | exact ((Kept.refl _ V).alloc _).drew.trans hk5
         have kc : Kept (fun i => i = t ∨ w.heap.size + 1 + 1 ≤ i) V w5 := kd.out.mono (fun _ _ e => Or.inl e)
         have HG := Lib.hid hg5
         clear hg5
         have T5 := Lib.hid (HT3.out.kept kd.out (by omega))
         have kz5 : V.heap.size ≤ w5.heap.size := kd.out.size
         try (have u0 : Three w5 V.heap.size 0 0 false := (three_newED V 85).kept hk5 (by omega); have v0 := u0.lt; have U0 := Lib.hid u0; obtain ⟨m0, m1, m2, m3, m4, m5⟩ := u0)))
  all_goals
    first
      | (have T9 : Three (((w5.setCell ⟨V.heap.size, 0, none⟩ (.int .i64 p)).setCell ⟨V.heap.size, 1, none⟩ (.int .i64 q)).setCell ⟨V.heap.size, 2, none⟩ (.bool false)) V.heap.size p q false := three_set U0.out p q false
         have kE : Kept (fun i => w.heap.size + 1 + 1 + 1 ≤ i) w5 (((w5.setCell ⟨V.heap.size, 0, none⟩ (.int .i64 p)).setCell ⟨V.heap.size, 1, none⟩ (.int .i64 q)).setCell ⟨V.heap.size, 2, none⟩ (.bool false)) := (ScrIn.keptPlace w5 V.heap.size p q false).mono (fun i _ e => by omega)
         have f9 : w.heap.size + 1 + 1 < V.heap.size := by omega
         generalize (((w5.setCell ⟨V.heap.size, 0, none⟩ (.int .i64 p)).setCell ⟨V.heap.size, 1, none⟩ (.int .i64 q)).setCell ⟨V.heap.size, 2, none⟩ (.bool false)) = V5 at T9 kE ⊢
         obtain ⟨b9, e9⟩ : ∃ b9, b9 = V.heap.size := ⟨_, rfl⟩
         rw [← e9] at T9 f9
         rw [← e9]
         clear e9)
      | (have T9 : Three (w5.alloc (.cells #[.int .i64 p, .int .i64 q, .bool false] 85)) w5.heap.size p q false := Three.of (heap_new _ _)
         have kE : Kept (fun i => w.heap.size + 1 + 1 + 1 ≤ i) w5 (w5.alloc (.cells #[.int .i64 p, .int .i64 q, .bool false] 85)) := (Kept.refl _ _).alloc _
         have f9 : w.heap.size + 1 + 1 < w5.heap.size := by omega
         generalize (w5.alloc (.cells #[.int .i64 p, .int .i64 q, .bool false] 85)) = V5 at T9 kE ⊢
         obtain ⟨b9, e9⟩ : ∃ b9, b9 = w5.heap.size := ⟨_, rfl⟩
         rw [← e9] at T9 f9
         rw [← e9]
         clear e9)
    have H5 := (H.out.kept0 KV.out).onGrid kd.out HG.out
    have hlt := H.out.all_lt
    have HH5 := Lib.hid (H5.kept kE (fun i hi e => by have := hlt i hi; omega))
    have BS5 := Lib.hid (kcellS kE (kcellS kd.out HBS.out (by omega)) (by omega))
    have T8 := Lib.hid (T5.out.kept kE (by omega))
    have kk : Hid (Kept (fun i => i = s ∨ i = t) w V5) := (((Kept0.to KV.out : Kept (· = t) w V).trans kd.out).mono (fun _ _ e => Or.inr e)).later kE (fun i hi e => by omega)
    obtain ⟨z0, z1, z2, z3, z4, z5⟩ := T8.out
    obtain ⟨y0, y1, y2, y3, y4, y5⟩ := T9
    clear H5 hlt kE
    go_wp2_with fail
    refine leaves_cons (f := 108) (args := #[ptr (w.heap.size + 1 + 1), ptr w.heap.size]) (by simp) (by simp [go_sem]) ?_
    refine (put_closure _ _ r c b .returning _ HH5.out T8.out BS5.out hth).mono ?_
    rintro e u' w7 ⟨rfl, rfl, h7, k7⟩
    refine ⟨.tuple #[], results_none rfl _ _ _, ?_⟩
    exact ⟨rfl, h7, kk.out.trans (k7.mono (fun _ _ e => Or.inl e))⟩

end Go.Proofs.YtlhajbcabpfbkaaGreatDoor
