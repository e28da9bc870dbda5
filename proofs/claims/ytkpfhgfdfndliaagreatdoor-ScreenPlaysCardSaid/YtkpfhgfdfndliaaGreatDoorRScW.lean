/-
  The document's screen: Wipe, Part.
-/
import Derived.Test.YtkpfhgfdfndliaaGreatDoorRScA
import Derived.Test.YtkpfhgfdfndliaaGreatDoorWpRefDo
import Derived.Test.YtkpfhgfdfndliaaGreatDoorWpPartC
import Derived.Deep.DeepCutAuto
namespace Go.Proofs.YtkpfhgfdfndliaaGreatDoor
open Go.RowKit

/-- What a Wipe has behind its places. -/
structure Wp1 (W wx : World) (b : Nat) (p q : Int) : Prop where
  two : Two wx b p q
  kept : Kept0 W wx

set_option maxRecDepth 100000 in
set_option maxHeartbeats 4000000 in
theorem rwipe_any {s g t cap tb m R C : Nat} {F : Nat → Cel} {S : Nat → Bool} {r c : Int} {b : Bool} (p q p' q' : Int) (x : Cel) (v : Bool) (w : World) (h : RIn w s g t cap tb m R C F S r c b) :
    Calls Tryz.prog 82 #[ptr s, pos p q, pos p' q', x.v, .bool v] w fun e w' => e = .returned (.tuple #[]) ∧ RIn w' s g t cap tb m R C (swipeF R C F p q p' q' x v) S r c b ∧ Kept (· = t) w w' := by
  have HN := Lib.hid (refNear_nr h.grid.R1 h.grid.R2 h.grid.C1 h.grid.C2)
  have HW : Hid (∀ w', Kept0 w w' → Calls Tryz.prog 117 #[ptr g, .agg #[.int .i64 (nr p R), .int .i64 (nr q C), .int .i64 (nr p' R), .int .i64 (nr q' C)], x.v, .int .i64 0, .bool v] w' fun e w'' => (∃ V, e = .returned V) ∧ RefAt w'' g t cap R C (swipeF R C F p q p' q' x v) ∧ Kept (· = t) w' w'') := fun w' k => by
    refine (Wp.doR g t cap R C F (nr p R) (nr q C) (nr p' R) (nr q' C) x 0 v w' (h.grid.kept k (fun e => e) (fun e => e))).mono ?_
    rintro e w2 ⟨h1, h2, h3⟩
    exact ⟨⟨_, h1⟩, h2, h3⟩
  have hl := h.lt
  have c0 := h.c0
  have htl := h.grid.row.lt
  have H := Lib.hid h
  clear h
  obtain ⟨p5, hp5⟩ : ∃ p5, p5 = nr p R := ⟨_, rfl⟩
  obtain ⟨q5, hq5⟩ : ∃ q5, q5 = nr q C := ⟨_, rfl⟩
  obtain ⟨p6, hp6⟩ : ∃ p6, p6 = nr p' R := ⟨_, rfl⟩
  obtain ⟨q6, hq6⟩ : ∃ q6, q6 = nr q' C := ⟨_, rfl⟩
  rw [← hp5, ← hq5, ← hp6, ← hq6] at HW
  have HN1 : Hid (∀ w', Calls Tryz.prog 86 #[pos R C, pos p q] w' fun e w'' => e = .returned (pos p5 q5) ∧ Kept0 w' w'') := fun w' => by rw [hp5, hq5]; exact HN.out p q w'
  have HN2 : Hid (∀ w', Calls Tryz.prog 86 #[pos R C, pos p' q'] w' fun e w'' => e = .returned (pos p6 q6) ∧ Kept0 w' w'') := fun w' => by rw [hp6, hq6]; exact HN.out p' q' w'
  clear hp5 hq5 hp6 hq6 HN
  obtain ⟨G, hG⟩ : ∃ G, G = swipeF R C F p q p' q' x v := ⟨_, rfl⟩
  rw [← hG] at HW ⊢
  clear hG
  go_enter Tryz.func82, Tryz.ntmps82
  go_wp2_with fail
  obtain ⟨W, hW⟩ : ∃ W, W = ((((w.alloc (.cells #[.int .i64 p, .int .i64 q] 40)).alloc (.cells #[.int .i64 p', .int .i64 q'] 40)).alloc (.cells #[.int .i32 x.g, .int .i64 x.a, .bool x.b, .int .i64 x.m] 36))) := ⟨_, rfl⟩
  have k0 : Kept0 w W := by rw [hW]; exact (((Kept.refl _ w).alloc _).alloc _).alloc _
  have B0 : Hid (Two W w.heap.size p q) := by rw [hW]; exact ((Two.of (heap_new w _)).kept0 ((Kept.refl _ _).alloc _)).kept0 ((Kept.refl _ _).alloc _)
  have B1 : Hid (Two W (w.heap.size + 1) p' q') := by rw [hW]; exact (Two.of (heap_new2 w _ _)).kept0 ((Kept.refl _ _).alloc _)
  have B2 : Hid (CelAt W (w.heap.size + 1 + 1) x) := by rw [hW]; have := CelAt.new ((w.alloc (.cells #[.int .i64 p, .int .i64 q] 40)).alloc (.cells #[.int .i64 p', .int .i64 q'] 40)) x 36; rwa [World.size_alloc, World.size_alloc] at this
  rw [← hW]
  clear hW
  have HR := Lib.hid (H.out.kept0 k0)
  have KK := Lib.hid k0
  clear k0
  go_cut [10] from 12 to 15 (fun s10 wx => ∃ b10, s10 = ptr b10 ∧ Hid (Wp1 W wx b10 p5 q5))
  case first =>
    have b0 := fun w' (k : Kept0 W w') => kcell k B0.out.c0
    have b1 := fun w' (k : Kept0 W w') => kcell k B0.out.c1
    go_region_held3 (fun w' => Kept0 W w') (repeat (first | assumption | exact Kept.refl _ _ | refine Kept.drew ?_ | refine Kept.alloc ?_ _ | refine Kept.setCell ?_ _ (Or.inl (by first | exact Nat.le_refl _ | assumption)) _))
      (first
        | (go_at_call 86; refine (HN1.out _).mono ?_; rintro e w4 ⟨rfl, hk4⟩; have kb : Kept0 W w4 := by first | exact ka.trans hk4 | exact (ka.alloc _).trans hk4
           have kz4 : W.heap.size ≤ w4.heap.size := kb.size
           first
            | (obtain ⟨a0, a1, a2, a3⟩ := hn8.kept0 hk4)
            | (have hn9 := (Two.of (heap_new w3 (.cells #[.int .i64 0, .int .i64 0] 40))).kept0 hk4; obtain ⟨a0, a1, a2, a3⟩ := hn9)
            | skip)
        | (go_at_call 32; refine (rsize_any _ (HR.out.kept0 (by first | exact (Kept.refl _ _).drew | exact ((Kept.refl _ _).alloc _).drew))).mono ?_; rintro e w3 ⟨rfl, hk3⟩; have ka : Kept0 W w3 := by first | exact (Kept.refl _ W).drew.trans hk3 | exact ((Kept.refl _ W).alloc _).drew.trans hk3
           have kz : W.heap.size ≤ w3.heap.size := ka.size
           try (have hn8 := (two_newE W 40).kept0 hk3)))
    all_goals
      go_wp2_with fail
      go_meet
      first
        | (have hT : Two ((w4.setCell ⟨W.heap.size, 0, none⟩ (.int .i64 p5)).setCell ⟨W.heap.size, 1, none⟩ (.int .i64 q5)) W.heap.size p5 q5 := ⟨by simp [go_sem, a0], by simp [go_sem, a1], by simp [go_sem, a2], by simp [go_sem, a3]⟩
           exact ⟨_, rfl, hT, (kb.setCell _ (Or.inl (Nat.le_refl _)) _).setCell _ (Or.inl (Nat.le_refl _)) _⟩)
        | (have hT : Two ((w4.setCell ⟨w3.heap.size, 0, none⟩ (.int .i64 p5)).setCell ⟨w3.heap.size, 1, none⟩ (.int .i64 q5)) w3.heap.size p5 q5 := ⟨by simp [go_sem, a0], by simp [go_sem, a1], by simp [go_sem, a2], by simp [go_sem, a3]⟩
           exact ⟨_, rfl, hT, (kb.setCell _ (Or.inl kz) _).setCell _ (Or.inl kz) _⟩)
        | exact ⟨_, rfl, Two.of (heap_new _ _), kb.alloc _⟩
  case rest =>
    clear HR
    obtain ⟨b10, rfl, H10⟩ := hcut
    have HR2 : Hid (RIn wc s g t cap tb m R C F S r c b) := (H.out.kept0 KK.out).kept0 H10.out.kept
    have D1 : Hid (Two wc (w.heap.size + 1) p' q') := B1.out.kept0 H10.out.kept
    have htV : t < wc.heap.size := HR2.out.grid.row.lt
    go_upto_region 2 with fail
    go_cut [11] from 16 to 19 (fun s11 wx => ∃ b11, s11 = ptr b11 ∧ Hid (Wp1 wc wx b11 p6 q6))
    case first =>
      have b0 := fun w' (k : Kept0 wc w') => kcell k D1.out.c0
      have b1 := fun w' (k : Kept0 wc w') => kcell k D1.out.c1
      go_region_held3 (fun w' => Kept0 wc w') (repeat (first | assumption | exact Kept.refl _ _ | refine Kept.drew ?_ | refine Kept.alloc ?_ _ | refine Kept.setCell ?_ _ (Or.inl (by first | exact Nat.le_refl _ | assumption)) _))
        (first
          | (go_at_call 86; refine (HN2.out _).mono ?_; rintro e w4 ⟨rfl, hk4⟩; have kb : Kept0 wc w4 := by first | exact ka.trans hk4 | exact (ka.alloc _).trans hk4
             have kz4 : wc.heap.size ≤ w4.heap.size := kb.size
             first
              | (obtain ⟨a0, a1, a2, a3⟩ := hn8.kept0 hk4)
              | (have hn9 := (Two.of (heap_new w3 (.cells #[.int .i64 0, .int .i64 0] 40))).kept0 hk4; obtain ⟨a0, a1, a2, a3⟩ := hn9)
              | skip)
          | (go_at_call 32; refine (rsize_any _ (HR2.out.kept0 (by first | exact (Kept.refl _ _).drew | exact ((Kept.refl _ _).alloc _).drew))).mono ?_; rintro e w3 ⟨rfl, hk3⟩; have ka : Kept0 wc w3 := by first | exact (Kept.refl _ wc).drew.trans hk3 | exact ((Kept.refl _ wc).alloc _).drew.trans hk3
             have kz : wc.heap.size ≤ w3.heap.size := ka.size
             try (have hn8 := (two_newE wc 40).kept0 hk3)))
      all_goals
        go_wp2_with fail
        go_meet
        first
          | (have hT : Two ((w4.setCell ⟨wc.heap.size, 0, none⟩ (.int .i64 p6)).setCell ⟨wc.heap.size, 1, none⟩ (.int .i64 q6)) wc.heap.size p6 q6 := ⟨by simp [go_sem, a0], by simp [go_sem, a1], by simp [go_sem, a2], by simp [go_sem, a3]⟩
             exact ⟨_, rfl, hT, (kb.setCell _ (Or.inl (Nat.le_refl _)) _).setCell _ (Or.inl (Nat.le_refl _)) _⟩)
          | (have hT : Two ((w4.setCell ⟨w3.heap.size, 0, none⟩ (.int .i64 p6)).setCell ⟨w3.heap.size, 1, none⟩ (.int .i64 q6)) w3.heap.size p6 q6 := ⟨by simp [go_sem, a0], by simp [go_sem, a1], by simp [go_sem, a2], by simp [go_sem, a3]⟩
             exact ⟨_, rfl, hT, (kb.setCell _ (Or.inl kz) _).setCell _ (Or.inl kz) _⟩)
          | exact ⟨_, rfl, Two.of (heap_new _ _), kb.alloc _⟩
    case rest =>
      obtain ⟨b11, rfl, H11⟩ := hcut
      have HR3 : Hid (RIn wc s g t cap tb m R C F S r c b) := HR2.out.kept0 H11.out.kept
      have KU : Hid (Kept0 w wc) := (KK.out.trans H10.out.kept).trans H11.out.kept
      have E1 := H10.out.two.kept0 H11.out.kept
      have E2 := H11.out.two
      have E3 := (B2.out.kept (H10.out.kept.trans H11.out.kept) (fun e => e))
      have c0 := HR3.out.c0
      obtain ⟨d0, d1, _, _⟩ := E1
      obtain ⟨e0, e1, _, _⟩ := E2
      obtain ⟨x0, x1, x2, x3⟩ := E3
      clear HR2 D1 H10 H11 B0 B1 B2
      go_upto_region 3 with fail
      go_region_with
        (first
          | (go_at_call 117; refine (HW.out _ (KU.out.drew)).mono ?_; rintro e w4 ⟨⟨V4, rfl⟩, hg4, hk4⟩; have HG := Lib.hid hg4; have HK4 := Lib.hid hk4; clear hg4 hk4))
      all_goals
        go_wp2_with fail
        go_end0
        exact ⟨rfl, (HR3.out.kept0 (Kept.refl _ _).drew).onGrid HK4.out HG.out, (Kept0.to KU.out.drew).trans HK4.out⟩

end Go.Proofs.YtkpfhgfdfndliaaGreatDoor
