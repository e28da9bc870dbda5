/-
  Calls of a screen: Part.
-/
import Derived.Test.YtkpfhgfdfndliaaGreatDoorMSc
import Derived.Test.YtkpfhgfdfndliaaGreatDoorMWq
namespace Go.Proofs.YtkpfhgfdfndliaaGreatDoor
open Go.RowKit

/-- A part that is wiped. -/
def spartF (R C : Nat) (F : Nat → Cel) (r c k : Int) (x : Cel) (v : Bool) : Nat → Cel :=
  if 1 ≤ k ∧ k ≤ 6 then Wp.wipeF R C F (Wp.one v (fun _ => x)) (Wp.fromR r k) (Wp.fromC c k) (Wp.toR R r k) (Wp.toC C c k) else F

theorem two_set {w : World} {b : Nat} {x y : Int} (h : Two w b x y) (p q : Int) : Two ((w.setCell ⟨b, 0, none⟩ (.int .i64 p)).setCell ⟨b, 1, none⟩ (.int .i64 q)) b p q :=
  ⟨by simp [go_sem, h.c0], by simp [go_sem, h.c1], by simp [go_sem, h.f0], by simp [go_sem, h.f1]⟩
theorem keptTwo (w : World) (b : Nat) (u v : Value) : Kept (· = b) w ((w.setCell ⟨b, 0, none⟩ u).setCell ⟨b, 1, none⟩ v) := ((Kept.refl (· = b) w).setCell _ (Or.inr rfl) _).setCell _ (Or.inr rfl) _
theorem two_newD' (w : World) (t : TypeId) : Two (w.alloc (.cells #[.int .i64 0, .int .i64 0] t)).drew w.heap.size 0 0 := (Two.of (heap_new w _)).kept0 (Kept.drew (Kept.refl _ _))
theorem two_newQ (w : World) (t : TypeId) : Two (w.alloc (.cells #[.int .i64 0, .int .i64 0] t)) w.heap.size 0 0 := Two.of (heap_new w _)
theorem two_new2 (w : World) (t : TypeId) : Two ((w.alloc (.cells #[.int .i64 0, .int .i64 0] t)).alloc (.cells #[.int .i64 0, .int .i64 0] t)) w.heap.size 0 0 ∧ Two ((w.alloc (.cells #[.int .i64 0, .int .i64 0] t)).alloc (.cells #[.int .i64 0, .int .i64 0] t)) (w.heap.size + 1) 0 0 := ⟨(two_newQ w t).kept0 ((Kept.refl _ _).alloc _), Two.of (heap_new2 _ _ _)⟩
theorem two_new2D (w : World) (t : TypeId) : Two ((w.alloc (.cells #[.int .i64 0, .int .i64 0] t)).alloc (.cells #[.int .i64 0, .int .i64 0] t)).drew w.heap.size 0 0 ∧ Two ((w.alloc (.cells #[.int .i64 0, .int .i64 0] t)).alloc (.cells #[.int .i64 0, .int .i64 0] t)).drew (w.heap.size + 1) 0 0 := ⟨(two_new2 w t).1.kept0 (Kept.refl _ _).drew, (two_new2 w t).2.kept0 (Kept.refl _ _).drew⟩

set_option maxRecDepth 100000 in
set_option maxHeartbeats 2000000 in
theorem spart_core {s g t cap tb m R C : Nat} {F F' : Nat → Cel} {S : Nat → Bool} {r c : Int} {b : Bool} (k : Int) (x : Cel) (v : Bool) (p q p' q' E : Int) (w : World) (h : ScrIn w s g t cap tb m R C F S r c b)
    (hP : ∀ w', Calls Tryz.prog 107 #[pos R C, pos r c, .int .i64 k] w' fun e w'' => e = .returned (.tuple #[pos p q, pos p' q', .int .i64 E]) ∧ Kept0 w' w'')
    (hW : E = 0 → ∀ w', Kept0 w w' → Calls Tryz.prog 106 #[ptr g, pos p q, pos p' q', x.v, .bool v] w' fun e w'' => (∃ V, e = .returned V) ∧ GridAt w'' g t cap R C F' ∧ Kept (· = t) w' w'') (hE : ¬ E = 0 → F' = F) :
    Calls Tryz.prog 72 #[ptr s, .int .i64 k, x.v, .bool v] w fun e w' => e = .returned (.tuple #[]) ∧ ScrIn w' s g t cap tb m R C F' S r c b ∧ Kept (· = t) w w' := by
  have HP := Lib.hid hP
  have HW := Lib.hid hW
  have HE := Lib.hid hE
  have hts : ¬ s = t := h.apart.1.2.1
  have htl := h.grid.row.lt
  have hl := h.lt
  have c0 := h.c0
  have c1 := h.c1
  have c3 := h.c3
  have H := Lib.hid h
  clear h hP hW hE
  go_enter Tryz.func72, Tryz.ntmps72
  go_wp2_with fail
  obtain ⟨X, hX⟩ : ∃ X, X = w.alloc (.cells #[.int .i32 x.g, .int .i64 x.a, .bool x.b, .int .i64 x.m] 36) := ⟨_, rfl⟩
  have kX : Kept0 w X := by rw [hX]; exact (Kept.refl _ _).alloc _
  have bx : CelAt X w.heap.size x := by rw [hX]; exact CelAt.new w x 36
  rw [← hX]
  clear hX
  have c0 := fun w' (k : Kept0 X w') => kcell (kX.trans k) c0
  have c1 := fun w' (k : Kept0 X w') => kcell (kX.trans k) c1
  have KX := Lib.hid kX
  clear kX
  go_region_held3 (fun w' => Kept0 X w') (repeat (first | assumption | exact Kept.refl _ _ | refine Kept.drew ?_ | refine Kept.alloc ?_ _ | refine Kept.setCell ?_ _ (Or.inl (by first | exact Nat.le_refl _ | assumption | exact Nat.le_succ_of_le (by first | exact Nat.le_refl _ | assumption))) _))
    (first
      | (go_at_call 107; refine (HP.out _).mono ?_; rintro e w4 ⟨rfl, hk4⟩
         have kb : Kept0 X w4 := by first | exact ka.trans hk4 | exact (ka.alloc _).trans hk4 | exact ((ka.alloc _).alloc _).trans hk4
         have kz4 : X.heap.size ≤ w4.heap.size := kb.size
         try (have u4 : Two w4 w3.heap.size 0 0 := (two_newQ w3 40).kept0 hk4; have v4 := u4.lt; have U4 := Lib.hid u4; obtain ⟨r0, r1, r2, r3⟩ := u4)
         try (have u5 : Two w4 (w3.heap.size + 1) 0 0 := (two_new2 w3 40).2.kept0 hk4; have v5 := u5.lt; have U5 := Lib.hid u5; obtain ⟨l0, l1, l2, l3⟩ := u5; have u4 : Two w4 w3.heap.size 0 0 := (two_new2 w3 40).1.kept0 hk4; have v4 := u4.lt; have U4 := Lib.hid u4; obtain ⟨r0, r1, r2, r3⟩ := u4)
         try (have u2 : Two w4 X.heap.size 0 0 := by first | exact u0.kept0 hk4 | exact (u0.kept0 ((Kept.refl _ _).alloc _)).kept0 hk4
              have v2 := u2.lt; have U2 := Lib.hid u2; obtain ⟨m0, m1, m2, m3⟩ := u2)
         try (have u3 : Two w4 (X.heap.size + 1) 0 0 := u1.kept0 hk4; have v3 := u3.lt; have U3 := Lib.hid u3; obtain ⟨n0, n1, n2, n3⟩ := u3))
      | (go_at_call 20; refine (ssize_any _ (H.out.kept0 (by first | exact KX.out.drew | exact (KX.out.alloc _).drew | exact ((KX.out.alloc _).alloc _).drew))).mono ?_; rintro e w3 ⟨rfl, hk3⟩
         have ka : Kept0 X w3 := by first | exact (Kept.refl _ X).drew.trans hk3 | exact ((Kept.refl _ X).alloc _).drew.trans hk3 | exact (((Kept.refl _ X).alloc _).alloc _).drew.trans hk3
         have kz3 : X.heap.size ≤ w3.heap.size := ka.size
         try (have u0 : Two w3 X.heap.size 0 0 := (two_newD' X 40).kept0 hk3; have ne1 : ¬ X.heap.size = w3.heap.size := Nat.ne_of_lt u0.lt; have ne2 : ¬ w3.heap.size = X.heap.size := fun e => ne1 e.symm)
         try (have u0 : Two w3 X.heap.size 0 0 := (two_new2D X 40).1.kept0 hk3; have u1 : Two w3 (X.heap.size + 1) 0 0 := (two_new2D X 40).2.kept0 hk3)))
  all_goals have hXs := KX.out.size
  · have T8 : Two ((w4.alloc (.cells #[.int .i64 p, .int .i64 q] 40)).alloc (.cells #[.int .i64 p', .int .i64 q'] 40)) (w4.heap.size) p q := (Two.of (heap_new w4 _)).kept0 ((Kept.refl _ _).alloc _)
    have T9 : Two ((w4.alloc (.cells #[.int .i64 p, .int .i64 q] 40)).alloc (.cells #[.int .i64 p', .int .i64 q'] 40)) (w4.heap.size + 1) p' q' := Two.of (heap_new2 _ _ _)
    have kV : Kept0 X ((w4.alloc (.cells #[.int .i64 p, .int .i64 q] 40)).alloc (.cells #[.int .i64 p', .int .i64 q'] 40)) := (kb.alloc _).alloc _
    have f8 : ¬ w4.heap.size = t := by omega
    have f9 : ¬ w4.heap.size + 1 = t := by omega
    generalize ((w4.alloc (.cells #[.int .i64 p, .int .i64 q] 40)).alloc (.cells #[.int .i64 p', .int .i64 q'] 40)) = V at T8 T9 kV ⊢
    obtain ⟨d0, d1, _, _⟩ := T8
    obtain ⟨e0, e1, _, _⟩ := T9
    have k8 := World.block_lt_of_cell? V _ d0
    have k9 := World.block_lt_of_cell? V _ e0
    obtain ⟨b8, hb8⟩ : ∃ b8, b8 = w4.heap.size := ⟨_, rfl⟩
    obtain ⟨b9, hb9⟩ : ∃ b9, b9 = w4.heap.size + 1 := ⟨_, rfl⟩
    rw [← hb8] at d0 d1 f8
    rw [← hb9] at e0 e1 f9
    rw [← hb9, ← hb8]
    clear hb8 hb9
    have KV := Lib.hid (KX.out.trans kV)
    have bV := bx.kept kV (fun e => e)
    clear kV
    by_cases h0 : E = 0
    · have HW0 := Lib.hid (HW.out h0)
      subst h0
      go_wp2_with fail
      have c3 := fun w' (k : Kept (· = t) V w') => kcellS k (kcell KV.out c3) hts
      have d0 := fun w' (k : Kept (· = t) V w') => kcellS k d0 f8
      have d1 := fun w' (k : Kept (· = t) V w') => kcellS k d1 f8
      have e0 := fun w' (k : Kept (· = t) V w') => kcellS k e0 f9
      have e1 := fun w' (k : Kept (· = t) V w') => kcellS k e1 f9
      have x0 := fun w' (k : Kept (· = t) V w') => kcellS k bV.c0 (by omega)
      have x1 := fun w' (k : Kept (· = t) V w') => kcellS k bV.c1 (by omega)
      have x2 := fun w' (k : Kept (· = t) V w') => kcellS k bV.c2 (by omega)
      have x3 := fun w' (k : Kept (· = t) V w') => kcellS k bV.c3 (by omega)
      go_region_held3 (fun w' => Kept (· = t) V w') (repeat (first | assumption | exact Kept.refl _ _ | refine Kept.drew ?_))
        (first | (go_at_call 106; refine (HW0.out _ KV.out.drew).mono ?_; rintro e w5 ⟨⟨V5, rfl⟩, hg5, hk5⟩; have kc : Kept (· = t) V w5 := (Kept.refl _ V).drew.trans hk5; have HG := Lib.hid hg5; clear hg5))
      all_goals
        go_end0
        exact ⟨rfl, (H.out.kept0 KV.out).onGrid kc HG.out, (Kept0.to KV.out).trans kc⟩
    · have HF := Lib.hid (HE.out h0)
      have hne : (E == 0) = false := by simpa using h0
      go_wp2_with fail
      go_end0
      exact ⟨rfl, by rw [HF.out]; exact H.out.kept0 KV.out, Kept0.to KV.out⟩
  · have T8 : Two ((w4.alloc (.cells #[.int .i64 p', .int .i64 q'] 40)).alloc (.cells #[.int .i64 p, .int .i64 q] 40)) (w4.heap.size + 1) p q := Two.of (heap_new2 _ _ _)
    have T9 : Two ((w4.alloc (.cells #[.int .i64 p', .int .i64 q'] 40)).alloc (.cells #[.int .i64 p, .int .i64 q] 40)) (w4.heap.size) p' q' := (Two.of (heap_new w4 _)).kept0 ((Kept.refl _ _).alloc _)
    have kV : Kept0 X ((w4.alloc (.cells #[.int .i64 p', .int .i64 q'] 40)).alloc (.cells #[.int .i64 p, .int .i64 q] 40)) := (kb.alloc _).alloc _
    have f8 : ¬ w4.heap.size + 1 = t := by omega
    have f9 : ¬ w4.heap.size = t := by omega
    generalize ((w4.alloc (.cells #[.int .i64 p', .int .i64 q'] 40)).alloc (.cells #[.int .i64 p, .int .i64 q] 40)) = V at T8 T9 kV ⊢
    obtain ⟨d0, d1, _, _⟩ := T8
    obtain ⟨e0, e1, _, _⟩ := T9
    have k8 := World.block_lt_of_cell? V _ d0
    have k9 := World.block_lt_of_cell? V _ e0
    obtain ⟨b8, hb8⟩ : ∃ b8, b8 = w4.heap.size + 1 := ⟨_, rfl⟩
    obtain ⟨b9, hb9⟩ : ∃ b9, b9 = w4.heap.size := ⟨_, rfl⟩
    rw [← hb8] at d0 d1 f8
    rw [← hb9] at e0 e1 f9
    rw [← hb8, ← hb9]
    clear hb8 hb9
    have KV := Lib.hid (KX.out.trans kV)
    have bV := bx.kept kV (fun e => e)
    clear kV
    by_cases h0 : E = 0
    · have HW0 := Lib.hid (HW.out h0)
      subst h0
      go_wp2_with fail
      have c3 := fun w' (k : Kept (· = t) V w') => kcellS k (kcell KV.out c3) hts
      have d0 := fun w' (k : Kept (· = t) V w') => kcellS k d0 f8
      have d1 := fun w' (k : Kept (· = t) V w') => kcellS k d1 f8
      have e0 := fun w' (k : Kept (· = t) V w') => kcellS k e0 f9
      have e1 := fun w' (k : Kept (· = t) V w') => kcellS k e1 f9
      have x0 := fun w' (k : Kept (· = t) V w') => kcellS k bV.c0 (by omega)
      have x1 := fun w' (k : Kept (· = t) V w') => kcellS k bV.c1 (by omega)
      have x2 := fun w' (k : Kept (· = t) V w') => kcellS k bV.c2 (by omega)
      have x3 := fun w' (k : Kept (· = t) V w') => kcellS k bV.c3 (by omega)
      go_region_held3 (fun w' => Kept (· = t) V w') (repeat (first | assumption | exact Kept.refl _ _ | refine Kept.drew ?_))
        (first | (go_at_call 106; refine (HW0.out _ KV.out.drew).mono ?_; rintro e w5 ⟨⟨V5, rfl⟩, hg5, hk5⟩; have kc : Kept (· = t) V w5 := (Kept.refl _ V).drew.trans hk5; have HG := Lib.hid hg5; clear hg5))
      all_goals
        go_end0
        exact ⟨rfl, (H.out.kept0 KV.out).onGrid kc HG.out, (Kept0.to KV.out).trans kc⟩
    · have HF := Lib.hid (HE.out h0)
      have hne : (E == 0) = false := by simpa using h0
      go_wp2_with fail
      go_end0
      exact ⟨rfl, by rw [HF.out]; exact H.out.kept0 KV.out, Kept0.to KV.out⟩
  · have T8 : Two (((w4.setCell ⟨w3.heap.size, 0, none⟩ (.int .i64 p)).setCell ⟨w3.heap.size, 1, none⟩ (.int .i64 q)).alloc (.cells #[.int .i64 p', .int .i64 q'] 40)) (w3.heap.size) p q := (two_set U4.out p q).kept0 ((Kept.refl _ _).alloc _)
    have T9 : Two (((w4.setCell ⟨w3.heap.size, 0, none⟩ (.int .i64 p)).setCell ⟨w3.heap.size, 1, none⟩ (.int .i64 q)).alloc (.cells #[.int .i64 p', .int .i64 q'] 40)) (w4.heap.size) p' q' := by rw [show w4.heap.size = ((w4.setCell ⟨w3.heap.size, 0, none⟩ (.int .i64 p)).setCell ⟨w3.heap.size, 1, none⟩ (.int .i64 q)).heap.size by simp]; exact Two.of (heap_new _ _)
    have kV : Kept0 X (((w4.setCell ⟨w3.heap.size, 0, none⟩ (.int .i64 p)).setCell ⟨w3.heap.size, 1, none⟩ (.int .i64 q)).alloc (.cells #[.int .i64 p', .int .i64 q'] 40)) := ((kb.setCell _ (Or.inl kz3) _).setCell _ (Or.inl kz3) _).alloc _
    have f8 : ¬ w3.heap.size = t := by omega
    have f9 : ¬ w4.heap.size = t := by omega
    generalize (((w4.setCell ⟨w3.heap.size, 0, none⟩ (.int .i64 p)).setCell ⟨w3.heap.size, 1, none⟩ (.int .i64 q)).alloc (.cells #[.int .i64 p', .int .i64 q'] 40)) = V at T8 T9 kV ⊢
    obtain ⟨d0, d1, _, _⟩ := T8
    obtain ⟨e0, e1, _, _⟩ := T9
    have k8 := World.block_lt_of_cell? V _ d0
    have k9 := World.block_lt_of_cell? V _ e0
    obtain ⟨b8, hb8⟩ : ∃ b8, b8 = w3.heap.size := ⟨_, rfl⟩
    obtain ⟨b9, hb9⟩ : ∃ b9, b9 = w4.heap.size := ⟨_, rfl⟩
    rw [← hb8] at d0 d1 f8
    rw [← hb9] at e0 e1 f9
    rw [← hb8, ← hb9]
    clear hb8 hb9
    have KV := Lib.hid (KX.out.trans kV)
    have bV := bx.kept kV (fun e => e)
    clear kV
    by_cases h0 : E = 0
    · have HW0 := Lib.hid (HW.out h0)
      subst h0
      go_wp2_with fail
      have c3 := fun w' (k : Kept (· = t) V w') => kcellS k (kcell KV.out c3) hts
      have d0 := fun w' (k : Kept (· = t) V w') => kcellS k d0 f8
      have d1 := fun w' (k : Kept (· = t) V w') => kcellS k d1 f8
      have e0 := fun w' (k : Kept (· = t) V w') => kcellS k e0 f9
      have e1 := fun w' (k : Kept (· = t) V w') => kcellS k e1 f9
      have x0 := fun w' (k : Kept (· = t) V w') => kcellS k bV.c0 (by omega)
      have x1 := fun w' (k : Kept (· = t) V w') => kcellS k bV.c1 (by omega)
      have x2 := fun w' (k : Kept (· = t) V w') => kcellS k bV.c2 (by omega)
      have x3 := fun w' (k : Kept (· = t) V w') => kcellS k bV.c3 (by omega)
      go_region_held3 (fun w' => Kept (· = t) V w') (repeat (first | assumption | exact Kept.refl _ _ | refine Kept.drew ?_))
        (first | (go_at_call 106; refine (HW0.out _ KV.out.drew).mono ?_; rintro e w5 ⟨⟨V5, rfl⟩, hg5, hk5⟩; have kc : Kept (· = t) V w5 := (Kept.refl _ V).drew.trans hk5; have HG := Lib.hid hg5; clear hg5))
      all_goals
        go_end0
        exact ⟨rfl, (H.out.kept0 KV.out).onGrid kc HG.out, (Kept0.to KV.out).trans kc⟩
    · have HF := Lib.hid (HE.out h0)
      have hne : (E == 0) = false := by simpa using h0
      go_wp2_with fail
      go_end0
      exact ⟨rfl, by rw [HF.out]; exact H.out.kept0 KV.out, Kept0.to KV.out⟩
  · have T8 : Two ((((w4.setCell ⟨w3.heap.size, 0, none⟩ (.int .i64 p)).setCell ⟨w3.heap.size, 1, none⟩ (.int .i64 q)).setCell ⟨w3.heap.size + 1, 0, none⟩ (.int .i64 p')).setCell ⟨w3.heap.size + 1, 1, none⟩ (.int .i64 q')) (w3.heap.size) p q := (two_set U4.out p q).kept (keptTwo _ _ _ _) (by first | omega | assumption)
    have T9 : Two ((((w4.setCell ⟨w3.heap.size, 0, none⟩ (.int .i64 p)).setCell ⟨w3.heap.size, 1, none⟩ (.int .i64 q)).setCell ⟨w3.heap.size + 1, 0, none⟩ (.int .i64 p')).setCell ⟨w3.heap.size + 1, 1, none⟩ (.int .i64 q')) (w3.heap.size + 1) p' q' := two_set (U5.out.kept (keptTwo _ _ _ _) (by first | omega | assumption)) p' q'
    have kV : Kept0 X ((((w4.setCell ⟨w3.heap.size, 0, none⟩ (.int .i64 p)).setCell ⟨w3.heap.size, 1, none⟩ (.int .i64 q)).setCell ⟨w3.heap.size + 1, 0, none⟩ (.int .i64 p')).setCell ⟨w3.heap.size + 1, 1, none⟩ (.int .i64 q')) := ((((kb.setCell _ (Or.inl kz3) _).setCell _ (Or.inl kz3) _).setCell _ (Or.inl (Nat.le_succ_of_le kz3)) _).setCell _ (Or.inl (Nat.le_succ_of_le kz3)) _)
    have f8 : ¬ w3.heap.size = t := by omega
    have f9 : ¬ w3.heap.size + 1 = t := by omega
    generalize ((((w4.setCell ⟨w3.heap.size, 0, none⟩ (.int .i64 p)).setCell ⟨w3.heap.size, 1, none⟩ (.int .i64 q)).setCell ⟨w3.heap.size + 1, 0, none⟩ (.int .i64 p')).setCell ⟨w3.heap.size + 1, 1, none⟩ (.int .i64 q')) = V at T8 T9 kV ⊢
    obtain ⟨d0, d1, _, _⟩ := T8
    obtain ⟨e0, e1, _, _⟩ := T9
    have k8 := World.block_lt_of_cell? V _ d0
    have k9 := World.block_lt_of_cell? V _ e0
    obtain ⟨b8, hb8⟩ : ∃ b8, b8 = w3.heap.size := ⟨_, rfl⟩
    obtain ⟨b9, hb9⟩ : ∃ b9, b9 = w3.heap.size + 1 := ⟨_, rfl⟩
    rw [← hb8] at d0 d1 f8
    rw [← hb9] at e0 e1 f9
    rw [← hb9, ← hb8]
    clear hb8 hb9
    have KV := Lib.hid (KX.out.trans kV)
    have bV := bx.kept kV (fun e => e)
    clear kV
    by_cases h0 : E = 0
    · have HW0 := Lib.hid (HW.out h0)
      subst h0
      go_wp2_with fail
      have c3 := fun w' (k : Kept (· = t) V w') => kcellS k (kcell KV.out c3) hts
      have d0 := fun w' (k : Kept (· = t) V w') => kcellS k d0 f8
      have d1 := fun w' (k : Kept (· = t) V w') => kcellS k d1 f8
      have e0 := fun w' (k : Kept (· = t) V w') => kcellS k e0 f9
      have e1 := fun w' (k : Kept (· = t) V w') => kcellS k e1 f9
      have x0 := fun w' (k : Kept (· = t) V w') => kcellS k bV.c0 (by omega)
      have x1 := fun w' (k : Kept (· = t) V w') => kcellS k bV.c1 (by omega)
      have x2 := fun w' (k : Kept (· = t) V w') => kcellS k bV.c2 (by omega)
      have x3 := fun w' (k : Kept (· = t) V w') => kcellS k bV.c3 (by omega)
      go_region_held3 (fun w' => Kept (· = t) V w') (repeat (first | assumption | exact Kept.refl _ _ | refine Kept.drew ?_))
        (first | (go_at_call 106; refine (HW0.out _ KV.out.drew).mono ?_; rintro e w5 ⟨⟨V5, rfl⟩, hg5, hk5⟩; have kc : Kept (· = t) V w5 := (Kept.refl _ V).drew.trans hk5; have HG := Lib.hid hg5; clear hg5))
      all_goals
        go_end0
        exact ⟨rfl, (H.out.kept0 KV.out).onGrid kc HG.out, (Kept0.to KV.out).trans kc⟩
    · have HF := Lib.hid (HE.out h0)
      have hne : (E == 0) = false := by simpa using h0
      go_wp2_with fail
      go_end0
      exact ⟨rfl, by rw [HF.out]; exact H.out.kept0 KV.out, Kept0.to KV.out⟩
  · have T8 : Two (((w4.setCell ⟨w3.heap.size, 0, none⟩ (.int .i64 p')).setCell ⟨w3.heap.size, 1, none⟩ (.int .i64 q')).alloc (.cells #[.int .i64 p, .int .i64 q] 40)) (w4.heap.size) p q := by rw [show w4.heap.size = ((w4.setCell ⟨w3.heap.size, 0, none⟩ (.int .i64 p')).setCell ⟨w3.heap.size, 1, none⟩ (.int .i64 q')).heap.size by simp]; exact Two.of (heap_new _ _)
    have T9 : Two (((w4.setCell ⟨w3.heap.size, 0, none⟩ (.int .i64 p')).setCell ⟨w3.heap.size, 1, none⟩ (.int .i64 q')).alloc (.cells #[.int .i64 p, .int .i64 q] 40)) (w3.heap.size) p' q' := (two_set U4.out p' q').kept0 ((Kept.refl _ _).alloc _)
    have kV : Kept0 X (((w4.setCell ⟨w3.heap.size, 0, none⟩ (.int .i64 p')).setCell ⟨w3.heap.size, 1, none⟩ (.int .i64 q')).alloc (.cells #[.int .i64 p, .int .i64 q] 40)) := ((kb.setCell _ (Or.inl kz3) _).setCell _ (Or.inl kz3) _).alloc _
    have f8 : ¬ w4.heap.size = t := by omega
    have f9 : ¬ w3.heap.size = t := by omega
    generalize (((w4.setCell ⟨w3.heap.size, 0, none⟩ (.int .i64 p')).setCell ⟨w3.heap.size, 1, none⟩ (.int .i64 q')).alloc (.cells #[.int .i64 p, .int .i64 q] 40)) = V at T8 T9 kV ⊢
    obtain ⟨d0, d1, _, _⟩ := T8
    obtain ⟨e0, e1, _, _⟩ := T9
    have k8 := World.block_lt_of_cell? V _ d0
    have k9 := World.block_lt_of_cell? V _ e0
    obtain ⟨b8, hb8⟩ : ∃ b8, b8 = w4.heap.size := ⟨_, rfl⟩
    obtain ⟨b9, hb9⟩ : ∃ b9, b9 = w3.heap.size := ⟨_, rfl⟩
    rw [← hb8] at d0 d1 f8
    rw [← hb9] at e0 e1 f9
    rw [← hb8, ← hb9]
    clear hb8 hb9
    have KV := Lib.hid (KX.out.trans kV)
    have bV := bx.kept kV (fun e => e)
    clear kV
    by_cases h0 : E = 0
    · have HW0 := Lib.hid (HW.out h0)
      subst h0
      go_wp2_with fail
      have c3 := fun w' (k : Kept (· = t) V w') => kcellS k (kcell KV.out c3) hts
      have d0 := fun w' (k : Kept (· = t) V w') => kcellS k d0 f8
      have d1 := fun w' (k : Kept (· = t) V w') => kcellS k d1 f8
      have e0 := fun w' (k : Kept (· = t) V w') => kcellS k e0 f9
      have e1 := fun w' (k : Kept (· = t) V w') => kcellS k e1 f9
      have x0 := fun w' (k : Kept (· = t) V w') => kcellS k bV.c0 (by omega)
      have x1 := fun w' (k : Kept (· = t) V w') => kcellS k bV.c1 (by omega)
      have x2 := fun w' (k : Kept (· = t) V w') => kcellS k bV.c2 (by omega)
      have x3 := fun w' (k : Kept (· = t) V w') => kcellS k bV.c3 (by omega)
      go_region_held3 (fun w' => Kept (· = t) V w') (repeat (first | assumption | exact Kept.refl _ _ | refine Kept.drew ?_))
        (first | (go_at_call 106; refine (HW0.out _ KV.out.drew).mono ?_; rintro e w5 ⟨⟨V5, rfl⟩, hg5, hk5⟩; have kc : Kept (· = t) V w5 := (Kept.refl _ V).drew.trans hk5; have HG := Lib.hid hg5; clear hg5))
      all_goals
        go_end0
        exact ⟨rfl, (H.out.kept0 KV.out).onGrid kc HG.out, (Kept0.to KV.out).trans kc⟩
    · have HF := Lib.hid (HE.out h0)
      have hne : (E == 0) = false := by simpa using h0
      go_wp2_with fail
      go_end0
      exact ⟨rfl, by rw [HF.out]; exact H.out.kept0 KV.out, Kept0.to KV.out⟩
  · have T8 : Two ((((w4.setCell ⟨w3.heap.size + 1, 0, none⟩ (.int .i64 p)).setCell ⟨w3.heap.size + 1, 1, none⟩ (.int .i64 q)).setCell ⟨w3.heap.size, 0, none⟩ (.int .i64 p')).setCell ⟨w3.heap.size, 1, none⟩ (.int .i64 q')) (w3.heap.size + 1) p q := (two_set U5.out p q).kept (keptTwo _ _ _ _) (by first | omega | assumption)
    have T9 : Two ((((w4.setCell ⟨w3.heap.size + 1, 0, none⟩ (.int .i64 p)).setCell ⟨w3.heap.size + 1, 1, none⟩ (.int .i64 q)).setCell ⟨w3.heap.size, 0, none⟩ (.int .i64 p')).setCell ⟨w3.heap.size, 1, none⟩ (.int .i64 q')) (w3.heap.size) p' q' := two_set (U4.out.kept (keptTwo _ _ _ _) (by first | omega | assumption)) p' q'
    have kV : Kept0 X ((((w4.setCell ⟨w3.heap.size + 1, 0, none⟩ (.int .i64 p)).setCell ⟨w3.heap.size + 1, 1, none⟩ (.int .i64 q)).setCell ⟨w3.heap.size, 0, none⟩ (.int .i64 p')).setCell ⟨w3.heap.size, 1, none⟩ (.int .i64 q')) := ((((kb.setCell _ (Or.inl (Nat.le_succ_of_le kz3)) _).setCell _ (Or.inl (Nat.le_succ_of_le kz3)) _).setCell _ (Or.inl kz3) _).setCell _ (Or.inl kz3) _)
    have f8 : ¬ w3.heap.size + 1 = t := by omega
    have f9 : ¬ w3.heap.size = t := by omega
    generalize ((((w4.setCell ⟨w3.heap.size + 1, 0, none⟩ (.int .i64 p)).setCell ⟨w3.heap.size + 1, 1, none⟩ (.int .i64 q)).setCell ⟨w3.heap.size, 0, none⟩ (.int .i64 p')).setCell ⟨w3.heap.size, 1, none⟩ (.int .i64 q')) = V at T8 T9 kV ⊢
    obtain ⟨d0, d1, _, _⟩ := T8
    obtain ⟨e0, e1, _, _⟩ := T9
    have k8 := World.block_lt_of_cell? V _ d0
    have k9 := World.block_lt_of_cell? V _ e0
    obtain ⟨b8, hb8⟩ : ∃ b8, b8 = w3.heap.size + 1 := ⟨_, rfl⟩
    obtain ⟨b9, hb9⟩ : ∃ b9, b9 = w3.heap.size := ⟨_, rfl⟩
    rw [← hb8] at d0 d1 f8
    rw [← hb9] at e0 e1 f9
    rw [← hb8, ← hb9]
    clear hb8 hb9
    have KV := Lib.hid (KX.out.trans kV)
    have bV := bx.kept kV (fun e => e)
    clear kV
    by_cases h0 : E = 0
    · have HW0 := Lib.hid (HW.out h0)
      subst h0
      go_wp2_with fail
      have c3 := fun w' (k : Kept (· = t) V w') => kcellS k (kcell KV.out c3) hts
      have d0 := fun w' (k : Kept (· = t) V w') => kcellS k d0 f8
      have d1 := fun w' (k : Kept (· = t) V w') => kcellS k d1 f8
      have e0 := fun w' (k : Kept (· = t) V w') => kcellS k e0 f9
      have e1 := fun w' (k : Kept (· = t) V w') => kcellS k e1 f9
      have x0 := fun w' (k : Kept (· = t) V w') => kcellS k bV.c0 (by omega)
      have x1 := fun w' (k : Kept (· = t) V w') => kcellS k bV.c1 (by omega)
      have x2 := fun w' (k : Kept (· = t) V w') => kcellS k bV.c2 (by omega)
      have x3 := fun w' (k : Kept (· = t) V w') => kcellS k bV.c3 (by omega)
      go_region_held3 (fun w' => Kept (· = t) V w') (repeat (first | assumption | exact Kept.refl _ _ | refine Kept.drew ?_))
        (first | (go_at_call 106; refine (HW0.out _ KV.out.drew).mono ?_; rintro e w5 ⟨⟨V5, rfl⟩, hg5, hk5⟩; have kc : Kept (· = t) V w5 := (Kept.refl _ V).drew.trans hk5; have HG := Lib.hid hg5; clear hg5))
      all_goals
        go_end0
        exact ⟨rfl, (H.out.kept0 KV.out).onGrid kc HG.out, (Kept0.to KV.out).trans kc⟩
    · have HF := Lib.hid (HE.out h0)
      have hne : (E == 0) = false := by simpa using h0
      go_wp2_with fail
      go_end0
      exact ⟨rfl, by rw [HF.out]; exact H.out.kept0 KV.out, Kept0.to KV.out⟩
  · have T8 : Two (((w4.setCell ⟨X.heap.size, 0, none⟩ (.int .i64 p)).setCell ⟨X.heap.size, 1, none⟩ (.int .i64 q)).alloc (.cells #[.int .i64 p', .int .i64 q'] 40)) (X.heap.size) p q := (two_set U2.out p q).kept0 ((Kept.refl _ _).alloc _)
    have T9 : Two (((w4.setCell ⟨X.heap.size, 0, none⟩ (.int .i64 p)).setCell ⟨X.heap.size, 1, none⟩ (.int .i64 q)).alloc (.cells #[.int .i64 p', .int .i64 q'] 40)) (w4.heap.size) p' q' := by rw [show w4.heap.size = ((w4.setCell ⟨X.heap.size, 0, none⟩ (.int .i64 p)).setCell ⟨X.heap.size, 1, none⟩ (.int .i64 q)).heap.size by simp]; exact Two.of (heap_new _ _)
    have kV : Kept0 X (((w4.setCell ⟨X.heap.size, 0, none⟩ (.int .i64 p)).setCell ⟨X.heap.size, 1, none⟩ (.int .i64 q)).alloc (.cells #[.int .i64 p', .int .i64 q'] 40)) := ((kb.setCell _ (Or.inl (Nat.le_refl _)) _).setCell _ (Or.inl (Nat.le_refl _)) _).alloc _
    have f8 : ¬ X.heap.size = t := by omega
    have f9 : ¬ w4.heap.size = t := by omega
    generalize (((w4.setCell ⟨X.heap.size, 0, none⟩ (.int .i64 p)).setCell ⟨X.heap.size, 1, none⟩ (.int .i64 q)).alloc (.cells #[.int .i64 p', .int .i64 q'] 40)) = V at T8 T9 kV ⊢
    obtain ⟨d0, d1, _, _⟩ := T8
    obtain ⟨e0, e1, _, _⟩ := T9
    have k8 := World.block_lt_of_cell? V _ d0
    have k9 := World.block_lt_of_cell? V _ e0
    obtain ⟨b8, hb8⟩ : ∃ b8, b8 = X.heap.size := ⟨_, rfl⟩
    obtain ⟨b9, hb9⟩ : ∃ b9, b9 = w4.heap.size := ⟨_, rfl⟩
    rw [← hb8] at d0 d1 f8
    rw [← hb9] at e0 e1 f9
    rw [← hb9, ← hb8]
    clear hb8 hb9
    have KV := Lib.hid (KX.out.trans kV)
    have bV := bx.kept kV (fun e => e)
    clear kV
    by_cases h0 : E = 0
    · have HW0 := Lib.hid (HW.out h0)
      subst h0
      go_wp2_with fail
      have c3 := fun w' (k : Kept (· = t) V w') => kcellS k (kcell KV.out c3) hts
      have d0 := fun w' (k : Kept (· = t) V w') => kcellS k d0 f8
      have d1 := fun w' (k : Kept (· = t) V w') => kcellS k d1 f8
      have e0 := fun w' (k : Kept (· = t) V w') => kcellS k e0 f9
      have e1 := fun w' (k : Kept (· = t) V w') => kcellS k e1 f9
      have x0 := fun w' (k : Kept (· = t) V w') => kcellS k bV.c0 (by omega)
      have x1 := fun w' (k : Kept (· = t) V w') => kcellS k bV.c1 (by omega)
      have x2 := fun w' (k : Kept (· = t) V w') => kcellS k bV.c2 (by omega)
      have x3 := fun w' (k : Kept (· = t) V w') => kcellS k bV.c3 (by omega)
      go_region_held3 (fun w' => Kept (· = t) V w') (repeat (first | assumption | exact Kept.refl _ _ | refine Kept.drew ?_))
        (first | (go_at_call 106; refine (HW0.out _ KV.out.drew).mono ?_; rintro e w5 ⟨⟨V5, rfl⟩, hg5, hk5⟩; have kc : Kept (· = t) V w5 := (Kept.refl _ V).drew.trans hk5; have HG := Lib.hid hg5; clear hg5))
      all_goals
        go_end0
        exact ⟨rfl, (H.out.kept0 KV.out).onGrid kc HG.out, (Kept0.to KV.out).trans kc⟩
    · have HF := Lib.hid (HE.out h0)
      have hne : (E == 0) = false := by simpa using h0
      go_wp2_with fail
      go_end0
      exact ⟨rfl, by rw [HF.out]; exact H.out.kept0 KV.out, Kept0.to KV.out⟩
  · have T8 : Two ((((w4.setCell ⟨X.heap.size, 0, none⟩ (.int .i64 p)).setCell ⟨X.heap.size, 1, none⟩ (.int .i64 q)).setCell ⟨w3.heap.size, 0, none⟩ (.int .i64 p')).setCell ⟨w3.heap.size, 1, none⟩ (.int .i64 q')) (X.heap.size) p q := (two_set U2.out p q).kept (keptTwo _ _ _ _) (by first | omega | assumption)
    have T9 : Two ((((w4.setCell ⟨X.heap.size, 0, none⟩ (.int .i64 p)).setCell ⟨X.heap.size, 1, none⟩ (.int .i64 q)).setCell ⟨w3.heap.size, 0, none⟩ (.int .i64 p')).setCell ⟨w3.heap.size, 1, none⟩ (.int .i64 q')) (w3.heap.size) p' q' := two_set (U4.out.kept (keptTwo _ _ _ _) (by first | omega | assumption)) p' q'
    have kV : Kept0 X ((((w4.setCell ⟨X.heap.size, 0, none⟩ (.int .i64 p)).setCell ⟨X.heap.size, 1, none⟩ (.int .i64 q)).setCell ⟨w3.heap.size, 0, none⟩ (.int .i64 p')).setCell ⟨w3.heap.size, 1, none⟩ (.int .i64 q')) := ((((kb.setCell _ (Or.inl (Nat.le_refl _)) _).setCell _ (Or.inl (Nat.le_refl _)) _).setCell _ (Or.inl kz3) _).setCell _ (Or.inl kz3) _)
    have f8 : ¬ X.heap.size = t := by omega
    have f9 : ¬ w3.heap.size = t := by omega
    generalize ((((w4.setCell ⟨X.heap.size, 0, none⟩ (.int .i64 p)).setCell ⟨X.heap.size, 1, none⟩ (.int .i64 q)).setCell ⟨w3.heap.size, 0, none⟩ (.int .i64 p')).setCell ⟨w3.heap.size, 1, none⟩ (.int .i64 q')) = V at T8 T9 kV ⊢
    obtain ⟨d0, d1, _, _⟩ := T8
    obtain ⟨e0, e1, _, _⟩ := T9
    have k8 := World.block_lt_of_cell? V _ d0
    have k9 := World.block_lt_of_cell? V _ e0
    obtain ⟨b8, hb8⟩ : ∃ b8, b8 = X.heap.size := ⟨_, rfl⟩
    obtain ⟨b9, hb9⟩ : ∃ b9, b9 = w3.heap.size := ⟨_, rfl⟩
    rw [← hb8] at d0 d1 f8
    rw [← hb9] at e0 e1 f9
    rw [← hb9, ← hb8]
    clear hb8 hb9
    have KV := Lib.hid (KX.out.trans kV)
    have bV := bx.kept kV (fun e => e)
    clear kV
    by_cases h0 : E = 0
    · have HW0 := Lib.hid (HW.out h0)
      subst h0
      go_wp2_with fail
      have c3 := fun w' (k : Kept (· = t) V w') => kcellS k (kcell KV.out c3) hts
      have d0 := fun w' (k : Kept (· = t) V w') => kcellS k d0 f8
      have d1 := fun w' (k : Kept (· = t) V w') => kcellS k d1 f8
      have e0 := fun w' (k : Kept (· = t) V w') => kcellS k e0 f9
      have e1 := fun w' (k : Kept (· = t) V w') => kcellS k e1 f9
      have x0 := fun w' (k : Kept (· = t) V w') => kcellS k bV.c0 (by omega)
      have x1 := fun w' (k : Kept (· = t) V w') => kcellS k bV.c1 (by omega)
      have x2 := fun w' (k : Kept (· = t) V w') => kcellS k bV.c2 (by omega)
      have x3 := fun w' (k : Kept (· = t) V w') => kcellS k bV.c3 (by omega)
      go_region_held3 (fun w' => Kept (· = t) V w') (repeat (first | assumption | exact Kept.refl _ _ | refine Kept.drew ?_))
        (first | (go_at_call 106; refine (HW0.out _ KV.out.drew).mono ?_; rintro e w5 ⟨⟨V5, rfl⟩, hg5, hk5⟩; have kc : Kept (· = t) V w5 := (Kept.refl _ V).drew.trans hk5; have HG := Lib.hid hg5; clear hg5))
      all_goals
        go_end0
        exact ⟨rfl, (H.out.kept0 KV.out).onGrid kc HG.out, (Kept0.to KV.out).trans kc⟩
    · have HF := Lib.hid (HE.out h0)
      have hne : (E == 0) = false := by simpa using h0
      go_wp2_with fail
      go_end0
      exact ⟨rfl, by rw [HF.out]; exact H.out.kept0 KV.out, Kept0.to KV.out⟩
  · have T8 : Two ((((w4.setCell ⟨X.heap.size, 0, none⟩ (.int .i64 p)).setCell ⟨X.heap.size, 1, none⟩ (.int .i64 q)).setCell ⟨X.heap.size + 1, 0, none⟩ (.int .i64 p')).setCell ⟨X.heap.size + 1, 1, none⟩ (.int .i64 q')) (X.heap.size) p q := (two_set U2.out p q).kept (keptTwo _ _ _ _) (by first | omega | assumption)
    have T9 : Two ((((w4.setCell ⟨X.heap.size, 0, none⟩ (.int .i64 p)).setCell ⟨X.heap.size, 1, none⟩ (.int .i64 q)).setCell ⟨X.heap.size + 1, 0, none⟩ (.int .i64 p')).setCell ⟨X.heap.size + 1, 1, none⟩ (.int .i64 q')) (X.heap.size + 1) p' q' := two_set (U3.out.kept (keptTwo _ _ _ _) (by first | omega | assumption)) p' q'
    have kV : Kept0 X ((((w4.setCell ⟨X.heap.size, 0, none⟩ (.int .i64 p)).setCell ⟨X.heap.size, 1, none⟩ (.int .i64 q)).setCell ⟨X.heap.size + 1, 0, none⟩ (.int .i64 p')).setCell ⟨X.heap.size + 1, 1, none⟩ (.int .i64 q')) := ((((kb.setCell _ (Or.inl (Nat.le_refl _)) _).setCell _ (Or.inl (Nat.le_refl _)) _).setCell _ (Or.inl (Nat.le_add_right _ 1)) _).setCell _ (Or.inl (Nat.le_add_right _ 1)) _)
    have f8 : ¬ X.heap.size = t := by omega
    have f9 : ¬ X.heap.size + 1 = t := by omega
    generalize ((((w4.setCell ⟨X.heap.size, 0, none⟩ (.int .i64 p)).setCell ⟨X.heap.size, 1, none⟩ (.int .i64 q)).setCell ⟨X.heap.size + 1, 0, none⟩ (.int .i64 p')).setCell ⟨X.heap.size + 1, 1, none⟩ (.int .i64 q')) = V at T8 T9 kV ⊢
    obtain ⟨d0, d1, _, _⟩ := T8
    obtain ⟨e0, e1, _, _⟩ := T9
    have k8 := World.block_lt_of_cell? V _ d0
    have k9 := World.block_lt_of_cell? V _ e0
    obtain ⟨b8, hb8⟩ : ∃ b8, b8 = X.heap.size := ⟨_, rfl⟩
    obtain ⟨b9, hb9⟩ : ∃ b9, b9 = X.heap.size + 1 := ⟨_, rfl⟩
    rw [← hb8] at d0 d1 f8
    rw [← hb9] at e0 e1 f9
    rw [← hb9, ← hb8]
    clear hb8 hb9
    have KV := Lib.hid (KX.out.trans kV)
    have bV := bx.kept kV (fun e => e)
    clear kV
    by_cases h0 : E = 0
    · have HW0 := Lib.hid (HW.out h0)
      subst h0
      go_wp2_with fail
      have c3 := fun w' (k : Kept (· = t) V w') => kcellS k (kcell KV.out c3) hts
      have d0 := fun w' (k : Kept (· = t) V w') => kcellS k d0 f8
      have d1 := fun w' (k : Kept (· = t) V w') => kcellS k d1 f8
      have e0 := fun w' (k : Kept (· = t) V w') => kcellS k e0 f9
      have e1 := fun w' (k : Kept (· = t) V w') => kcellS k e1 f9
      have x0 := fun w' (k : Kept (· = t) V w') => kcellS k bV.c0 (by omega)
      have x1 := fun w' (k : Kept (· = t) V w') => kcellS k bV.c1 (by omega)
      have x2 := fun w' (k : Kept (· = t) V w') => kcellS k bV.c2 (by omega)
      have x3 := fun w' (k : Kept (· = t) V w') => kcellS k bV.c3 (by omega)
      go_region_held3 (fun w' => Kept (· = t) V w') (repeat (first | assumption | exact Kept.refl _ _ | refine Kept.drew ?_))
        (first | (go_at_call 106; refine (HW0.out _ KV.out.drew).mono ?_; rintro e w5 ⟨⟨V5, rfl⟩, hg5, hk5⟩; have kc : Kept (· = t) V w5 := (Kept.refl _ V).drew.trans hk5; have HG := Lib.hid hg5; clear hg5))
      all_goals
        go_end0
        exact ⟨rfl, (H.out.kept0 KV.out).onGrid kc HG.out, (Kept0.to KV.out).trans kc⟩
    · have HF := Lib.hid (HE.out h0)
      have hne : (E == 0) = false := by simpa using h0
      go_wp2_with fail
      go_end0
      exact ⟨rfl, by rw [HF.out]; exact H.out.kept0 KV.out, Kept0.to KV.out⟩
  · have T8 : Two (((w4.setCell ⟨X.heap.size, 0, none⟩ (.int .i64 p')).setCell ⟨X.heap.size, 1, none⟩ (.int .i64 q')).alloc (.cells #[.int .i64 p, .int .i64 q] 40)) (w4.heap.size) p q := by rw [show w4.heap.size = ((w4.setCell ⟨X.heap.size, 0, none⟩ (.int .i64 p')).setCell ⟨X.heap.size, 1, none⟩ (.int .i64 q')).heap.size by simp]; exact Two.of (heap_new _ _)
    have T9 : Two (((w4.setCell ⟨X.heap.size, 0, none⟩ (.int .i64 p')).setCell ⟨X.heap.size, 1, none⟩ (.int .i64 q')).alloc (.cells #[.int .i64 p, .int .i64 q] 40)) (X.heap.size) p' q' := (two_set U2.out p' q').kept0 ((Kept.refl _ _).alloc _)
    have kV : Kept0 X (((w4.setCell ⟨X.heap.size, 0, none⟩ (.int .i64 p')).setCell ⟨X.heap.size, 1, none⟩ (.int .i64 q')).alloc (.cells #[.int .i64 p, .int .i64 q] 40)) := ((kb.setCell _ (Or.inl (Nat.le_refl _)) _).setCell _ (Or.inl (Nat.le_refl _)) _).alloc _
    have f8 : ¬ w4.heap.size = t := by omega
    have f9 : ¬ X.heap.size = t := by omega
    generalize (((w4.setCell ⟨X.heap.size, 0, none⟩ (.int .i64 p')).setCell ⟨X.heap.size, 1, none⟩ (.int .i64 q')).alloc (.cells #[.int .i64 p, .int .i64 q] 40)) = V at T8 T9 kV ⊢
    obtain ⟨d0, d1, _, _⟩ := T8
    obtain ⟨e0, e1, _, _⟩ := T9
    have k8 := World.block_lt_of_cell? V _ d0
    have k9 := World.block_lt_of_cell? V _ e0
    obtain ⟨b8, hb8⟩ : ∃ b8, b8 = w4.heap.size := ⟨_, rfl⟩
    obtain ⟨b9, hb9⟩ : ∃ b9, b9 = X.heap.size := ⟨_, rfl⟩
    rw [← hb8] at d0 d1 f8
    rw [← hb9] at e0 e1 f9
    rw [← hb8, ← hb9]
    clear hb8 hb9
    have KV := Lib.hid (KX.out.trans kV)
    have bV := bx.kept kV (fun e => e)
    clear kV
    by_cases h0 : E = 0
    · have HW0 := Lib.hid (HW.out h0)
      subst h0
      go_wp2_with fail
      have c3 := fun w' (k : Kept (· = t) V w') => kcellS k (kcell KV.out c3) hts
      have d0 := fun w' (k : Kept (· = t) V w') => kcellS k d0 f8
      have d1 := fun w' (k : Kept (· = t) V w') => kcellS k d1 f8
      have e0 := fun w' (k : Kept (· = t) V w') => kcellS k e0 f9
      have e1 := fun w' (k : Kept (· = t) V w') => kcellS k e1 f9
      have x0 := fun w' (k : Kept (· = t) V w') => kcellS k bV.c0 (by omega)
      have x1 := fun w' (k : Kept (· = t) V w') => kcellS k bV.c1 (by omega)
      have x2 := fun w' (k : Kept (· = t) V w') => kcellS k bV.c2 (by omega)
      have x3 := fun w' (k : Kept (· = t) V w') => kcellS k bV.c3 (by omega)
      go_region_held3 (fun w' => Kept (· = t) V w') (repeat (first | assumption | exact Kept.refl _ _ | refine Kept.drew ?_))
        (first | (go_at_call 106; refine (HW0.out _ KV.out.drew).mono ?_; rintro e w5 ⟨⟨V5, rfl⟩, hg5, hk5⟩; have kc : Kept (· = t) V w5 := (Kept.refl _ V).drew.trans hk5; have HG := Lib.hid hg5; clear hg5))
      all_goals
        go_end0
        exact ⟨rfl, (H.out.kept0 KV.out).onGrid kc HG.out, (Kept0.to KV.out).trans kc⟩
    · have HF := Lib.hid (HE.out h0)
      have hne : (E == 0) = false := by simpa using h0
      go_wp2_with fail
      go_end0
      exact ⟨rfl, by rw [HF.out]; exact H.out.kept0 KV.out, Kept0.to KV.out⟩
  · have T8 : Two ((((w4.setCell ⟨w3.heap.size, 0, none⟩ (.int .i64 p)).setCell ⟨w3.heap.size, 1, none⟩ (.int .i64 q)).setCell ⟨X.heap.size, 0, none⟩ (.int .i64 p')).setCell ⟨X.heap.size, 1, none⟩ (.int .i64 q')) (w3.heap.size) p q := (two_set U4.out p q).kept (keptTwo _ _ _ _) (by first | omega | assumption)
    have T9 : Two ((((w4.setCell ⟨w3.heap.size, 0, none⟩ (.int .i64 p)).setCell ⟨w3.heap.size, 1, none⟩ (.int .i64 q)).setCell ⟨X.heap.size, 0, none⟩ (.int .i64 p')).setCell ⟨X.heap.size, 1, none⟩ (.int .i64 q')) (X.heap.size) p' q' := two_set (U2.out.kept (keptTwo _ _ _ _) (by first | omega | assumption)) p' q'
    have kV : Kept0 X ((((w4.setCell ⟨w3.heap.size, 0, none⟩ (.int .i64 p)).setCell ⟨w3.heap.size, 1, none⟩ (.int .i64 q)).setCell ⟨X.heap.size, 0, none⟩ (.int .i64 p')).setCell ⟨X.heap.size, 1, none⟩ (.int .i64 q')) := ((((kb.setCell _ (Or.inl kz3) _).setCell _ (Or.inl kz3) _).setCell _ (Or.inl (Nat.le_refl _)) _).setCell _ (Or.inl (Nat.le_refl _)) _)
    have f8 : ¬ w3.heap.size = t := by omega
    have f9 : ¬ X.heap.size = t := by omega
    generalize ((((w4.setCell ⟨w3.heap.size, 0, none⟩ (.int .i64 p)).setCell ⟨w3.heap.size, 1, none⟩ (.int .i64 q)).setCell ⟨X.heap.size, 0, none⟩ (.int .i64 p')).setCell ⟨X.heap.size, 1, none⟩ (.int .i64 q')) = V at T8 T9 kV ⊢
    obtain ⟨d0, d1, _, _⟩ := T8
    obtain ⟨e0, e1, _, _⟩ := T9
    have k8 := World.block_lt_of_cell? V _ d0
    have k9 := World.block_lt_of_cell? V _ e0
    obtain ⟨b8, hb8⟩ : ∃ b8, b8 = w3.heap.size := ⟨_, rfl⟩
    obtain ⟨b9, hb9⟩ : ∃ b9, b9 = X.heap.size := ⟨_, rfl⟩
    rw [← hb8] at d0 d1 f8
    rw [← hb9] at e0 e1 f9
    rw [← hb8, ← hb9]
    clear hb8 hb9
    have KV := Lib.hid (KX.out.trans kV)
    have bV := bx.kept kV (fun e => e)
    clear kV
    by_cases h0 : E = 0
    · have HW0 := Lib.hid (HW.out h0)
      subst h0
      go_wp2_with fail
      have c3 := fun w' (k : Kept (· = t) V w') => kcellS k (kcell KV.out c3) hts
      have d0 := fun w' (k : Kept (· = t) V w') => kcellS k d0 f8
      have d1 := fun w' (k : Kept (· = t) V w') => kcellS k d1 f8
      have e0 := fun w' (k : Kept (· = t) V w') => kcellS k e0 f9
      have e1 := fun w' (k : Kept (· = t) V w') => kcellS k e1 f9
      have x0 := fun w' (k : Kept (· = t) V w') => kcellS k bV.c0 (by omega)
      have x1 := fun w' (k : Kept (· = t) V w') => kcellS k bV.c1 (by omega)
      have x2 := fun w' (k : Kept (· = t) V w') => kcellS k bV.c2 (by omega)
      have x3 := fun w' (k : Kept (· = t) V w') => kcellS k bV.c3 (by omega)
      go_region_held3 (fun w' => Kept (· = t) V w') (repeat (first | assumption | exact Kept.refl _ _ | refine Kept.drew ?_))
        (first | (go_at_call 106; refine (HW0.out _ KV.out.drew).mono ?_; rintro e w5 ⟨⟨V5, rfl⟩, hg5, hk5⟩; have kc : Kept (· = t) V w5 := (Kept.refl _ V).drew.trans hk5; have HG := Lib.hid hg5; clear hg5))
      all_goals
        go_end0
        exact ⟨rfl, (H.out.kept0 KV.out).onGrid kc HG.out, (Kept0.to KV.out).trans kc⟩
    · have HF := Lib.hid (HE.out h0)
      have hne : (E == 0) = false := by simpa using h0
      go_wp2_with fail
      go_end0
      exact ⟨rfl, by rw [HF.out]; exact H.out.kept0 KV.out, Kept0.to KV.out⟩
  · have T8 : Two ((((w4.setCell ⟨X.heap.size + 1, 0, none⟩ (.int .i64 p)).setCell ⟨X.heap.size + 1, 1, none⟩ (.int .i64 q)).setCell ⟨X.heap.size, 0, none⟩ (.int .i64 p')).setCell ⟨X.heap.size, 1, none⟩ (.int .i64 q')) (X.heap.size + 1) p q := (two_set U3.out p q).kept (keptTwo _ _ _ _) (by first | omega | assumption)
    have T9 : Two ((((w4.setCell ⟨X.heap.size + 1, 0, none⟩ (.int .i64 p)).setCell ⟨X.heap.size + 1, 1, none⟩ (.int .i64 q)).setCell ⟨X.heap.size, 0, none⟩ (.int .i64 p')).setCell ⟨X.heap.size, 1, none⟩ (.int .i64 q')) (X.heap.size) p' q' := two_set (U2.out.kept (keptTwo _ _ _ _) (by first | omega | assumption)) p' q'
    have kV : Kept0 X ((((w4.setCell ⟨X.heap.size + 1, 0, none⟩ (.int .i64 p)).setCell ⟨X.heap.size + 1, 1, none⟩ (.int .i64 q)).setCell ⟨X.heap.size, 0, none⟩ (.int .i64 p')).setCell ⟨X.heap.size, 1, none⟩ (.int .i64 q')) := ((((kb.setCell _ (Or.inl (Nat.le_add_right _ 1)) _).setCell _ (Or.inl (Nat.le_add_right _ 1)) _).setCell _ (Or.inl (Nat.le_refl _)) _).setCell _ (Or.inl (Nat.le_refl _)) _)
    have f8 : ¬ X.heap.size + 1 = t := by omega
    have f9 : ¬ X.heap.size = t := by omega
    generalize ((((w4.setCell ⟨X.heap.size + 1, 0, none⟩ (.int .i64 p)).setCell ⟨X.heap.size + 1, 1, none⟩ (.int .i64 q)).setCell ⟨X.heap.size, 0, none⟩ (.int .i64 p')).setCell ⟨X.heap.size, 1, none⟩ (.int .i64 q')) = V at T8 T9 kV ⊢
    obtain ⟨d0, d1, _, _⟩ := T8
    obtain ⟨e0, e1, _, _⟩ := T9
    have k8 := World.block_lt_of_cell? V _ d0
    have k9 := World.block_lt_of_cell? V _ e0
    obtain ⟨b8, hb8⟩ : ∃ b8, b8 = X.heap.size + 1 := ⟨_, rfl⟩
    obtain ⟨b9, hb9⟩ : ∃ b9, b9 = X.heap.size := ⟨_, rfl⟩
    rw [← hb8] at d0 d1 f8
    rw [← hb9] at e0 e1 f9
    rw [← hb8, ← hb9]
    clear hb8 hb9
    have KV := Lib.hid (KX.out.trans kV)
    have bV := bx.kept kV (fun e => e)
    clear kV
    by_cases h0 : E = 0
    · have HW0 := Lib.hid (HW.out h0)
      subst h0
      go_wp2_with fail
      have c3 := fun w' (k : Kept (· = t) V w') => kcellS k (kcell KV.out c3) hts
      have d0 := fun w' (k : Kept (· = t) V w') => kcellS k d0 f8
      have d1 := fun w' (k : Kept (· = t) V w') => kcellS k d1 f8
      have e0 := fun w' (k : Kept (· = t) V w') => kcellS k e0 f9
      have e1 := fun w' (k : Kept (· = t) V w') => kcellS k e1 f9
      have x0 := fun w' (k : Kept (· = t) V w') => kcellS k bV.c0 (by omega)
      have x1 := fun w' (k : Kept (· = t) V w') => kcellS k bV.c1 (by omega)
      have x2 := fun w' (k : Kept (· = t) V w') => kcellS k bV.c2 (by omega)
      have x3 := fun w' (k : Kept (· = t) V w') => kcellS k bV.c3 (by omega)
      go_region_held3 (fun w' => Kept (· = t) V w') (repeat (first | assumption | exact Kept.refl _ _ | refine Kept.drew ?_))
        (first | (go_at_call 106; refine (HW0.out _ KV.out.drew).mono ?_; rintro e w5 ⟨⟨V5, rfl⟩, hg5, hk5⟩; have kc : Kept (· = t) V w5 := (Kept.refl _ V).drew.trans hk5; have HG := Lib.hid hg5; clear hg5))
      all_goals
        go_end0
        exact ⟨rfl, (H.out.kept0 KV.out).onGrid kc HG.out, (Kept0.to KV.out).trans kc⟩
    · have HF := Lib.hid (HE.out h0)
      have hne : (E == 0) = false := by simpa using h0
      go_wp2_with fail
      go_end0
      exact ⟨rfl, by rw [HF.out]; exact H.out.kept0 KV.out, Kept0.to KV.out⟩
end Go.Proofs.YtkpfhgfdfndliaaGreatDoor
