/-
  The document's screen: Part.
-/
import Derived.Test.YtkpfhgfdfndliaaGreatDoorRScW
namespace Go.Proofs.YtkpfhgfdfndliaaGreatDoor
open Go.RowKit

theorem refPart_kind (R C r c p : Int) (w : World) (h : ¬ (1 ≤ p ∧ p ≤ 6)) :
    Calls Tryz.prog 118 #[.agg #[.int .i64 R, .int .i64 C], .agg #[.int .i64 r, .int .i64 c], .int .i64 p] w fun e w' =>
      e = .returned (.tuple #[.int .i64 (-1), .int .i64 (-1)]) ∧ Kept0 w w' := by
  have n1 : ¬ p = 1 := by omega
  have n2 : ¬ p = 2 := by omega
  have n3 : ¬ p = 3 := by omega
  have n4 : ¬ p = 4 := by omega
  have n5 : ¬ p = 5 := by omega
  have n6 : ¬ p = 6 := by omega
  clear h
  go_enter Tryz.func118, Tryz.ntmps118
  go_wp2_with fail
  go_ret2
  exact ⟨rfl, ((Kept.refl _ w).alloc _).alloc _⟩

theorem div_mod_at {a d C : Int} (ha : 0 ≤ a) (hd : 0 ≤ d) (hd2 : d < C) : (a * C + d).tdiv C = a ∧ (a * C + d).tmod C = d := by
  have hm : 0 ≤ a * C := Int.mul_nonneg ha (by omega)
  have e1 : (a * C + d) / C = a := by rw [Int.add_comm, Int.add_mul_ediv_right _ _ (by omega), Int.ediv_eq_zero_of_lt hd hd2]; omega
  rw [Int.tdiv_eq_ediv_of_nonneg (by omega), Int.tmod_eq_emod_of_nonneg (by omega), e1, Int.emod_def, e1]
  refine ⟨rfl, ?_⟩
  rw [Int.mul_comm C a]
  omega
theorem refA_at {R C r c p : Int} (hr : 0 ≤ r ∧ r < R) (hc : 0 ≤ c ∧ c < C) (hp : 1 ≤ p ∧ p ≤ 6) :
    (Wp.refA C r c p).tdiv C = Wp.fromR r p ∧ (Wp.refA C r c p).tmod C = Wp.fromC c p ∧ (Wp.refB R C r c p).tdiv C = Wp.toR R r p ∧ (Wp.refB R C r c p).tmod C = Wp.toC C c p ∧ 0 ≤ Wp.refA C r c p := by
  have hA : Wp.refA C r c p = Wp.fromR r p * C + Wp.fromC c p := by
    unfold Wp.refA Wp.fromR Wp.fromC
    have : p = 1 ∨ p = 2 ∨ p = 3 ∨ p = 4 ∨ p = 5 ∨ p = 6 := by omega
    rcases this with rfl | rfl | rfl | rfl | rfl | rfl <;> simp
  have hB : Wp.refB R C r c p = Wp.toR R r p * C + Wp.toC C c p := by
    unfold Wp.refB Wp.toR Wp.toC
    have hx : (R - 1) * C = R * C - C := by rw [Int.sub_mul, Int.one_mul]
    have : p = 1 ∨ p = 2 ∨ p = 3 ∨ p = 4 ∨ p = 5 ∨ p = 6 := by omega
    rcases this with rfl | rfl | rfl | rfl | rfl | rfl <;> simp <;> (try rw [hx]) <;> omega
  have f1 : 0 ≤ Wp.fromR r p := by unfold Wp.fromR; split <;> omega
  have f2 : 0 ≤ Wp.fromC c p ∧ Wp.fromC c p < C := by unfold Wp.fromC; split <;> omega
  have f3 : 0 ≤ Wp.toR R r p := by unfold Wp.toR; split <;> omega
  have f4 : 0 ≤ Wp.toC C c p ∧ Wp.toC C c p < C := by unfold Wp.toC; split <;> omega
  have h1 := div_mod_at f1 f2.1 f2.2
  have h2 := div_mod_at f3 f4.1 f4.2
  rw [← hA] at h1
  rw [← hB] at h2
  refine ⟨h1.1, h1.2, h2.1, h2.2, ?_⟩
  rw [hA]
  have := Int.mul_nonneg f1 (show 0 ≤ C by omega)
  omega
set_option maxRecDepth 100000 in
set_option maxHeartbeats 4000000 in
theorem rpart_any {s g t cap tb m R C : Nat} {F : Nat → Cel} {S : Nat → Bool} {r c : Int} {b : Bool} (k : Int) (x : Cel) (v : Bool) (w : World) (h : RIn w s g t cap tb m R C F S r c b) :
    Calls Tryz.prog 83 #[ptr s, .int .i64 k, x.v, .bool v] w fun e w' => e = .returned (.tuple #[]) ∧ RIn w' s g t cap tb m R C (spartF R C F r c k x v) S r c b ∧ Kept (· = t) w w' := by
  have hl := h.lt
  have H := Lib.hid h
  have hth := h.there
  have ht9 := hth
  obtain ⟨t1, t2, t3, t4⟩ := ht9
  have h1 : 1 ≤ (R : Int) ∧ (R : Int) ≤ 255 ∧ 1 ≤ (C : Int) ∧ (C : Int) ≤ 255 := by
    have a1 := h.grid.R1; have a2 := h.grid.R2; have a3 := h.grid.C1; have a4 := h.grid.C2
    omega
  by_cases hk : 1 ≤ k ∧ k ≤ 6
  · rw [show spartF R C F r c k x v = swipeF R C F (Wp.fromR r k) (Wp.fromC c k) (Wp.toR R r k) (Wp.toC C c k) x v by
      unfold spartF swipeF
      rw [if_pos hk, nr_in _ R (by unfold Wp.fromR; split <;> omega) (by unfold Wp.fromR; split <;> omega), nr_in _ C (by unfold Wp.fromC; split <;> omega) (by unfold Wp.fromC; split <;> omega), nr_in _ R (by unfold Wp.toR; split <;> omega) (by unfold Wp.toR; split <;> omega), nr_in _ C (by unfold Wp.toC; split <;> omega) (by unfold Wp.toC; split <;> omega)]]
    obtain ⟨r1, r2, r3, r4, r5⟩ := refA_at (R := (R : Int)) ⟨hth.1, hth.2.1⟩ ⟨hth.2.2.1, hth.2.2.2⟩ hk
    have HP := Lib.hid (fun w' => Wp.refPart_ok R C r c k w' h1 hth hk)
    have f1 : wrap64 (Wp.fromR r k) = Wp.fromR r k := by rw [← IntWalk.i64_left]; exact IntWalk.i64_in _ (by unfold Wp.fromR; split <;> constructor <;> omega)
    have f2 : IntKind.i64.wrap (Wp.toR R r k) = Wp.toR R r k := IntWalk.i64_in _ (by unfold Wp.toR; split <;> constructor <;> omega)
    obtain ⟨a1, ha1⟩ : ∃ a1, a1 = Wp.fromR r k := ⟨_, rfl⟩
    obtain ⟨a2, ha2⟩ : ∃ a2, a2 = Wp.fromC c k := ⟨_, rfl⟩
    obtain ⟨b1, hb1⟩ : ∃ b1, b1 = Wp.toR R r k := ⟨_, rfl⟩
    obtain ⟨b2, hb2⟩ : ∃ b2, b2 = Wp.toC C c k := ⟨_, rfl⟩
    rw [← ha1] at r1 f1
    rw [← ha2] at r2
    rw [← hb1] at r3 f2
    rw [← hb2] at r4
    rw [← ha1, ← ha2, ← hb1, ← hb2]
    have f1' : IntKind.i64.wrap a1 = a1 := by rw [IntWalk.i64_left]; exact f1
    have f2' : wrap64 b1 = b1 := by rw [← IntWalk.i64_left]; exact f2
    have HW : Hid (∀ w', Kept0 w w' → Calls Tryz.prog 82 #[ptr s, .agg #[.int .i64 a1, .int .i64 a2], .agg #[.int .i64 b1, .int .i64 b2], .agg #[.int .i32 x.g, .int .i64 x.a, .bool x.b, .int .i64 x.m], .bool v] w' fun e w'' => e = .returned (.tuple #[]) ∧ RIn w'' s g t cap tb m R C (swipeF R C F a1 a2 b1 b2 x v) S r c b ∧ Kept (· = t) w' w'') := fun w' kk => rwipe_any _ _ _ _ x v w' (H.out.kept0 kk)
    generalize swipeF R C F a1 a2 b1 b2 x v = G at HW ⊢
    generalize Wp.refA C r c k = A at *
    generalize Wp.refB R C r c k = B at *
    have hA : decide (A < 0) = false := by simp; omega
    have hA0 : ¬ A < 0 := by omega
    have n0 : ¬ ((C : Int) = 0) := by omega
    have n9 : ¬ C = 0 := by omega
    have n8 : (C == 0) = false := by simpa using n9
    clear h hth h1 hk ha1 ha2 hb1 hb2
    go_enter Tryz.func83, Tryz.ntmps83
    go_wp2_with fail
    obtain ⟨W, hW⟩ : ∃ W, W = w.alloc (.cells #[.int .i32 x.g, .int .i64 x.a, .bool x.b, .int .i64 x.m] 36) := ⟨_, rfl⟩
    have k0 : Kept0 w W := by rw [hW]; exact (Kept.refl _ w).alloc _
    have bx : CelAt W w.heap.size x := by rw [hW]; exact CelAt.new _ _ _
    rw [← hW]
    clear hW
    have KK := Lib.hid k0
    have HS := Lib.hid (H.out.kept0 k0)
    have HX := Lib.hid bx
    have c1 := fun w' (k : Kept0 W w') => kcell k HS.out.c1
    have c2 := fun w' (k : Kept0 W w') => kcell k HS.out.c2
    clear k0 bx
    go_region_held3 (fun w' => Kept0 W w') (repeat (first | assumption | exact Kept.refl _ _ | refine Kept.drew ?_))
      (first
        | (go_at_call 118; refine (HP.out _).mono ?_; rintro e w4 ⟨rfl, hk4⟩; have kn : Kept0 W w4 := ka.trans hk4)
        | (go_at_call 32; refine (rsize_any _ (HS.out.kept0 (Kept.refl _ _).drew)).mono ?_; rintro e w3 ⟨rfl, hk3⟩; have ka : Kept0 W w3 := (Kept.refl _ W).drew.trans hk3))
    have KN := Lib.hid kn
    have HS4 := Lib.hid (HS.out.kept0 kn)
    have d0 := HS4.out.c0
    have d1 := HS4.out.grid.c1
    have HX4 := Lib.hid (HX.out.kept kn (fun e => e))
    have hkd : Kept0 w w4.drew := KK.out.trans (kn.trans (Kept.refl _ w4).drew)
    have HW4 := Lib.hid (HW.out w4.drew hkd)
    have htw : ¬ w.heap.size = t := by have := H.out.grid.row.lt; omega
    clear c1 c2 kn hk3 hk4 ka
    go_wp2_with fail
    have x0 := fun w' (k : Kept (· = t) w4 w') => kcellS k HX4.out.c0 htw
    have x1 := fun w' (k : Kept (· = t) w4 w') => kcellS k HX4.out.c1 htw
    have x2 := fun w' (k : Kept (· = t) w4 w') => kcellS k HX4.out.c2 htw
    have x3 := fun w' (k : Kept (· = t) w4 w') => kcellS k HX4.out.c3 htw
    have HKD := Lib.hid hkd
    clear d0 d1 hkd hA hA0 HP HW
    go_region_held3 (fun w' => Kept (· = t) w4 w') (repeat (first | assumption | exact Kept.refl _ _ | refine Kept.drew ?_))
      (first
        | (go_at_call 82; refine HW4.out.mono ?_; rintro e w5 ⟨rfl, hs5, hk5⟩; have H5 := Lib.hid hs5; have K5 := Lib.hid hk5; have ka : Kept (· = t) w4 w5 := (Kept.refl _ w4).drew.trans hk5; clear hs5 hk5))
    all_goals
      go_wp2_with fail
      refine bodyPost_end (results_none rfl _ _ _) rfl ?_
      exact ⟨rfl, H5.out, (Kept0.to HKD.out).trans K5.out⟩
  · rw [show spartF R C F r c k x v = F from if_neg hk]
    have HP := Lib.hid (fun w' => refPart_kind R C r c k w' hk)
    clear h hth h1 hk
    go_enter Tryz.func83, Tryz.ntmps83
    go_wp2_with fail
    obtain ⟨W, hW⟩ : ∃ W, W = w.alloc (.cells #[.int .i32 x.g, .int .i64 x.a, .bool x.b, .int .i64 x.m] 36) := ⟨_, rfl⟩
    have k0 : Kept0 w W := by rw [hW]; exact (Kept.refl _ w).alloc _
    rw [← hW]
    clear hW
    have KK := Lib.hid k0
    have HS := Lib.hid (H.out.kept0 k0)
    have c1 := fun w' (k : Kept0 W w') => kcell k HS.out.c1
    have c2 := fun w' (k : Kept0 W w') => kcell k HS.out.c2
    clear k0
    go_region_held3 (fun w' => Kept0 W w') (repeat (first | assumption | exact Kept.refl _ _ | refine Kept.drew ?_))
      (first
        | (go_at_call 118; refine (HP.out _).mono ?_; rintro e w4 ⟨rfl, hk4⟩; have kn : Kept0 W w4 := ka.trans hk4)
        | (go_at_call 32; refine (rsize_any _ (HS.out.kept0 (Kept.refl _ _).drew)).mono ?_; rintro e w3 ⟨rfl, hk3⟩; have ka : Kept0 W w3 := (Kept.refl _ W).drew.trans hk3))
    go_wp2_with fail
    refine bodyPost_ret (results_none rfl _ _ _) rfl ?_
    exact ⟨rfl, HS.out.kept0 kn, Kept0.to (KK.out.trans kn)⟩
end Go.Proofs.YtkpfhgfdfndliaaGreatDoor
