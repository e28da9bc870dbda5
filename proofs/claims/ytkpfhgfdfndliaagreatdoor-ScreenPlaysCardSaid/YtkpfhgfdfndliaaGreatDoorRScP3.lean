/-
  The document's screen: Put without guard.
  The document's screen: Put with guard.
  The document's screen: Put.
-/
import Derived.Test.YtkpfhgfdfndliaaGreatDoorRScB
namespace Go.Proofs.YtkpfhgfdfndliaaGreatDoor
open Go.RowKit

set_option maxRecDepth 100000 in
set_option maxHeartbeats 40000000 in
theorem rput_free {s g t cap tb m R C : Nat} {F : Nat → Cel} {S : Nat → Bool} {r c : Int} {b : Bool} (x : Cel) (k : Int) (w : World) (h : RIn w s g t cap tb m R C F S r c b) :
    Calls Tryz.prog 81 #[ptr s, x.v, .int .i64 k, .bool false] w fun e w' => e = .returned (.tuple #[]) ∧ RIn w' s g t cap tb m R C (putF R C F r c b x k blk) S (putR R C r c b k) (putC C c b k) (putP C c b k) ∧ Kept (fun i => i = s ∨ i = t) w w' := by
  have HP := Lib.hid (fun w' (kk : Kept0 w w') => putR_any g t cap R C F r c k b x blk w' (h.grid.kept kk (fun e => e) (fun e => e)))
  have HT : Hid (There R C (putR R C r c b k) (putC C c b k)) := put_there h.grid.R1 h.grid.C1
  have hl := h.lt
  have H := Lib.hid h
  have hts : ¬ s = t := h.apart.1.2.1
  have htl := h.grid.row.lt
  have hsw : ¬ s = w.heap.size := by omega
  have hsw2 : ¬ w.heap.size = s := by omega
  clear h
  obtain ⟨p5, hp5⟩ : ∃ p5, p5 = putR R C r c b k := ⟨_, rfl⟩
  obtain ⟨q5, hq5⟩ : ∃ q5, q5 = putC C c b k := ⟨_, rfl⟩
  obtain ⟨b5, hb5⟩ : ∃ b5, b5 = putP C c b k := ⟨_, rfl⟩
  rw [← hp5, ← hq5, ← hb5] at HP
  rw [← hp5, ← hq5] at HT
  rw [← hp5, ← hq5, ← hb5]
  clear hp5 hq5 hb5
  go_enter Tryz.func81, Tryz.ntmps81
  go_wp2_with fail
  obtain ⟨W, hW⟩ : ∃ W, W = w.alloc (.cells #[.int .i32 x.g, .int .i64 x.a, .bool x.b, .int .i64 x.m] 36) := ⟨_, rfl⟩
  have k0 : Kept0 w W := by rw [hW]; exact (Kept.refl _ w).alloc _
  have bx : CelAt W w.heap.size x := by rw [hW]; exact CelAt.new _ _ _
  rw [← hW]
  clear hW
  have KK := Lib.hid k0
  have HW := Lib.hid (H.out.kept0 k0)
  clear k0
  have c0 := HW.out.c0
  have c1 := HW.out.c1
  have c2 := HW.out.c2
  have c3 := HW.out.c3
  have HX := Lib.hid bx
  obtain ⟨x0, x1, x2, x3⟩ := bx
  go_region_with
    (first
      | (go_at_call 115; refine (HP.out _ (KK.out.trans kn.out)).mono ?_; rintro e w4 ⟨rfl, hg4, hk4⟩; have HK4 := Lib.hid hk4; have HS := Lib.hid ((HW.out.kept0 kn.out).onGrid hk4 hg4); have y0 := HS.out.c0; obtain ⟨u0, u1, u2, u3⟩ := (HX.out.kept kn.out (fun e => e)).kept hk4 (by omega); have y1 := HS.out.c1; have y2 := HS.out.c2; have y3 := HS.out.c3; have f1 := HS.out.fz 1; have f2 := HS.out.fz 2; have f3 := HS.out.fz 3; clear hg4 hk4)
      | (go_at_call 30; refine (blankR _).mono ?_; rintro e w3 ⟨rfl, hk3⟩; have kn : Hid (Kept0 W w3) := (Kept.refl _ W).drew.trans hk3; have z0 := kcell kn.out c0; have z1 := kcell kn.out c1; have z2 := kcell kn.out c2; have z3 := kcell kn.out c3; obtain ⟨v0, v1, v2, v3⟩ := HX.out.kept kn.out (fun e => e)))
  all_goals
    go_wp2_with fail
    refine bodyPost_ret (results_none rfl _ _ _) rfl ?_
    exact ⟨rfl, HS.out.onPlace HT.out, (((Kept0.to (KK.out.trans kn.out)).trans HK4.out).mono (fun i _ e => Or.inr e)).trans ((RIn.keptPlace _ s _ _ _).mono (fun i _ e => Or.inl e))⟩

end Go.Proofs.YtkpfhgfdfndliaaGreatDoor

namespace Go.Proofs.YtkpfhgfdfndliaaGreatDoor
open Go.RowKit

set_option maxRecDepth 100000 in
set_option maxHeartbeats 4000000 in
theorem rput_guard {s g t cap tb m R C : Nat} {F F' : Nat → Cel} {S : Nat → Bool} {r c : Int} {b : Bool} (x : Cel) (k p q E : Int) (w : World) (h : RIn w s g t cap tb m R C F S r c b)
    (h1 : ∀ w', RefAt w' g t cap R C F → Calls Tryz.prog 116 #[ptr g, place r c b, x.v] w' fun e w'' => e = .returned (.tuple #[place p q false, .int .i64 E]) ∧ RefAt w'' g t cap R C F' ∧ Kept (· = t) w' w'')
    (hth : E = 0 → There R C p q) :
    Calls Tryz.prog 81 #[ptr s, x.v, .int .i64 k, .bool true] w fun e w' => e = .returned (.tuple #[]) ∧ (if E = 0 then RIn w' s g t cap tb m R C F' S p q false else RIn w' s g t cap tb m R C F' S r c b) ∧ Kept (fun i => i = s ∨ i = t) w w' := by
  have HP := Lib.hid h1
  have HT := Lib.hid hth
  have hl := h.lt
  have H := Lib.hid h
  have htl := h.grid.row.lt
  have hts : ¬ s = t := h.apart.1.2.1
  clear h h1 hth
  go_enter Tryz.func81, Tryz.ntmps81
  go_wp2_with fail
  obtain ⟨W, hW⟩ : ∃ W, W = w.alloc (.cells #[.int .i32 x.g, .int .i64 x.a, .bool x.b, .int .i64 x.m] 36) := ⟨_, rfl⟩
  have k0 : Kept0 w W := by rw [hW]; exact (Kept.refl _ w).alloc _
  have bx : CelAt W w.heap.size x := by rw [hW]; exact CelAt.new _ _ _
  rw [← hW]
  clear hW
  have KK := Lib.hid k0
  have HW := Lib.hid (H.out.kept0 k0)
  have htW : t < W.heap.size := Nat.lt_of_lt_of_le htl k0.size
  clear k0
  have c0 := fun w' (k : Kept (· = t) W w') => kcellS k HW.out.c0 hts
  have c1 := fun w' (k : Kept (· = t) W w') => kcellS k HW.out.c1 hts
  have c2 := fun w' (k : Kept (· = t) W w') => kcellS k HW.out.c2 hts
  have c3 := fun w' (k : Kept (· = t) W w') => kcellS k HW.out.c3 hts
  have x0 := fun w' (k : Kept (· = t) W w') => kcellS k bx.c0 (by omega)
  have x1 := fun w' (k : Kept (· = t) W w') => kcellS k bx.c1 (by omega)
  have x2 := fun w' (k : Kept (· = t) W w') => kcellS k bx.c2 (by omega)
  have x3 := fun w' (k : Kept (· = t) W w') => kcellS k bx.c3 (by omega)
  clear bx
  go_region_held3 (fun w' => Kept (· = t) W w') (repeat (first | assumption | exact Kept.refl _ _ | refine Kept.drew ?_ | refine Kept.alloc ?_ _ | refine Kept.setCell ?_ _ (Or.inl (by first | exact Nat.le_refl _ | assumption)) _))
    (first
      | (go_at_call 116; refine (HP.out _ (HW.out.grid.kept (by first | exact (Kept.refl (fun _ => False) _).drew | exact ((Kept.refl (fun _ => False) _).alloc _).drew) (fun e => e) (fun e => e))).mono ?_; rintro e w3 ⟨rfl, hg3, hk3⟩; have ka : Kept (· = t) W w3 := by first | exact (Kept.refl _ W).drew.trans hk3 | exact ((Kept.refl _ W).alloc _).drew.trans hk3
         have kz : W.heap.size ≤ w3.heap.size := ka.size
         have HG := Lib.hid hg3
         clear hg3
         try (have hn8 := (three_newED W 83).kept hk3 (by omega); obtain ⟨a0, a1, a2, a3, a4, a5⟩ := hn8)))
  all_goals
    first
      | (have hT : Three (((w3.setCell ⟨W.heap.size, 0, none⟩ (.int .i64 p)).setCell ⟨W.heap.size, 1, none⟩ (.int .i64 q)).setCell ⟨W.heap.size, 2, none⟩ (.bool false)) W.heap.size p q false := ⟨by simp [go_sem, a0], by simp [go_sem, a1], by simp [go_sem, a2], by simp [go_sem, a3], by simp [go_sem, a4], by simp [go_sem, a5]⟩
         have kV : Kept (· = t) W (((w3.setCell ⟨W.heap.size, 0, none⟩ (.int .i64 p)).setCell ⟨W.heap.size, 1, none⟩ (.int .i64 q)).setCell ⟨W.heap.size, 2, none⟩ (.bool false)) := ((ka.setCell _ (Or.inl (Nat.le_refl _)) _).setCell _ (Or.inl (Nat.le_refl _)) _).setCell _ (Or.inl (Nat.le_refl _)) _
         have hgV : RefAt (((w3.setCell ⟨W.heap.size, 0, none⟩ (.int .i64 p)).setCell ⟨W.heap.size, 1, none⟩ (.int .i64 q)).setCell ⟨W.heap.size, 2, none⟩ (.bool false)) g t cap R C F' := HG.out.kept (((((Kept.refl (· = W.heap.size) w3).setCell _ (Or.inr rfl) _).setCell _ (Or.inr rfl) _).setCell _ (Or.inr rfl) _)) (by have := HW.out.grid.lt; omega) (by omega)
         generalize (((w3.setCell ⟨W.heap.size, 0, none⟩ (.int .i64 p)).setCell ⟨W.heap.size, 1, none⟩ (.int .i64 q)).setCell ⟨W.heap.size, 2, none⟩ (.bool false)) = V at hT kV hgV ⊢)
      | (have hT : Three (w3.alloc (.cells #[.int .i64 p, .int .i64 q, .bool false] 83)) w3.heap.size p q false := Three.of (heap_new _ _)
         have kV : Kept (· = t) W (w3.alloc (.cells #[.int .i64 p, .int .i64 q, .bool false] 83)) := ka.alloc _
         have hgV : RefAt (w3.alloc (.cells #[.int .i64 p, .int .i64 q, .bool false] 83)) g t cap R C F' := HG.out.kept ((Kept.refl (fun _ => False) w3).alloc _) (fun e => e) (fun e => e)
         generalize (w3.alloc (.cells #[.int .i64 p, .int .i64 q, .bool false] 83)) = V at hT kV hgV ⊢
         generalize w3.heap.size = b6 at hT kz ⊢)
    obtain ⟨q0, q1, q2, _, _, _⟩ := hT
    have KV := Lib.hid kV
    have HS := Lib.hid (HW.out.onGrid kV hgV)
    clear kV hgV c0 c1 c2 c3 x0 x1 x2 x3
    have z1 := HS.out.c1
    have z2 := HS.out.c2
    have z3 := HS.out.c3
    have f1 := HS.out.fz 1
    have f2 := HS.out.fz 2
    have f3 := HS.out.fz 3
    by_cases hE : E = 0
    · have HE := Lib.hid hE
      have hEb : (E == 0) = true := by simpa using hE
      have hEd : decide (E = 0) = true := by simpa using hE
      clear hE
      go_wp2_with fail
      go_end0
      refine ⟨rfl, HS.out.onPlace (HT.out HE.out), (((KK.out.to.trans KV.out).mono (fun i _ e => Or.inr e)).trans ((RIn.keptPlace _ s _ _ _).mono (fun i _ e => Or.inl e)))⟩
    · have HE := Lib.hid hE
      have hEb : (E == 0) = false := by simpa using hE
      have hEd : decide (E = 0) = false := by simpa using hE
      clear hE
      go_wp2_with fail
      go_end0
      exact ⟨rfl, HS.out, ((KK.out.to.trans KV.out).mono (fun i _ e => Or.inr e))⟩

end Go.Proofs.YtkpfhgfdfndliaaGreatDoor

namespace Go.Proofs.YtkpfhgfdfndliaaGreatDoor
open Go.RowKit

theorem rput_any {s g t cap tb m R C : Nat} {F : Nat → Cel} {S : Nat → Bool} {r c : Int} {b : Bool} (x : Cel) (k : Int) (v : Bool) (w : World) (h : RIn w s g t cap tb m R C F S r c b) :
    Calls Tryz.prog 81 #[ptr s, x.v, .int .i64 k, .bool v] w fun e w' => e = .returned (.tuple #[]) ∧ RIn w' s g t cap tb m R C (sputF R C F r c b x k v) S (sputR R C F r c b x k v) (sputC R C F r c b x k v) (sputB R C F r c b k v) ∧ Kept (fun i => i = s ∨ i = t) w w' := by
  have hR := h.grid.R1
  have hC := h.grid.C1
  cases v
  · have := rput_free x k w h
    simpa [sputF, sputR, sputC, sputB] using this
  · obtain ⟨o, ho⟩ : ∃ o, o = sputO R C F r c := ⟨_, rfl⟩
    unfold sputF sputR sputC sputB
    rw [← ho]
    simp only [if_true]
    have hg := fun w' hg => guardR_any g t cap R C F r c b x w' hg o ho
    cases o with
    | some j =>
      simp only [Option.isSome_some, if_true]
      have := rput_guard x k _ _ _ w h hg (fun _ => gd_there hR hC rfl)
      refine this.mono ?_
      rintro e w' ⟨a1, a2, a3⟩
      rw [if_pos (show gdE (some j) = 0 from rfl)] at a2
      exact ⟨a1, a2, a3⟩
    | none =>
      simp only [Option.isSome_none, Bool.false_eq_true, if_false]
      have := rput_guard x k _ _ _ w h hg (fun e => by simp [gdE] at e)
      refine this.mono ?_
      rintro e w' ⟨a1, a2, a3⟩
      rw [if_neg (show ¬ gdE none = 0 by simp [gdE])] at a2
      exact ⟨a1, a2, a3⟩
end Go.Proofs.YtkpfhgfdfndliaaGreatDoor
