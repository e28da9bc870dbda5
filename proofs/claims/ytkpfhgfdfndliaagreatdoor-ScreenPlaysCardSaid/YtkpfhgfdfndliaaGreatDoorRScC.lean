/-
  The document's screen: Tab, Free.
-/
import Derived.Test.YtkpfhgfdfndliaaGreatDoorRScA
namespace Go.Proofs.YtkpfhgfdfndliaaGreatDoor
open Go.RowKit

set_option maxRecDepth 100000 in
set_option maxHeartbeats 2000000 in
theorem rtab_any {s g t cap tb m R C : Nat} {F : Nat → Cel} {S : Nat → Bool} {r c : Int} {b : Bool} (n : Int) (w : World) (h : RIn w s g t cap tb m R C F S r c b) (h0 : ¬ n = 0) :
    Calls Tryz.prog 47 #[ptr s, .int .i64 n] w fun e w' => e = .returned (.tuple #[]) ∧ RIn w' s g t cap tb m R C F S r (Tb.goN C S c n) false ∧ Kept (· = s) w w' := by
  have HT := Lib.hid (fun w' (k : Kept0 w w') => Tb.refGo_any tb m C S c n w' (h.tabs.kept0 k))
  have c1 := h.c1
  have c2 := h.c2
  have c4 := h.c4
  have H := Lib.hid h
  have HTH : Hid (There R C r (Tb.goN C S c n)) := ⟨h.there.1, h.there.2.1, (Tb.go_in C S c n h.tabs.N1).1, (Tb.go_in C S c n h.tabs.N1).2⟩
  clear h
  go_enter Tryz.func47, Tryz.ntmps47
  go_wp2_with fail
  go_region_with
    (first
      | (go_at_call 89; refine (HT.out _ (Kept.refl _ w).drew).mono ?_; rintro e w3 ⟨rfl, hk3⟩; have ka : Hid (Kept0 w w3) := hk3 ▸ (Kept.refl _ w).drew; have HS := Lib.hid (H.out.kept0 ka.out); have z1 := HS.out.c1; have z2 := HS.out.c2; have z3 := HS.out.c3; have z4 := HS.out.c4; have f1 := HS.out.fz 1; have f2 := HS.out.fz 2; have f3 := HS.out.fz 3; clear hk3))
  all_goals
    go_end0
    exact ⟨rfl, HS.out.onPlace HTH.out, ka.out.to.trans (RIn.keptPlace _ s _ _ false)⟩

theorem rtab_zero (s : Nat) (w : World) : Calls Tryz.prog 47 #[ptr s, .int .i64 0] w fun e w' => e = .returned (.tuple #[]) ∧ Kept0 w w' := by
  go_enter Tryz.func47, Tryz.ntmps47
  go_wp2_with fail
  go_end0
  exact ⟨rfl, Kept.refl _ _⟩

set_option maxRecDepth 100000 in
set_option maxHeartbeats 2000000 in
theorem rfree_core {s g t cap tb m R C : Nat} {F : Nat → Cel} {S : Nat → Bool} {r c : Int} {b : Bool} (v : Bool) (p q : Int) (u : Bool) (w : World) (h : RIn w s g t cap tb m R C F S r c b)
    (h1 : ∀ w', Kept0 w w' → Calls Tryz.prog 91 #[ptr g, pos r c, .bool v] w' fun e w'' => e = .returned (.tuple #[pos p q, .bool u]) ∧ Kept0 w' w'') (hth : u = true → There R C p q) :
    Calls Tryz.prog 50 #[ptr s, .bool v] w fun e w' => e = .returned (.bool u) ∧ (if u = true then RIn w' s g t cap tb m R C F S p q false else RIn w' s g t cap tb m R C F S r c b) ∧ Kept (· = s) w w' := by
  have H1 := Lib.hid h1
  have HTH := Lib.hid hth
  have c0 := h.c0
  have c1 := h.c1
  have c2 := h.c2
  have H := Lib.hid h
  have hl := h.lt
  clear h h1 hth
  go_enter Tryz.func50, Tryz.ntmps50
  go_wp2_with fail
  have c0 := fun w' (k : Kept0 w w') => kcell k c0
  have c1 := fun w' (k : Kept0 w w') => kcell k c1
  have c2 := fun w' (k : Kept0 w w') => kcell k c2
  go_region_held3 (fun w' => Kept0 w w') (repeat (first | assumption | exact Kept.refl _ _ | refine Kept.drew ?_ | refine Kept.alloc ?_ _ | refine Kept.setCell ?_ _ (Or.inl (by first | exact Nat.le_refl _ | assumption)) _))
    (first
      | (go_at_call 91; refine (H1.out _ (by first | exact (Kept.refl _ _).drew | exact ((Kept.refl _ _).alloc _).drew)).mono ?_; rintro e w3 ⟨rfl, hk3⟩; have ka : Kept0 w w3 := by first | exact (Kept.refl _ w).drew.trans hk3 | exact ((Kept.refl _ w).alloc _).drew.trans hk3
         have kz : w.heap.size ≤ w3.heap.size := ka.size
         try (have hn8 := (two_newE w 40).kept0 hk3; obtain ⟨a0, a1, a2, a3⟩ := hn8)))
  all_goals
    first
      | (have hT : Two ((w3.setCell ⟨w.heap.size, 0, none⟩ (.int .i64 p)).setCell ⟨w.heap.size, 1, none⟩ (.int .i64 q)) w.heap.size p q := ⟨by simp [go_sem, a0], by simp [go_sem, a1], by simp [go_sem, a2], by simp [go_sem, a3]⟩
         have kV : Kept0 w ((w3.setCell ⟨w.heap.size, 0, none⟩ (.int .i64 p)).setCell ⟨w.heap.size, 1, none⟩ (.int .i64 q)) := (ka.setCell _ (Or.inl (Nat.le_refl _)) _).setCell _ (Or.inl (Nat.le_refl _)) _
         generalize ((w3.setCell ⟨w.heap.size, 0, none⟩ (.int .i64 p)).setCell ⟨w.heap.size, 1, none⟩ (.int .i64 q)) = V at hT kV ⊢)
      | (have hT : Two (w3.alloc (.cells #[.int .i64 p, .int .i64 q] 40)) w3.heap.size p q := Two.of (heap_new _ _)
         have kV : Kept0 w (w3.alloc (.cells #[.int .i64 p, .int .i64 q] 40)) := ka.alloc _
         generalize (w3.alloc (.cells #[.int .i64 p, .int .i64 q] 40)) = V at hT kV ⊢
         generalize w3.heap.size = b6 at hT kz ⊢)
    obtain ⟨q0, q1, _, _⟩ := hT
    have KV := Lib.hid kV
    clear kV c0 c1 c2
    have HS := Lib.hid (H.out.kept0 KV.out)
    have z1 := HS.out.c1
    have z2 := HS.out.c2
    have z3 := HS.out.c3
    have f1 := HS.out.fz 1
    have f2 := HS.out.fz 2
    have f3 := HS.out.fz 3
    cases u
    · go_wp2_with fail
      go_ret
      exact ⟨rfl, HS.out, Kept0.to KV.out⟩
    · go_wp2_with fail
      go_ret
      exact ⟨rfl, HS.out.onPlace (HTH.out trivial), KV.out.to.trans (RIn.keptPlace _ s _ _ false)⟩

theorem rfree_any {s g t cap tb m R C : Nat} {F : Nat → Cel} {S : Nat → Bool} {r c : Int} {b : Bool} (v : Bool) (w : World) (h : RIn w s g t cap tb m R C F S r c b) :
    Calls Tryz.prog 50 #[ptr s, .bool v] w fun e w' => e = .returned (.bool (freeO R C F r c v).isSome) ∧ RIn w' s g t cap tb m R C F S (frR R C F r c v) (frC R C F r c v) (frB R C F r c b v) ∧ Kept (· = s) w w' := by
  refine (rfree_core v (oR C (freeO R C F r c v)) (oC C (freeO R C F r c v)) (freeO R C F r c v).isSome w h (fun w' k => freeR g t cap R C F r c v w' (h.grid.kept k (fun e => e) (fun e => e))) (fun hv => ?_)).mono ?_
  · cases ho : freeO R C F r c v with
    | none => rw [ho] at hv; simp at hv
    | some k =>
      obtain ⟨hk, _⟩ := freeK_some ho
      exact there_row_col hk h.grid.C1
  rintro e w' ⟨rfl, h1, h2⟩
  refine ⟨rfl, ?_, h2⟩
  unfold frR frC frB
  cases ho : freeO R C F r c v with
  | none =>
    rw [ho] at h1
    simpa using h1
  | some k =>
    rw [ho] at h1
    simp only [Option.isSome_some, if_true] at h1
    exact h1
end Go.Proofs.YtkpfhgfdfndliaaGreatDoor
