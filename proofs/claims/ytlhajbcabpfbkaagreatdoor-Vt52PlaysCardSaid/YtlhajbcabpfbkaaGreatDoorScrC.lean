/-
  Calls of a screen: Wipe, Part, Tab, Free.
-/
import Derived.Test.YtlhajbcabpfbkaaGreatDoorMSc
import Derived.Test.YtlhajbcabpfbkaaGreatDoorMWp
import Derived.Test.YtlhajbcabpfbkaaGreatDoorMFr
import Derived.Test.YtlhajbcabpfbkaaGreatDoorMTb
namespace Go.Proofs.YtlhajbcabpfbkaaGreatDoor
open Go.RowKit

theorem near_nr {R C : Nat} (h1 : 1 ≤ R) (h2 : R ≤ 255) (h3 : 1 ≤ C) (h4 : C ≤ 255) (r c : Int) (w : World) :
    Calls Tryz.prog 38 #[pos R C, pos r c] w fun e w' => e = .returned (pos (nr r R) (nr c C)) ∧ Kept0 w w' := by
  have := near_any (R : Int) (C : Int) r c w
  rwa [show nearR (R : Int) (C : Int) r = nr r R from if_pos (may_of h1 h2 h3 h4), show nearC (R : Int) (C : Int) c = nr c C from if_pos (may_of h1 h2 h3 h4)] at this

/-- What is wiped. -/
def swipeF (R C : Nat) (F : Nat → Cel) (p q p' q' : Int) (x : Cel) (v : Bool) : Nat → Cel := Wp.wipeF R C F (Wp.one v (fun _ => x)) (nr p R) (nr q C) (nr p' R) (nr q' C)

set_option maxRecDepth 100000 in
set_option maxHeartbeats 1000000 in
theorem swipe_any {s g t cap tb m R C : Nat} {F : Nat → Cel} {S : Nat → Bool} {r c : Int} {b : Bool} (p q p' q' : Int) (x : Cel) (v : Bool) (w : World) (h : ScrIn w s g t cap tb m R C F S r c b) :
    Calls Tryz.prog 40 #[ptr s, pos p q, pos p' q', x.v, .bool v] w fun e w' => e = .returned (.tuple #[]) ∧ ScrIn w' s g t cap tb m R C (swipeF R C F p q p' q' x v) S r c b ∧ Kept (· = t) w w' := by
  have HN := Lib.hid (near_nr h.grid.R1 h.grid.R2 h.grid.C1 h.grid.C2)
  have HW := Lib.hid (fun w' (k : Kept0 w w') => Wp.wipe_any g t cap R C F (nr p R) (nr q C) (nr p' R) (nr q' C) x v w' (h.grid.kept k (fun e => e) (fun e => e)))
  have hts : ¬ s = t := h.apart.1.2.1
  have htl := h.grid.row.lt
  have hl := h.lt
  have c3 := h.c3
  have H := Lib.hid h
  clear h
  go_enter Tryz.func40, Tryz.ntmps40
  go_wp2_with fail
  obtain ⟨W, hW⟩ : ∃ W, W = ((((w.alloc (.cells #[.int .i64 p, .int .i64 q] 45)).alloc (.cells #[.int .i64 p', .int .i64 q'] 45)).alloc (.cells #[.int .i32 x.g, .int .i64 x.a, .bool x.b, .int .i64 x.m] 52))) := ⟨_, rfl⟩
  have k0 : Kept0 w W := by rw [hW]; exact (((Kept.refl _ w).alloc _).alloc _).alloc _
  have b00 : W.cell? ⟨w.heap.size, 0, none⟩ = some (.int .i64 p) := by rw [hW]; simp [go_sem]
  have b01 : W.cell? ⟨w.heap.size, 1, none⟩ = some (.int .i64 q) := by rw [hW]; simp [go_sem]
  have b10 : W.cell? ⟨w.heap.size + 1, 0, none⟩ = some (.int .i64 p') := by rw [hW]; simp [go_sem]
  have b11 : W.cell? ⟨w.heap.size + 1, 1, none⟩ = some (.int .i64 q') := by rw [hW]; simp [go_sem]
  have b20 : W.cell? ⟨w.heap.size + 1 + 1, 0, none⟩ = some (.int .i32 x.g) := by rw [hW]; simp [go_sem]
  have b21 : W.cell? ⟨w.heap.size + 1 + 1, 1, none⟩ = some (.int .i64 x.a) := by rw [hW]; simp [go_sem]
  have b22 : W.cell? ⟨w.heap.size + 1 + 1, 2, none⟩ = some (.bool x.b) := by rw [hW]; simp [go_sem]
  have b23 : W.cell? ⟨w.heap.size + 1 + 1, 3, none⟩ = some (.int .i64 x.m) := by rw [hW]; simp [go_sem]
  rw [← hW]
  clear hW
  refine (ssize_any _ (H.out.kept0 k0)).mono ?_
  rintro e w1 ⟨rfl, hk1⟩
  replace c3 := kcell (k0.trans hk1) c3
  replace b00 := kcell hk1 b00
  replace b01 := kcell hk1 b01
  replace b10 := kcell hk1 b10
  replace b11 := kcell hk1 b11
  replace b20 := kcell hk1 b20
  replace b21 := kcell hk1 b21
  replace b22 := kcell hk1 b22
  replace b23 := kcell hk1 b23
  have k1 : Kept0 w w1 := k0.trans hk1
  clear k0 hk1
  go_wp2_with fail
  obtain ⟨X, hX⟩ : ∃ X, X = w1.alloc (Obj.cells #[Value.int IntKind.i64 ↑R, Value.int IntKind.i64 ↑C] 23) := ⟨_, rfl⟩
  have kX : Kept0 w1 X := by rw [hX]; exact (Kept.refl _ _).alloc _
  have z2 : Two X w1.heap.size R C := by rw [hX]; exact Two.of (heap_new _ _)
  rw [← hX]
  clear hX
  have KX := Lib.hid (k1.trans kX)
  have htX : t < w1.heap.size := Nat.lt_of_lt_of_le htl k1.size
  have hwt : t < w.heap.size := htl
  have c3 := fun w' (k : Kept (· = t) X w') => kcellS k (kcell kX c3) hts
  have b00 := fun w' (k : Kept (· = t) X w') => kcellS k (kcell kX b00) (by omega)
  have b01 := fun w' (k : Kept (· = t) X w') => kcellS k (kcell kX b01) (by omega)
  have b10 := fun w' (k : Kept (· = t) X w') => kcellS k (kcell kX b10) (by omega)
  have b11 := fun w' (k : Kept (· = t) X w') => kcellS k (kcell kX b11) (by omega)
  have b20 := fun w' (k : Kept (· = t) X w') => kcellS k (kcell kX b20) (by omega)
  have b21 := fun w' (k : Kept (· = t) X w') => kcellS k (kcell kX b21) (by omega)
  have b22 := fun w' (k : Kept (· = t) X w') => kcellS k (kcell kX b22) (by omega)
  have b23 := fun w' (k : Kept (· = t) X w') => kcellS k (kcell kX b23) (by omega)
  have b30 := fun w' (k : Kept (· = t) X w') => kcellS k z2.c0 (by omega)
  have b31 := fun w' (k : Kept (· = t) X w') => kcellS k z2.c1 (by omega)
  clear k1 kX z2
  go_region_held3 (fun w' => Kept (· = t) X w') (repeat (first | assumption | exact Kept.refl _ _ | refine Kept.drew ?_))
    (first
      | (go_at_call 57; refine (HW.out _ (KX.out.trans kb.out)).mono ?_; rintro e w4 ⟨rfl, hg4, hk4⟩; have kc : Kept (· = t) X w4 := kb.out.to.trans hk4; have HG := Lib.hid hg4; clear hg4)
      | (go_at_call 38; refine (HN.out _ _ _).mono ?_; rintro e w3 ⟨rfl, hk3⟩; have kb : Hid (Kept0 X w3) := ka.out.trans hk3; have kb' : Kept (· = t) X w3 := kb.out.to)
      | (go_at_call 38; refine (HN.out _ _ _).mono ?_; rintro e w2 ⟨rfl, hk2⟩; have ka : Hid (Kept0 X w2) := (Kept.refl _ X).drew.trans hk2; have ka' : Kept (· = t) X w2 := ka.out.to))
  all_goals
    go_end0
    exact ⟨rfl, (H.out.kept0 KX.out).onGrid kc HG.out, (Kept0.to KX.out).trans kc⟩

theorem two_newE (w : World) (t : TypeId) : Two (w.alloc (.cells #[.int .i64 0, .int .i64 0] t)).drew w.heap.size 0 0 := (Two.of (heap_new w _)).kept0 (Kept.drew (Kept.refl _ _))

/-- Where Free leads. -/
def freeO (R C : Nat) (F : Nat → Cel) (r c : Int) (v : Bool) : Option Nat := freeK (R * C) v (st R C r c) F


/-- Where the cursor is behind Free. -/
def frR (R C : Nat) (F : Nat → Cel) (r c : Int) (v : Bool) : Int := match freeO R C F r c v with | some k => (rowOf C k : Int) | none => r
def frC (R C : Nat) (F : Nat → Cel) (r c : Int) (v : Bool) : Int := match freeO R C F r c v with | some k => (colOf C k : Int) | none => c
def frB (R C : Nat) (F : Nat → Cel) (r c : Int) (b v : Bool) : Bool := match freeO R C F r c v with | some _ => false | none => b

end Go.Proofs.YtlhajbcabpfbkaaGreatDoor
