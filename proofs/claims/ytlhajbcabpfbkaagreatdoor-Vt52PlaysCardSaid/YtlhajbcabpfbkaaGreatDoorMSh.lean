/-
  Texts merged: ShSlide ShFree ShTurn ShShifts ShAnys.
-/
import Derived.Test.YtlhajbcabpfbkaaGreatDoorMGo
import Derived.ScopeJumps
import Derived.WalkMore
/-
  What Slide does.
-/
namespace Go.Proofs.YtlhajbcabpfbkaaGreatDoor
namespace Sh
open Go.RowKit





theorem roll_nil (r r' n : Int) (x : Cel) (w : World) :
    Calls Tryz.prog 114 #[.pointer none, .int .i64 r, .int .i64 r', .int .i64 n, (.agg #[.int .i32 x.g, .int .i64 x.a, .bool x.b, .int .i64 x.m])] w fun e w' => e = .returned (.int .i64 2) ∧ Kept0 w w' := by
  have hfld : ∀ w, (Instr.field 23 (.agg #[.int .i64 0, .int .i64 0]) 1).run Tryz.prog w = .ok (.int .i64 0) w := fun _ => by kernel_rfl
  go_enter Tryz.func114, Tryz.ntmps114
  go_wp2_with fail
  have k0 : Kept0 w (w.alloc (.cells #[.int .i32 x.g, .int .i64 x.a, .bool x.b, .int .i64 x.m] 52)) := (Kept.refl _ w).alloc _
  refine (size_nil _).mono ?_
  rintro e w0 ⟨rfl, hk0⟩
  go_wp2_with fail
  refine (run_nil _ _ _ _ _).mono ?_
  rintro e w1 ⟨rfl, hk1⟩
  go_wp2_with fail
  go_ret
  exact ⟨rfl, (k0.trans hk0).trans hk1⟩


end Sh
end Go.Proofs.YtlhajbcabpfbkaaGreatDoor

/-
  What the small calls of package shift do: free, opposite, the run of a field.
-/
namespace Go.Proofs.YtlhajbcabpfbkaaGreatDoor
namespace Sh
open Go.RowKit

/-- Why a cell is none of a field. -/
def freeE (R C : Nat) (f : Nat → Cel) (r c : Int) : Int := if 0 ≤ r ∧ r < R ∧ 0 ≤ c ∧ c < C then (if (f (idx C r c)).b = true then 15 else 0) else 11




/-- A number as far to the other side of 0. -/
def opp (n : Int) : Int := -(max n (-9223372036854775807))


/-- The first, and the last, of a run of numbers of which none is taken. -/
def lo (p : Nat → Bool) : Nat → Nat
  | 0 => 0
  | c + 1 => if p c = true then c + 1 else lo p c
def hi (p : Nat → Bool) : Nat → Nat → Nat
  | 0, c => c
  | n + 1, c => if p (c + 1) = true then c else hi p n (c + 1)
theorem lo_le (p : Nat → Bool) : ∀ c, lo p c ≤ c
  | 0 => Nat.le_refl _
  | c + 1 => by
    unfold lo
    split
    · exact Nat.le_refl _
    · exact Nat.le_trans (lo_le p c) (by omega)
theorem hi_le (p : Nat → Bool) : ∀ n c, c ≤ hi p n c ∧ hi p n c ≤ c + n
  | 0, c => ⟨Nat.le_refl _, Nat.le_refl _⟩
  | n + 1, c => by
    unfold hi
    split
    · exact ⟨Nat.le_refl _, by omega⟩
    · have := hi_le p n (c + 1)
      exact ⟨by omega, by omega⟩

/-- Whether a column of a row is guarded. -/
def gd (C : Nat) (f : Nat → Cel) (r : Nat) (c : Nat) : Bool := (f (r * C + c)).b

theorem freeE_at (R C : Nat) (f : Nat → Cel) (r c : Nat) (hr : r < R) (hc : c < C) : freeE R C f (r : Int) (c : Int) = if gd C f r c = true then 15 else 0 := by
  unfold freeE
  rw [if_pos ⟨by omega, by omega, by omega, by omega⟩]
  have e : idx C (r : Int) (c : Int) = r * C + c := by simp [idx]
  rw [e]
  rfl


/-- The run of columns around a place, to both sides. -/
def side (C : Nat) (f : Nat → Cel) (r c : Nat) (s : Int) : Int := if s = 1 then (hi (gd C f r) (C - 1 - c) c : Int) else (lo (gd C f r) c : Int)





end Sh
end Go.Proofs.YtlhajbcabpfbkaaGreatDoor

/-
  What Guarded, Up, Lines and Chars of package shift do.
-/
namespace Go.Proofs.YtlhajbcabpfbkaaGreatDoor
namespace Sh
open Go.RowKit

/-- How many of n cells are guarded, from one on. -/
def cnt (f : Nat → Cel) (a : Nat) : Nat → Nat
  | 0 => 0
  | n + 1 => cnt f a n + (if (f (a + n)).b = true then 1 else 0)
theorem cnt_le (f : Nat → Cel) (a : Nat) : ∀ n, cnt f a n ≤ n
  | 0 => Nat.le_refl _
  | n + 1 => by
    have := cnt_le f a n
    unfold cnt
    split <;> omega



end Sh
end Go.Proofs.YtlhajbcabpfbkaaGreatDoor

/-
  What Up, Lines and Chars of package shift do.
-/
namespace Go.Proofs.YtlhajbcabpfbkaaGreatDoor
namespace Sh
open Go.RowKit






end Sh
end Go.Proofs.YtlhajbcabpfbkaaGreatDoor

/-
  What Up, Lines and Chars of package shift come to, over all that they may be called with.
-/
namespace Go.Proofs.YtlhajbcabpfbkaaGreatDoor
namespace Sh
open Go.RowKit




def linesE (R : Nat) (r : Int) : Int := if 0 ≤ r ∧ r < R then 0 else 11
/-- Lines at a row, n of them. -/
def linesF (R C : Nat) (f : Nat → Cel) (r n : Int) (x : Cel) (b : Bool) : Nat → Cel :=
  if (0 ≤ r ∧ r < R) ∧ (b = true → cnt f (r.toNat * C) ((R - r.toNat) * C) = 0) then moveF f (r.toNat * C) ((R - r.toNat) * C) (opp n * C) x else f
def charsE (R C : Nat) (r c : Int) : Int := if 0 ≤ r ∧ r < R ∧ 0 ≤ c ∧ c < C then 0 else 11
/-- The last column that is moved. -/
def lastC (C : Nat) (f : Nat → Cel) (r c : Nat) (b : Bool) : Nat := if b = true then hi (gd C f r) (C - 1 - c) c else C - 1
/-- Cells at a place, n of them. -/
def charsF (R C : Nat) (f : Nat → Cel) (r c n : Int) (x : Cel) (b : Bool) : Nat → Cel :=
  if (0 ≤ r ∧ r < R ∧ 0 ≤ c ∧ c < C) ∧ ¬ (b = true ∧ gd C f r.toNat c.toNat = true) then moveF f (idx C r c) (lastC C f r.toNat c.toNat b + 1 - c.toNat) (opp n) x else f




/-- Of a nil grid. -/
theorem up_nil (n : Int) (x : Cel) (w : World) : Calls Tryz.prog 107 #[.pointer none, .int .i64 n, x.v] w fun e w' => e = .returned (.int .i64 2) ∧ Kept0 w w' :=
  up_core (fun _ => False) _ _ 0 0 n 2 x w (fun k e => e.elim) ⟨by omega, by omega⟩ (fun w' _ => size_nil w') (fun w' k => (roll_nil 0 (0 - 1) n x w').mono (by
    rintro e w2 ⟨rfl, k2⟩
    exact ⟨rfl, k.trans k2, k2⟩))
end Sh
end Go.Proofs.YtlhajbcabpfbkaaGreatDoor
