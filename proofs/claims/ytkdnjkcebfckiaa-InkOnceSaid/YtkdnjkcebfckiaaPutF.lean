/-
  Ahead, Behind, and the lines that go up, in plain numbers and cells; lift.
-/
import Derived.Test.YtkdnjkcebfckiaaRound
import Derived.Test.YtkdnjkcebfckiaaBehind
namespace Go.Proofs.Ytkdnjkcebfckiaa
open Go.RowKit

/-- Where a glyph is to be put, and whether the lines go up ahead of it. -/
def aR (R : Nat) (r : Int) (b : Bool) : Int := if b = true then nextR R (nr r R) else nr r R
def aC (C : Nat) (c : Int) (b : Bool) : Int := if b = true then 0 else nr c C
def aU (R : Nat) (r : Int) (b : Bool) : Bool := b && (nr r R == (R : Int) - 1)
/-- Where the cursor is behind it, and whether the lines go up. -/
def bR (R C : Nat) (p q k : Int) : Int := if q < (C : Int) - 1 then p else if k = 1 then p else if k = 2 then nextR R p else p
def bC (C : Nat) (q k : Int) : Int := if q < (C : Int) - 1 then q + 1 else if k = 1 then q else if k = 2 then 0 else q
def bP (C : Nat) (q k : Int) : Bool := if q < (C : Int) - 1 then false else if k = 1 then false else if k = 2 then false else true
def bU (R C : Nat) (p q k : Int) : Bool := if q < (C : Int) - 1 then false else if k = 1 then false else if k = 2 then (p == (R : Int) - 1) else false

theorem next_in {R : Nat} {r : Int} (hR : 1 ≤ R) : 0 ≤ nextR R (nr r R) ∧ nextR R (nr r R) < R := by
  have h1 := nr_lo r R
  have h2 := nr_hi r R (by omega)
  unfold nextR
  split <;> omega
theorem a_there {R C : Nat} {r c : Int} {b : Bool} (hR : 1 ≤ R) (hC : 1 ≤ C) : There R C (aR R r b) (aC C c b) := by
  have h1 := st_there (r := r) (c := c) hR hC
  have h2 := next_in (r := r) hR
  unfold aR aC
  cases b
  · exact h1
  · exact ⟨h2.1, h2.2, by simp, by simp; omega⟩

theorem ahead_any' (R C : Nat) (r c : Int) (b : Bool) (w : World) (h1 : 1 ≤ R) (h2 : R ≤ 255) (h3 : 1 ≤ C) (h4 : C ≤ 255) :
    Calls Try.prog 31 #[pos R C, place r c b] w fun e w' => e = .returned (.tuple #[pos (aR R r b) (aC C c b), .bool (aU R r b)]) ∧ Kept0 w w' := by
  have hm := may_nat h1 h2 h3 h4
  cases b
  · have := ahead_plain (R : Int) (C : Int) r c w
    rw [show nearR (R : Int) (C : Int) r = nr r R from if_pos hm, show nearC (R : Int) (C : Int) c = nr c C from if_pos hm] at this
    exact this
  · have := ahead_pend (R : Int) (C : Int) r c hm w
    simpa [aR, aC, aU] using this

theorem behind_any' (R C : Nat) (p q k : Int) (w : World) (h1 : 1 ≤ R) (h2 : R ≤ 255) (h3 : 1 ≤ C) (h4 : C ≤ 255) (hth : There R C p q) :
    Calls Try.prog 37 #[pos R C, pos p q, .int .i64 k] w fun e w' => e = .returned (.tuple #[place (bR R C p q k) (bC C q k) (bP C q k), .bool (bU R C p q k)]) ∧ Kept0 w w' := by
  have hm := may_nat h1 h2 h3 h4
  have e1 : nr p R = p := nr_in _ _ hth.1 hth.2.1
  have e2 : nr q C = q := nr_in _ _ hth.2.2.1 hth.2.2.2
  have := behind_core (R : Int) (C : Int) p q k hm (decide (nr q C < (C : Int) - 1)) (k == 1) (k == 2) rfl rfl rfl w
  rw [e1, e2] at this
  have hv : behindV (R : Int) p q (decide (q < (C : Int) - 1)) (k == 1) (k == 2) = .tuple #[place (bR R C p q k) (bC C q k) (bP C q k), .bool (bU R C p q k)] := by
    unfold behindV bR bC bP bU
    by_cases g1 : q < (C : Int) - 1
    · simp [g1]
    · by_cases g2 : k = 1
      · simp [g1, g2]
      · by_cases g3 : k = 2
        · simp [g1, g3]
        · simp [g1, g2, g3]
  rw [hv] at this
  exact this

/-- The lines, gone up if they are to. -/
def liftF (R C : Nat) (f : Nat → Cel) (u : Bool) (x : Cel) : Nat → Cel := if u = true then upF R C f 1 x else f
def liftN (u : Bool) : Int := if u = true then 1 else 0
theorem liftN_in (u : Bool) : 0 ≤ liftN u ∧ liftN u ≤ 1 := by unfold liftN; split <;> omega

set_option maxHeartbeats 400000 in
theorem lift_any (g t cap R C : Nat) (f : Nat → Cel) (u : Bool) (x : Cel) (w : World) (hg : GridAt w g t cap R C f) :
    Calls Try.prog 36 #[.pointer (some ⟨g, 0, none⟩), .bool u, x.v] w fun e w' => e = .returned (.int .i64 (liftN u)) ∧ GridAt w' g t cap R C (liftF R C f u x) ∧ Kept (· = t) w w' := by
  have k0 : Kept0 w (w.alloc (.cells #[.int .i32 x.g, .int .i64 x.a, .bool x.b, .int .i64 x.m] 36)) := (Kept.refl _ w).alloc _
  have HU : Hid (Calls Try.prog 55 #[.pointer (some ⟨g, 0, none⟩), .int .i64 1, x.v] (w.alloc (.cells #[.int .i32 x.g, .int .i64 x.a, .bool x.b, .int .i64 x.m] 36)) fun e w' => e = .returned (.int .i64 0) ∧ GridAt w' g t cap R C (upF R C f 1 x) ∧ Kept (· = t) (w.alloc (.cells #[.int .i32 x.g, .int .i64 x.a, .bool x.b, .int .i64 x.m] 36)) w') :=
    up_any g t cap R C f 1 x _ (hg.kept k0 (fun e => e) (fun e => e))
  have HG := Lib.hid hg
  clear hg
  cases u
  · go_enter Try.func36, Try.ntmps36
    go_wp2_with fail
    go_ret
    exact ⟨rfl, HG.out.kept k0 (fun e => e) (fun e => e), k0.to⟩
  · go_enter Try.func36, Try.ntmps36
    go_wp2_with fail
    refine HU.out.mono ?_
    rintro e w1 ⟨rfl, h1, k1⟩
    go_wp2_with fail
    go_ret
    exact ⟨rfl, h1, k0.to.trans k1⟩

/-- What Put comes to. -/
def putF (R C : Nat) (f : Nat → Cel) (r c : Int) (b : Bool) (x : Cel) (k : Int) (bl : Cel) : Nat → Cel :=
  liftF R C (upd (liftF R C f (aU R r b) bl) (idx C (aR R r b) (aC C c b)) x) (bU R C (aR R r b) (aC C c b) k) bl
def putN (R C : Nat) (r c : Int) (b : Bool) (k : Int) : Int := liftN (aU R r b) + liftN (bU R C (aR R r b) (aC C c b) k)
def putR (R C : Nat) (r c : Int) (b : Bool) (k : Int) : Int := bR R C (aR R r b) (aC C c b) k
def putC (C : Nat) (c : Int) (b : Bool) (k : Int) : Int := bC C (aC C c b) k
def putP (C : Nat) (c : Int) (b : Bool) (k : Int) : Bool := bP C (aC C c b) k
theorem putN_in (R C : Nat) (r c : Int) (b : Bool) (k : Int) : 0 ≤ putN R C r c b k ∧ putN R C r c b k ≤ 2 := by
  have h1 := liftN_in (aU R r b)
  have h2 := liftN_in (bU R C (aR R r b) (aC C c b) k)
  unfold putN; omega

end Go.Proofs.Ytkdnjkcebfckiaa
