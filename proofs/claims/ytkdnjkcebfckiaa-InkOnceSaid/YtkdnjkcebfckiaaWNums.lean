/-
  Places as numbers. No program.
-/
import Derived.Test.YtkdnjkcebfckiaaCells
namespace Go.Proofs.Ytkdnjkcebfckiaa
open Go.RowKit

/-- May a size be? -/
def may (R C : Int) : Prop := 1 ≤ R ∧ R ≤ 255 ∧ 1 ≤ C ∧ C ≤ 255
instance (R C : Int) : Decidable (may R C) := inferInstanceAs (Decidable (1 ≤ R ∧ R ≤ 255 ∧ 1 ≤ C ∧ C ≤ 255))
theorem mayEyes {R C : Int} (h : may R C) : mayE R C = 0 := mayE_yes h
theorem mayEno {R C : Int} (h : ¬ may R C) : mayE R C = 10 := mayE_no h

/-- The number nearest to x from 0 to below n. -/
def nr (x n : Int) : Int := max 0 (min x (n - 1))
theorem nr_lo (x n : Int) : 0 ≤ nr x n := by unfold nr; omega
theorem nr_hi (x n : Int) (h : 1 ≤ n) : nr x n < n := by unfold nr; omega
theorem nr_in (x n : Int) (h0 : 0 ≤ x) (h1 : x < n) : nr x n = x := by unfold nr; omega
theorem nr_nr (x n : Int) (h : 1 ≤ n) : nr (nr x n) n = nr x n := nr_in _ _ (nr_lo x n) (nr_hi x n h)

/-- Near, one of the two numbers. -/
def nearR (R C r : Int) : Int := if may R C then nr r R else 0
def nearC (R C c : Int) : Int := if may R C then nr c C else 0
/-- A number that is cut to what can matter. -/
def cut (x m : Int) : Int := max (-m) (min x m)
/-- Step, one of the two numbers. -/
def stepN (x n k : Int) : Int := nr (nr x n + cut k 255) n

/-- Behind the last column: the next row. -/
def nextR (R r : Int) : Int := if R - 1 < r + 1 then R - 1 else r + 1

abbrev pos (r c : Int) : Value := .agg #[.int .i64 r, .int .i64 c]
abbrev place (r c : Int) (b : Bool) : Value := .agg #[.int .i64 r, .int .i64 c, .bool b]

theorem ret_pos {a b c d : Int} (h : a = c) (k : b = d) : Ending.returned (pos a b) = .returned (pos c d) := by rw [h, k]
/-- A block that holds two numbers. -/
structure Two (w : World) (b : Nat) (x y : Int) : Prop where
  c0 : w.cell? ⟨b, 0, none⟩ = some (.int .i64 x)
  c1 : w.cell? ⟨b, 1, none⟩ = some (.int .i64 y)
  f0 : w.frozen? ⟨b, 0, none⟩ = false
  f1 : w.frozen? ⟨b, 1, none⟩ = false
theorem Two.of {w : World} {b : Nat} {x y : Int} {t : TypeId} (h : w.heap[b]? = some (.cells #[.int .i64 x, .int .i64 y] t (0, 0))) : Two w b x y :=
  ⟨by simp [World.cell?, h], by simp [World.cell?, h], by simp [World.frozen?, h], by simp [World.frozen?, h]⟩
theorem Two.lt {w : World} {b : Nat} {x y : Int} (h : Two w b x y) : b < w.heap.size := World.block_lt_of_cell? w _ h.c0
theorem Two.kept {w w' : World} {b : Nat} {x y : Int} (h : Two w b x y) {S : Nat → Prop} (k : Kept S w w') (hs : ¬ S b) : Two w' b x y :=
  ⟨(k.cell h.lt hs).trans h.c0, (k.cell h.lt hs).trans h.c1, (k.frozen h.lt hs).trans h.f0, (k.frozen h.lt hs).trans h.f1⟩
theorem Two.kept0 {w w' : World} {b : Nat} {x y : Int} (h : Two w b x y) (k : Kept0 w w') : Two w' b x y := h.kept k (fun e => e)
theorem Two.set {w : World} {b : Nat} {x y : Int} (h : Two w b x y) (x' y' : Int) : Two ((w.setCell ⟨b, 0, none⟩ (.int .i64 x')).setCell ⟨b, 1, none⟩ (.int .i64 y')) b x' y' :=
  ⟨by simp [go_sem, h.c0], by simp [go_sem, h.c1], by simp [go_sem, h.f0], by simp [go_sem, h.f1]⟩

/-- A block that holds two numbers and a truth. -/
structure Three (w : World) (b : Nat) (x y : Int) (v : Bool) : Prop where
  c0 : w.cell? ⟨b, 0, none⟩ = some (.int .i64 x)
  c1 : w.cell? ⟨b, 1, none⟩ = some (.int .i64 y)
  c2 : w.cell? ⟨b, 2, none⟩ = some (.bool v)
  f0 : w.frozen? ⟨b, 0, none⟩ = false
  f1 : w.frozen? ⟨b, 1, none⟩ = false
  f2 : w.frozen? ⟨b, 2, none⟩ = false
theorem Three.of {w : World} {b : Nat} {x y : Int} {v : Bool} {t : TypeId} (h : w.heap[b]? = some (.cells #[.int .i64 x, .int .i64 y, .bool v] t (0, 0))) : Three w b x y v :=
  ⟨by simp [World.cell?, h], by simp [World.cell?, h], by simp [World.cell?, h], by simp [World.frozen?, h], by simp [World.frozen?, h], by simp [World.frozen?, h]⟩
theorem Three.lt {w : World} {b : Nat} {x y : Int} {v : Bool} (h : Three w b x y v) : b < w.heap.size := World.block_lt_of_cell? w _ h.c0
theorem Three.kept {w w' : World} {b : Nat} {x y : Int} {v : Bool} (h : Three w b x y v) {S : Nat → Prop} (k : Kept S w w') (hs : ¬ S b) : Three w' b x y v :=
  ⟨(k.cell h.lt hs).trans h.c0, (k.cell h.lt hs).trans h.c1, (k.cell h.lt hs).trans h.c2, (k.frozen h.lt hs).trans h.f0, (k.frozen h.lt hs).trans h.f1, (k.frozen h.lt hs).trans h.f2⟩
theorem Three.kept0 {w w' : World} {b : Nat} {x y : Int} {v : Bool} (h : Three w b x y v) (k : Kept0 w w') : Three w' b x y v := h.kept k (fun e => e)

theorem heap_newC (w : World) (o o' o'' : Obj) : (((w.alloc o).alloc o').alloc o'').heap[w.heap.size + 1 + 1]? = some o'' := by
  have := heap_new2 (w.alloc o) o' o''
  rwa [World.size_alloc] at this
theorem heap_old (w : World) (o : Obj) {b : Nat} {x : Obj} (h : w.heap[b]? = some x) : (w.alloc o).heap[b]? = some x := by
  have hb : b < w.heap.size := by
    rcases Nat.lt_or_ge b w.heap.size with h1 | h1
    · exact h1
    · rw [Array.getElem?_eq_none h1] at h; cases h
  rw [Below.heap_alloc _ _ _ hb]; exact h
theorem Kept.setOne (W : World) (b o : Nat) (v : Value) : Kept (· = b) W (W.setCell ⟨b, o, none⟩ v) :=
  Kept.setCell (S := (· = b)) (Kept.refl _ W) ⟨b, o, none⟩ (Or.inr rfl) v
theorem Kept.setOned (W : World) (b o : Nat) (v : Value) : Kept (· = b) W (W.setCell ⟨b, o, none⟩ v).drew := (Kept.setOne W b o v).drew
theorem Three.set0 {w : World} {b : Nat} {x y : Int} {v : Bool} (h : Three w b x y v) (x' : Int) : Three (w.setCell ⟨b, 0, none⟩ (.int .i64 x')) b x' y v :=
  ⟨by simp [go_sem, h.c0], by simp [go_sem, h.c1], by simp [go_sem, h.c2], by simp [go_sem, h.f0], by simp [go_sem, h.f1], by simp [go_sem, h.f2]⟩
theorem Three.set1 {w : World} {b : Nat} {x y : Int} {v : Bool} (h : Three w b x y v) (y' : Int) : Three (w.setCell ⟨b, 1, none⟩ (.int .i64 y')) b x y' v :=
  ⟨by simp [go_sem, h.c0], by simp [go_sem, h.c1], by simp [go_sem, h.c2], by simp [go_sem, h.f0], by simp [go_sem, h.f1], by simp [go_sem, h.f2]⟩
theorem Three.drew {w : World} {b : Nat} {x y : Int} {v : Bool} (h : Three w b x y v) : Three w.drew b x y v := h.kept0 ((Kept.refl _ w).drew)

end Go.Proofs.Ytkdnjkcebfckiaa
