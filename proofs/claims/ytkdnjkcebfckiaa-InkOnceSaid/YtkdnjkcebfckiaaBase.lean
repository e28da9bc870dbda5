/-
  What lies in memory: rows of cells, grids, and what of a world is kept. No program.
-/
import Derived.WalkKit
import Derived.WalkSpells
import Derived.WalkLawsBesides
import Derived.Lib.Hide
import Derived.Laws.CopyOwn
namespace Go.Proofs.Ytkdnjkcebfckiaa
open Go.RowKit

/-- Of the blocks that were there all but those of S are as they were. -/
structure Kept (S : Nat → Prop) (w w' : World) : Prop where
  os : w'.os = w.os
  tape : w'.tape = w.tape
  output : w'.output = w.output
  size : w.heap.size ≤ w'.heap.size
  block : ∀ k, k < w.heap.size → ¬ S k → w'.heap[k]? = w.heap[k]?

/-- All blocks that were there are as they were. -/
abbrev Kept0 : World → World → Prop := Kept (fun _ => False)

theorem Kept.refl (S : Nat → Prop) (w : World) : Kept S w w := ⟨rfl, rfl, rfl, Nat.le_refl _, fun _ _ _ => rfl⟩
theorem Kept.trans {S : Nat → Prop} {a b c : World} (h : Kept S a b) (k : Kept S b c) : Kept S a c :=
  ⟨k.os.trans h.os, k.tape.trans h.tape, k.output.trans h.output, Nat.le_trans h.size k.size, fun i hi hs => (k.block i (Nat.lt_of_lt_of_le hi h.size) hs).trans (h.block i hi hs)⟩
theorem Kept.mono {S T : Nat → Prop} {a b : World} (h : Kept S a b) (hst : ∀ k, k < a.heap.size → S k → T k) : Kept T a b :=
  ⟨h.os, h.tape, h.output, h.size, fun i hi hs => h.block i hi (fun s => hs (hst i hi s))⟩
theorem Kept0.to {S : Nat → Prop} {a b : World} (h : Kept0 a b) : Kept S a b := h.mono (fun _ _ e => e.elim)
theorem Kept.drew {S : Nat → Prop} {a w : World} (h : Kept S a w) : Kept S a w.drew := ⟨h.os, h.tape, h.output, h.size, h.block⟩
theorem Kept.drewN {S : Nat → Prop} {a w : World} (h : Kept S a w) (n : Nat) : Kept S a (w.drewN n) := ⟨h.os, h.tape, h.output, h.size, h.block⟩
theorem Kept.alloc {S : Nat → Prop} {a w : World} (h : Kept S a w) (o : Obj) : Kept S a (w.alloc o) :=
  h.trans ⟨rfl, rfl, rfl, by simp, fun k hk _ => Below.heap_alloc _ _ _ hk⟩
theorem Kept.setCell {S : Nat → Prop} {a w : World} (h : Kept S a w) (p : Addr) (hp : a.heap.size ≤ p.block ∨ S p.block) (u : Value) : Kept S a (w.setCell p u) :=
  ⟨h.os, h.tape, h.output, by simpa [World.setCell] using h.size, fun k hk hs => by
    rw [Below.heap_setCell _ _ _ _ (by rintro rfl; rcases hp with hp | hp; · omega
                                       · exact hs hp)]
    exact h.block k hk hs⟩
theorem Kept.below {S : Nat → Prop} {w w' : World} (h : Kept S w w') {B : Nat} (hB : ∀ k, k < B → k < w.heap.size ∧ ¬ S k) : Below B w w' :=
  ⟨h.os, h.tape, h.output, h.size, fun k hk => h.block k (hB k hk).1 (hB k hk).2⟩
theorem Kept0.below {w w' : World} (h : Kept0 w w') : Below w.heap.size w w' := Kept.below h (fun _ hk => ⟨hk, fun e => e⟩)
theorem Kept0.ofBelow {w w' : World} (h : Below w.heap.size w w') : Kept0 w w' := ⟨h.os, h.tape, h.output, h.size, fun k hk _ => h.block k hk⟩
theorem Kept.ofGrown {w w' : World} {row : Option Nat} (hg : w.grownBy w' row) : Kept (fun k => some k = row) w w' := ⟨hg.os, hg.tape, hg.output, hg.size, fun k hk hs => hg.block k hk hs⟩
/-- What is written in blocks that were not there at first. -/
theorem Kept.later {S T : Nat → Prop} {a b c : World} (h : Kept S a b) (k : Kept T b c) (hT : ∀ i, i < a.heap.size → T i → S i) : Kept S a c :=
  ⟨k.os.trans h.os, k.tape.trans h.tape, k.output.trans h.output, Nat.le_trans h.size k.size, fun i hi hs => (k.block i (Nat.lt_of_lt_of_le hi h.size) (fun t => hs (hT i hi t))).trans (h.block i hi hs)⟩
theorem Kept.cell {S : Nat → Prop} {w w' : World} (h : Kept S w w') {b o : Nat} (hb : b < w.heap.size) (hs : ¬ S b) : w'.cell? ⟨b, o, none⟩ = w.cell? ⟨b, o, none⟩ :=
  World.cell?_of_block (w := w) (h.block b hb hs)
theorem Kept.frozen {S : Nat → Prop} {w w' : World} (h : Kept S w w') {b o : Nat} (hb : b < w.heap.size) (hs : ¬ S b) : w'.frozen? ⟨b, o, none⟩ = w.frozen? ⟨b, o, none⟩ :=
  World.frozen?_of_block (w := w) (h.block b hb hs)

theorem heap_new (w : World) (o : Obj) : (w.alloc o).heap[w.heap.size]? = some o := by
  show (w.heap.push o)[w.heap.size]? = some o
  simp
theorem heap_new2 (w : World) (o o' : Obj) : ((w.alloc o).alloc o').heap[w.heap.size + 1]? = some o' := by
  have := heap_new (w.alloc o) o'
  rwa [World.size_alloc] at this

/-- A cell of a screen: its glyph, attributes, whether it is protected, its mark. -/
structure Cel where
  g : Int
  a : Int
  b : Bool
  m : Int
deriving DecidableEq

/-- Block t is a row of cells, N of them known. -/
def CellsAt (w : World) (t N : Nat) (f : Nat → Cel) : Prop :=
  ∃ cur : Array Value, w.heap[t]? = some (.cells cur 36 (0, 0)) ∧ ∀ k, k < N → cur[k * 4]? = some (.int .i32 (f k).g) ∧ cur[k * 4 + 1]? = some (.int .i64 (f k).a) ∧ cur[k * 4 + 2]? = some (.bool (f k).b) ∧ cur[k * 4 + 3]? = some (.int .i64 (f k).m)

def upd (f : Nat → Cel) (i : Nat) (x : Cel) : Nat → Cel := fun k => if k = i then x else f k
/-- All from a on, n of them, are x. -/
def fillF (f : Nat → Cel) (a n : Nat) (x : Cel) : Nat → Cel := fun k => if a ≤ k ∧ k < a + n then x else f k
/-- Those from a on, n of them, are those from b on. -/
def copyF (f : Nat → Cel) (a n b : Nat) : Nat → Cel := fun k => if a ≤ k ∧ k < a + n then f (k - a + b) else f k

/-- Which one a place is, row by row. -/
def idx (C : Nat) (r c : Int) : Nat := r.toNat * C + c.toNat
/-- A place is there. -/
def There (R C : Nat) (r c : Int) : Prop := 0 ≤ r ∧ r < R ∧ 0 ≤ c ∧ c < C
theorem place_lt {a b R C : Nat} (h1 : a < R) (h2 : b < C) : a * C + b < R * C := by
  have : (a + 1) * C ≤ R * C := Nat.mul_le_mul_right _ (by omega)
  rw [Nat.add_mul] at this
  omega
theorem idx_lt {R C : Nat} {r c : Int} (h : There R C r c) : idx C r c < R * C := by
  obtain ⟨h1, h2, h3, h4⟩ := h
  exact place_lt (by omega) (by omega)

namespace CellsAt
variable {w : World} {t N : Nat} {f : Nat → Cel}
theorem lt (h : CellsAt w t N f) : t < w.heap.size := by
  obtain ⟨cur, h1, _⟩ := h
  exact (Array.getElem?_eq_some_iff.1 h1).1
theorem cell (h : CellsAt w t N f) {k : Nat} (hk : k < N) : w.cell? ⟨t, k * 4, none⟩ = some (.int .i32 (f k).g) ∧ w.cell? ⟨t, k * 4 + 1, none⟩ = some (.int .i64 (f k).a) ∧ w.cell? ⟨t, k * 4 + 2, none⟩ = some (.bool (f k).b) ∧ w.cell? ⟨t, k * 4 + 3, none⟩ = some (.int .i64 (f k).m) := by
  obtain ⟨cur, h1, h2⟩ := h
  obtain ⟨e0, e1, e2, e3⟩ := h2 k hk
  exact ⟨by simp [World.cell?, h1, e0], by simp [World.cell?, h1, e1], by simp [World.cell?, h1, e2], by simp [World.cell?, h1, e3]⟩
theorem frozen (h : CellsAt w t N f) (k : Nat) : w.frozen? ⟨t, k, none⟩ = false := by
  obtain ⟨cur, h1, h2⟩ := h
  simp [World.frozen?, h1]
theorem kept (h : CellsAt w t N f) {S : Nat → Prop} {w' : World} (k : Kept S w w') (hs : ¬ S t) : CellsAt w' t N f := by
  have hl := h.lt
  obtain ⟨cur, h1, h2⟩ := h
  exact ⟨cur, (k.block t hl hs).trans h1, h2⟩
theorem congr (h : CellsAt w t N f) {f' : Nat → Cel} (e : ∀ k, k < N → f k = f' k) : CellsAt w t N f' := by
  obtain ⟨cur, h1, h2⟩ := h
  exact ⟨cur, h1, fun k hk => by rw [← e k hk]; exact h2 k hk⟩
theorem less (h : CellsAt w t N f) {M : Nat} (hM : M ≤ N) : CellsAt w t M f := by
  obtain ⟨cur, h1, h2⟩ := h
  exact ⟨cur, h1, fun k hk => h2 k (by omega)⟩
theorem set (h : CellsAt w t N f) (i : Nat) (x : Cel) : CellsAt ((((w.setCell ⟨t, i * 4, none⟩ (.int .i32 x.g)).setCell ⟨t, i * 4 + 1, none⟩ (.int .i64 x.a)).setCell ⟨t, i * 4 + 2, none⟩ (.bool x.b)).setCell ⟨t, i * 4 + 3, none⟩ (.int .i64 x.m)) t N (upd f i x) := by
  obtain ⟨cur, h1, h2⟩ := h
  refine ⟨(((cur.setIfInBounds (i * 4) (.int .i32 x.g)).setIfInBounds (i * 4 + 1) (.int .i64 x.a)).setIfInBounds (i * 4 + 2) (.bool x.b)).setIfInBounds (i * 4 + 3) (.int .i64 x.m), ?_, fun k hk => ?_⟩
  · simp [World.setCell, Array.getElem?_modify, h1]
  · obtain ⟨e0, e1, e2, e3⟩ := h2 k hk
    have l0 : k * 4 < cur.size := (Array.getElem?_eq_some_iff.1 e0).1
    have l1 : k * 4 + 1 < cur.size := (Array.getElem?_eq_some_iff.1 e1).1
    have l2 : k * 4 + 2 < cur.size := (Array.getElem?_eq_some_iff.1 e2).1
    have l3 : k * 4 + 3 < cur.size := (Array.getElem?_eq_some_iff.1 e3).1
    unfold upd
    by_cases e : k = i
    · subst e
      simp [l0, l1, l2, l3]
    · rw [if_neg e]
      refine ⟨?_, ?_, ?_, ?_⟩
      · rw [Array.getElem?_setIfInBounds_ne (by omega), Array.getElem?_setIfInBounds_ne (by omega), Array.getElem?_setIfInBounds_ne (by omega), Array.getElem?_setIfInBounds_ne (by omega), e0]
      · rw [Array.getElem?_setIfInBounds_ne (by omega), Array.getElem?_setIfInBounds_ne (by omega), Array.getElem?_setIfInBounds_ne (by omega), Array.getElem?_setIfInBounds_ne (by omega), e1]
      · rw [Array.getElem?_setIfInBounds_ne (by omega), Array.getElem?_setIfInBounds_ne (by omega), Array.getElem?_setIfInBounds_ne (by omega), Array.getElem?_setIfInBounds_ne (by omega), e2]
      · rw [Array.getElem?_setIfInBounds_ne (by omega), Array.getElem?_setIfInBounds_ne (by omega), Array.getElem?_setIfInBounds_ne (by omega), Array.getElem?_setIfInBounds_ne (by omega), e3]
end CellsAt

theorem CellsAt.drewN {w : World} {t N : Nat} {f : Nat → Cel} (h : CellsAt w t N f) (n : Nat) : CellsAt (w.drewN n) t N f := h
theorem CellsAt.alloc {w : World} {t N : Nat} {f : Nat → Cel} (h : CellsAt w t N f) (o : Obj) : CellsAt (w.alloc o) t N f := h.kept ((Kept.refl (fun _ => False) w).alloc o) (fun e => e)

/-- A cell that is written, whole. -/
theorem Kept.setCel {S : Nat → Prop} {a w : World} (h : Kept S a w) (t o : Nat) (hp : a.heap.size ≤ t ∨ S t) (x : Cel) : Kept S a ((((w.setCell ⟨t, o, none⟩ (.int .i32 x.g)).setCell ⟨t, o + 1, none⟩ (.int .i64 x.a)).setCell ⟨t, o + 2, none⟩ (.bool x.b)).setCell ⟨t, o + 3, none⟩ (.int .i64 x.m)) :=
  (((h.setCell ⟨t, o, none⟩ hp _).setCell ⟨t, o + 1, none⟩ hp _).setCell ⟨t, o + 2, none⟩ hp _).setCell ⟨t, o + 3, none⟩ hp _

/-- A grid at block g, its things at block t. -/
structure GridAt (w : World) (g t cap R C : Nat) (f : Nat → Cel) : Prop where
  head : w.heap[g]? = some (.cells #[.int .i64 R, .int .i64 C, .slice (some ⟨t, 0, none⟩) (R * C) cap] 97 (0, 0))
  row : CellsAt w t (R * C) f
  cap : R * C ≤ cap
  R1 : 1 ≤ R
  R2 : R ≤ 255
  C1 : 1 ≤ C
  C2 : C ≤ 255

namespace GridAt
variable {w : World} {g t cap R C : Nat} {f : Nat → Cel}
theorem lt (h : GridAt w g t cap R C f) : g < w.heap.size := (Array.getElem?_eq_some_iff.1 h.head).1
theorem ne (h : GridAt w g t cap R C f) : g ≠ t := by
  rintro rfl
  obtain ⟨cur, h1, _⟩ := h.row
  have := h.head.symm.trans h1
  simp at this
theorem c0 (h : GridAt w g t cap R C f) : w.cell? ⟨g, 0, none⟩ = some (.int .i64 R) := by simp [World.cell?, h.head]
theorem c1 (h : GridAt w g t cap R C f) : w.cell? ⟨g, 1, none⟩ = some (.int .i64 C) := by simp [World.cell?, h.head]
theorem c2 (h : GridAt w g t cap R C f) : w.cell? ⟨g, 2, none⟩ = some (.slice (some ⟨t, 0, none⟩) (R * C) cap) := by simp [World.cell?, h.head]
theorem fz (h : GridAt w g t cap R C f) (k : Nat) : w.frozen? ⟨g, k, none⟩ = false := by simp [World.frozen?, h.head]
theorem kept (h : GridAt w g t cap R C f) {S : Nat → Prop} {w' : World} (k : Kept S w w') (hg : ¬ S g) (ht : ¬ S t) : GridAt w' g t cap R C f :=
  ⟨(k.block g h.lt hg).trans h.head, h.row.kept k ht, h.cap, h.R1, h.R2, h.C1, h.C2⟩
theorem withRow (h : GridAt w g t cap R C f) {w' : World} {f' : Nat → Cel} (k : Kept (· = t) w w') (hr : CellsAt w' t (R * C) f') : GridAt w' g t cap R C f' :=
  ⟨(k.block g h.lt h.ne).trans h.head, hr, h.cap, h.R1, h.R2, h.C1, h.C2⟩
theorem congr (h : GridAt w g t cap R C f) {f' : Nat → Cel} (e : ∀ k, k < R * C → f k = f' k) : GridAt w g t cap R C f' :=
  ⟨h.head, h.row.congr e, h.cap, h.R1, h.R2, h.C1, h.C2⟩
end GridAt

end Go.Proofs.Ytkdnjkcebfckiaa
