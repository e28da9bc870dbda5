/-
  Texts merged: Base Leaf Cells RowOps Move.
-/
import Derived.WalkKit
import Derived.WalkSpells
import Derived.WalkLawsBesides
import Derived.Lib.Hide
import Derived.Laws.CopyOwn
import Derived.Test.YtlhajbcabpfbkaaGreatDoorProg
import Derived.Deep.QuietTactic
import Derived.BigQuiet
import Derived.Deep.RegionHeld3
import Derived.StillTailTactics
import Derived.Deep.OwnRows
import Derived.BigRegion
/-
  What lies in memory: rows of cells, grids, and what of a world is kept. No program.
-/
namespace Go.Proofs.YtlhajbcabpfbkaaGreatDoor
open Go.RowKit

/-- Of the blocks that were there all but those of S are as they were. -/
structure Kept (S : Nat → Prop) (w w' : World) : Prop where
  os : w'.os = w.os
  tape : w'.tape = w.tape
  output : w'.output = w.output
  size : w.heap.size ≤ w'.heap.size
  block : ∀ k, k < w.heap.size → ¬ S k → w'.heap[k]? = w.heap[k]?

/-- All blocks that were there are as they were. -/
abbrev Kept0 : World → World → Prop := Kept (fun _ => False)

theorem Kept.refl (S : Nat → Prop) (w : World) : Kept S w w := ⟨rfl, rfl, rfl, Nat.le_refl _, fun _ _ _ => rfl⟩
theorem Kept.trans {S : Nat → Prop} {a b c : World} (h : Kept S a b) (k : Kept S b c) : Kept S a c :=
  ⟨k.os.trans h.os, k.tape.trans h.tape, k.output.trans h.output, Nat.le_trans h.size k.size, fun i hi hs => (k.block i (Nat.lt_of_lt_of_le hi h.size) hs).trans (h.block i hi hs)⟩
theorem Kept.mono {S T : Nat → Prop} {a b : World} (h : Kept S a b) (hst : ∀ k, k < a.heap.size → S k → T k) : Kept T a b :=
  ⟨h.os, h.tape, h.output, h.size, fun i hi hs => h.block i hi (fun s => hs (hst i hi s))⟩
theorem Kept0.to {S : Nat → Prop} {a b : World} (h : Kept0 a b) : Kept S a b := h.mono (fun _ _ e => e.elim)
theorem Kept.drew {S : Nat → Prop} {a w : World} (h : Kept S a w) : Kept S a w.drew := ⟨h.os, h.tape, h.output, h.size, h.block⟩
theorem Kept.drewN {S : Nat → Prop} {a w : World} (h : Kept S a w) (n : Nat) : Kept S a (w.drewN n) := ⟨h.os, h.tape, h.output, h.size, h.block⟩
theorem Kept.alloc {S : Nat → Prop} {a w : World} (h : Kept S a w) (o : Obj) : Kept S a (w.alloc o) :=
  h.trans ⟨rfl, rfl, rfl, by simp, fun k hk _ => Below.heap_alloc _ _ _ hk⟩
theorem Kept.setCell {S : Nat → Prop} {a w : World} (h : Kept S a w) (p : Addr) (hp : a.heap.size ≤ p.block ∨ S p.block) (u : Value) : Kept S a (w.setCell p u) :=
  ⟨h.os, h.tape, h.output, by simpa [World.setCell] using h.size, fun k hk hs => by
    rw [Below.heap_setCell _ _ _ _ (by rintro rfl; rcases hp with hp | hp; · omega
                                       · exact hs hp)]
    exact h.block k hk hs⟩
theorem Kept.below {S : Nat → Prop} {w w' : World} (h : Kept S w w') {B : Nat} (hB : ∀ k, k < B → k < w.heap.size ∧ ¬ S k) : Below B w w' :=
  ⟨h.os, h.tape, h.output, h.size, fun k hk => h.block k (hB k hk).1 (hB k hk).2⟩
theorem Kept0.below {w w' : World} (h : Kept0 w w') : Below w.heap.size w w' := Kept.below h (fun _ hk => ⟨hk, fun e => e⟩)
theorem Kept0.ofBelow {w w' : World} (h : Below w.heap.size w w') : Kept0 w w' := ⟨h.os, h.tape, h.output, h.size, fun k hk _ => h.block k hk⟩
theorem Kept.ofGrown {w w' : World} {row : Option Nat} (hg : w.grownBy w' row) : Kept (fun k => some k = row) w w' := ⟨hg.os, hg.tape, hg.output, hg.size, fun k hk hs => hg.block k hk hs⟩
/-- What is written in blocks that were not there at first. -/
theorem Kept.later {S T : Nat → Prop} {a b c : World} (h : Kept S a b) (k : Kept T b c) (hT : ∀ i, i < a.heap.size → T i → S i) : Kept S a c :=
  ⟨k.os.trans h.os, k.tape.trans h.tape, k.output.trans h.output, Nat.le_trans h.size k.size, fun i hi hs => (k.block i (Nat.lt_of_lt_of_le hi h.size) (fun t => hs (hT i hi t))).trans (h.block i hi hs)⟩
theorem Kept.cell {S : Nat → Prop} {w w' : World} (h : Kept S w w') {b o : Nat} (hb : b < w.heap.size) (hs : ¬ S b) : w'.cell? ⟨b, o, none⟩ = w.cell? ⟨b, o, none⟩ :=
  World.cell?_of_block (w := w) (h.block b hb hs)
theorem Kept.frozen {S : Nat → Prop} {w w' : World} (h : Kept S w w') {b o : Nat} (hb : b < w.heap.size) (hs : ¬ S b) : w'.frozen? ⟨b, o, none⟩ = w.frozen? ⟨b, o, none⟩ :=
  World.frozen?_of_block (w := w) (h.block b hb hs)

theorem heap_new (w : World) (o : Obj) : (w.alloc o).heap[w.heap.size]? = some o := by
  show (w.heap.push o)[w.heap.size]? = some o
  simp
theorem heap_new2 (w : World) (o o' : Obj) : ((w.alloc o).alloc o').heap[w.heap.size + 1]? = some o' := by
  have := heap_new (w.alloc o) o'
  rwa [World.size_alloc] at this

/-- A cell of a screen: its glyph, attributes, whether it is protected, its mark. -/
structure Cel where
  g : Int
  a : Int
  b : Bool
  m : Int
deriving DecidableEq

/-- Block t is a row of cells, N of them known. -/
def CellsAt (w : World) (t N : Nat) (f : Nat → Cel) : Prop :=
  ∃ cur : Array Value, w.heap[t]? = some (.cells cur 52 (0, 0)) ∧ ∀ k, k < N → cur[k * 4]? = some (.int .i32 (f k).g) ∧ cur[k * 4 + 1]? = some (.int .i64 (f k).a) ∧ cur[k * 4 + 2]? = some (.bool (f k).b) ∧ cur[k * 4 + 3]? = some (.int .i64 (f k).m)

def upd (f : Nat → Cel) (i : Nat) (x : Cel) : Nat → Cel := fun k => if k = i then x else f k
/-- All from a on, n of them, are x. -/
def fillF (f : Nat → Cel) (a n : Nat) (x : Cel) : Nat → Cel := fun k => if a ≤ k ∧ k < a + n then x else f k
/-- Those from a on, n of them, are those from b on. -/
def copyF (f : Nat → Cel) (a n b : Nat) : Nat → Cel := fun k => if a ≤ k ∧ k < a + n then f (k - a + b) else f k

/-- Which one a place is, row by row. -/
def idx (C : Nat) (r c : Int) : Nat := r.toNat * C + c.toNat
/-- A place is there. -/
def There (R C : Nat) (r c : Int) : Prop := 0 ≤ r ∧ r < R ∧ 0 ≤ c ∧ c < C
theorem place_lt {a b R C : Nat} (h1 : a < R) (h2 : b < C) : a * C + b < R * C := by
  have : (a + 1) * C ≤ R * C := Nat.mul_le_mul_right _ (by omega)
  rw [Nat.add_mul] at this
  omega
theorem idx_lt {R C : Nat} {r c : Int} (h : There R C r c) : idx C r c < R * C := by
  obtain ⟨h1, h2, h3, h4⟩ := h
  exact place_lt (by omega) (by omega)

namespace CellsAt
variable {w : World} {t N : Nat} {f : Nat → Cel}
theorem lt (h : CellsAt w t N f) : t < w.heap.size := by
  obtain ⟨cur, h1, _⟩ := h
  exact (Array.getElem?_eq_some_iff.1 h1).1
theorem cell (h : CellsAt w t N f) {k : Nat} (hk : k < N) : w.cell? ⟨t, k * 4, none⟩ = some (.int .i32 (f k).g) ∧ w.cell? ⟨t, k * 4 + 1, none⟩ = some (.int .i64 (f k).a) ∧ w.cell? ⟨t, k * 4 + 2, none⟩ = some (.bool (f k).b) ∧ w.cell? ⟨t, k * 4 + 3, none⟩ = some (.int .i64 (f k).m) := by
  obtain ⟨cur, h1, h2⟩ := h
  obtain ⟨e0, e1, e2, e3⟩ := h2 k hk
  exact ⟨by simp [World.cell?, h1, e0], by simp [World.cell?, h1, e1], by simp [World.cell?, h1, e2], by simp [World.cell?, h1, e3]⟩
theorem frozen (h : CellsAt w t N f) (k : Nat) : w.frozen? ⟨t, k, none⟩ = false := by
  obtain ⟨cur, h1, h2⟩ := h
  simp [World.frozen?, h1]
theorem kept (h : CellsAt w t N f) {S : Nat → Prop} {w' : World} (k : Kept S w w') (hs : ¬ S t) : CellsAt w' t N f := by
  have hl := h.lt
  obtain ⟨cur, h1, h2⟩ := h
  exact ⟨cur, (k.block t hl hs).trans h1, h2⟩
theorem congr (h : CellsAt w t N f) {f' : Nat → Cel} (e : ∀ k, k < N → f k = f' k) : CellsAt w t N f' := by
  obtain ⟨cur, h1, h2⟩ := h
  exact ⟨cur, h1, fun k hk => by rw [← e k hk]; exact h2 k hk⟩
theorem less (h : CellsAt w t N f) {M : Nat} (hM : M ≤ N) : CellsAt w t M f := by
  obtain ⟨cur, h1, h2⟩ := h
  exact ⟨cur, h1, fun k hk => h2 k (by omega)⟩
theorem set (h : CellsAt w t N f) (i : Nat) (x : Cel) : CellsAt ((((w.setCell ⟨t, i * 4, none⟩ (.int .i32 x.g)).setCell ⟨t, i * 4 + 1, none⟩ (.int .i64 x.a)).setCell ⟨t, i * 4 + 2, none⟩ (.bool x.b)).setCell ⟨t, i * 4 + 3, none⟩ (.int .i64 x.m)) t N (upd f i x) := by
  obtain ⟨cur, h1, h2⟩ := h
  refine ⟨(((cur.setIfInBounds (i * 4) (.int .i32 x.g)).setIfInBounds (i * 4 + 1) (.int .i64 x.a)).setIfInBounds (i * 4 + 2) (.bool x.b)).setIfInBounds (i * 4 + 3) (.int .i64 x.m), ?_, fun k hk => ?_⟩
  · simp [World.setCell, Array.getElem?_modify, h1]
  · obtain ⟨e0, e1, e2, e3⟩ := h2 k hk
    have l0 : k * 4 < cur.size := (Array.getElem?_eq_some_iff.1 e0).1
    have l1 : k * 4 + 1 < cur.size := (Array.getElem?_eq_some_iff.1 e1).1
    have l2 : k * 4 + 2 < cur.size := (Array.getElem?_eq_some_iff.1 e2).1
    have l3 : k * 4 + 3 < cur.size := (Array.getElem?_eq_some_iff.1 e3).1
    unfold upd
    by_cases e : k = i
    · subst e
      simp [l0, l1, l2, l3]
    · rw [if_neg e]
      refine ⟨?_, ?_, ?_, ?_⟩
      · rw [Array.getElem?_setIfInBounds_ne (by omega), Array.getElem?_setIfInBounds_ne (by omega), Array.getElem?_setIfInBounds_ne (by omega), Array.getElem?_setIfInBounds_ne (by omega), e0]
      · rw [Array.getElem?_setIfInBounds_ne (by omega), Array.getElem?_setIfInBounds_ne (by omega), Array.getElem?_setIfInBounds_ne (by omega), Array.getElem?_setIfInBounds_ne (by omega), e1]
      · rw [Array.getElem?_setIfInBounds_ne (by omega), Array.getElem?_setIfInBounds_ne (by omega), Array.getElem?_setIfInBounds_ne (by omega), Array.getElem?_setIfInBounds_ne (by omega), e2]
      · rw [Array.getElem?_setIfInBounds_ne (by omega), Array.getElem?_setIfInBounds_ne (by omega), Array.getElem?_setIfInBounds_ne (by omega), Array.getElem?_setIfInBounds_ne (by omega), e3]
end CellsAt

theorem CellsAt.drewN {w : World} {t N : Nat} {f : Nat → Cel} (h : CellsAt w t N f) (n : Nat) : CellsAt (w.drewN n) t N f := h
theorem CellsAt.alloc {w : World} {t N : Nat} {f : Nat → Cel} (h : CellsAt w t N f) (o : Obj) : CellsAt (w.alloc o) t N f := h.kept ((Kept.refl (fun _ => False) w).alloc o) (fun e => e)

/-- A cell that is written, whole. -/
theorem Kept.setCel {S : Nat → Prop} {a w : World} (h : Kept S a w) (t o : Nat) (hp : a.heap.size ≤ t ∨ S t) (x : Cel) : Kept S a ((((w.setCell ⟨t, o, none⟩ (.int .i32 x.g)).setCell ⟨t, o + 1, none⟩ (.int .i64 x.a)).setCell ⟨t, o + 2, none⟩ (.bool x.b)).setCell ⟨t, o + 3, none⟩ (.int .i64 x.m)) :=
  (((h.setCell ⟨t, o, none⟩ hp _).setCell ⟨t, o + 1, none⟩ hp _).setCell ⟨t, o + 2, none⟩ hp _).setCell ⟨t, o + 3, none⟩ hp _

/-- A grid at block g, its things at block t. -/
structure GridAt (w : World) (g t cap R C : Nat) (f : Nat → Cel) : Prop where
  head : w.heap[g]? = some (.cells #[.int .i64 R, .int .i64 C, .slice (some ⟨t, 0, none⟩) (R * C) cap] 108 (0, 0))
  row : CellsAt w t (R * C) f
  cap : R * C ≤ cap
  R1 : 1 ≤ R
  R2 : R ≤ 255
  C1 : 1 ≤ C
  C2 : C ≤ 255

namespace GridAt
variable {w : World} {g t cap R C : Nat} {f : Nat → Cel}
theorem lt (h : GridAt w g t cap R C f) : g < w.heap.size := (Array.getElem?_eq_some_iff.1 h.head).1
theorem ne (h : GridAt w g t cap R C f) : g ≠ t := by
  rintro rfl
  obtain ⟨cur, h1, _⟩ := h.row
  have := h.head.symm.trans h1
  simp at this
theorem c0 (h : GridAt w g t cap R C f) : w.cell? ⟨g, 0, none⟩ = some (.int .i64 R) := by simp [World.cell?, h.head]
theorem c1 (h : GridAt w g t cap R C f) : w.cell? ⟨g, 1, none⟩ = some (.int .i64 C) := by simp [World.cell?, h.head]
theorem c2 (h : GridAt w g t cap R C f) : w.cell? ⟨g, 2, none⟩ = some (.slice (some ⟨t, 0, none⟩) (R * C) cap) := by simp [World.cell?, h.head]
theorem fz (h : GridAt w g t cap R C f) (k : Nat) : w.frozen? ⟨g, k, none⟩ = false := by simp [World.frozen?, h.head]
theorem kept (h : GridAt w g t cap R C f) {S : Nat → Prop} {w' : World} (k : Kept S w w') (hg : ¬ S g) (ht : ¬ S t) : GridAt w' g t cap R C f :=
  ⟨(k.block g h.lt hg).trans h.head, h.row.kept k ht, h.cap, h.R1, h.R2, h.C1, h.C2⟩
theorem withRow (h : GridAt w g t cap R C f) {w' : World} {f' : Nat → Cel} (k : Kept (· = t) w w') (hr : CellsAt w' t (R * C) f') : GridAt w' g t cap R C f' :=
  ⟨(k.block g h.lt h.ne).trans h.head, hr, h.cap, h.R1, h.R2, h.C1, h.C2⟩
theorem congr (h : GridAt w g t cap R C f) {f' : Nat → Cel} (e : ∀ k, k < R * C → f k = f' k) : GridAt w g t cap R C f' :=
  ⟨h.head, h.row.congr e, h.cap, h.R1, h.R2, h.C1, h.C2⟩
end GridAt

end Go.Proofs.YtlhajbcabpfbkaaGreatDoor

/-
  What the small calls of package grid do.
-/
namespace Go.Proofs.YtlhajbcabpfbkaaGreatDoor
open Go.RowKit

theorem ret_int {k : IntKind} {a b : Int} (h : a = b) : Ending.returned (.int k a) = .returned (.int k b) := by rw [h]
theorem w64 {n : Int} (h1 : -9223372036854775808 ≤ n) (h2 : n ≤ 9223372036854775807) : wrap64 n = n := by
  have := IntWalk.i64_in n ⟨h1, h2⟩
  simpa [IntKind.wrap_i64, wrap64] using this

/-- The number nearest to n that is from -m to m. -/
def bnd (n m : Int) : Int := max (-m) (min n m)

set_option maxHeartbeats 400000 in
theorem bound_any (n m : Int) (w : World) (h0 : 0 ≤ m) (h1 : m ≤ 70000) :
    Calls Tryz.prog 122 #[.int .i64 n, .int .i64 m] w fun e w' => e = .returned (.int .i64 (bnd n m)) ∧ w = w' := by
  go_enter Tryz.func122, Tryz.ntmps122
  go_wp2
  all_goals
    go_ret
    exact ⟨ret_int (by unfold bnd; omega), rfl⟩

set_option maxHeartbeats 400000 in
theorem index_at (g : Nat) (r c : Int) (C : Nat) (w : World) (hC : w.cell? ⟨g, 1, none⟩ = some (.int .i64 C)) (hr0 : 0 ≤ r) (hr1 : r ≤ 255) (hc0 : 0 ≤ c) (hc1 : c ≤ 255) (hC1 : C ≤ 255) :
    Calls Tryz.prog 49 #[.pointer (some ⟨g, 0, none⟩), .agg #[.int .i64 r, .int .i64 c]] w fun e w' => e = .returned (.int .i64 (idx C r c : Int)) ∧ ∃ n, w' = (w.alloc (.cells #[.int .i64 r, .int .i64 c] 45)).drewN n := by
  have hg := World.block_lt_of_cell? w _ hC
  go_enter Tryz.func49, Tryz.ntmps49
  go_wp2
  go_quiet (fail)
  go_wp2
  go_ret
  refine ⟨ret_int ?_, _, rfl⟩
  obtain ⟨a, rfl⟩ := Int.eq_ofNat_of_zero_le hr0
  obtain ⟨b, rfl⟩ := Int.eq_ofNat_of_zero_le hc0
  have hm : a * C ≤ 255 * 255 := Nat.mul_le_mul (by omega) (by omega)
  have hm0 : (a : Int) * (C : Int) = ((a * C : Nat) : Int) := by simp
  have e1 : wrap64 ((a : Int) * (C : Int)) = ((a * C : Nat) : Int) := by rw [hm0]; exact w64 (by omega) (by omega)
  show wrap64 (wrap64 ((a : Int) * (C : Int)) + (b : Int)) = _
  rw [e1, w64 (by omega) (by omega)]
  simp [idx]

theorem index_any (g : Nat) (r c : Int) (C : Nat) (w : World) (hC : w.cell? ⟨g, 1, none⟩ = some (.int .i64 C)) (hr0 : 0 ≤ r) (hr1 : r ≤ 255) (hc0 : 0 ≤ c) (hc1 : c ≤ 255) (hC1 : C ≤ 255) :
    Calls Tryz.prog 49 #[.pointer (some ⟨g, 0, none⟩), .agg #[.int .i64 r, .int .i64 c]] w fun e w' => e = .returned (.int .i64 (idx C r c : Int)) ∧ Kept0 w w' :=
  (index_at g r c C w hC hr0 hr1 hc0 hc1 hC1).mono fun _ _ ⟨h1, n, h2⟩ => ⟨h1, h2 ▸ ((Kept.refl _ w).alloc _).drewN n⟩

set_option maxHeartbeats 400000 in
theorem check_in (g : Nat) (r c : Int) (R C : Nat) (w : World) (hR : w.cell? ⟨g, 0, none⟩ = some (.int .i64 R)) (hC : w.cell? ⟨g, 1, none⟩ = some (.int .i64 C)) (hr0 : 0 ≤ r) (hr1 : r < R) (hc0 : 0 ≤ c) (hc1 : c < C) :
    Calls Tryz.prog 51 #[.pointer (some ⟨g, 0, none⟩), .agg #[.int .i64 r, .int .i64 c]] w fun e w' => e = .returned (.int .i64 0) ∧ Kept0 w w' := by
  have hg := World.block_lt_of_cell? w _ hC
  have d1 : decide (r < 0) = false := by simpa using hr0
  have d2 : decide ((R : Int) ≤ r) = false := by simpa using hr1
  have d3 : decide (c < 0) = false := by simpa using hc0
  have d4 : decide ((C : Int) ≤ c) = false := by simpa using hc1
  go_enter Tryz.func51, Tryz.ntmps51
  go_wp2
  go_quiet (fail)
  go_wp2
  go_ret
  exact ⟨rfl, ((Kept.refl _ w).alloc _).drewN _⟩

set_option maxHeartbeats 400000 in
theorem check_out (g : Nat) (r c : Int) (R C : Nat) (w : World) (hR : w.cell? ⟨g, 0, none⟩ = some (.int .i64 R)) (hC : w.cell? ⟨g, 1, none⟩ = some (.int .i64 C)) (h : ¬ (0 ≤ r ∧ r < R ∧ 0 ≤ c ∧ c < C)) :
    Calls Tryz.prog 51 #[.pointer (some ⟨g, 0, none⟩), .agg #[.int .i64 r, .int .i64 c]] w fun e w' => e = .returned (.int .i64 11) ∧ Kept0 w w' := by
  have hg := World.block_lt_of_cell? w _ hC
  by_cases h1 : r < 0
  · clear h
    go_enter Tryz.func51, Tryz.ntmps51
    go_wp2
    go_quiet (fail)
    go_wp2
    go_ret
    exact ⟨rfl, ((Kept.refl _ w).alloc _).drewN _⟩
  have d1 : decide (r < 0) = false := by simpa using h1
  by_cases h2 : (R : Int) ≤ r
  · clear h
    go_enter Tryz.func51, Tryz.ntmps51
    go_wp2
    go_quiet (fail)
    go_wp2
    go_ret
    exact ⟨rfl, ((Kept.refl _ w).alloc _).drewN _⟩
  have d2 : decide ((R : Int) ≤ r) = false := by simpa using h2
  by_cases h3 : c < 0
  · clear h
    go_enter Tryz.func51, Tryz.ntmps51
    go_wp2
    go_quiet (fail)
    go_wp2
    go_ret
    exact ⟨rfl, ((Kept.refl _ w).alloc _).drewN _⟩
  have d3 : decide (c < 0) = false := by simpa using h3
  have h4 : (C : Int) ≤ c := by omega
  clear h
  go_enter Tryz.func51, Tryz.ntmps51
  go_wp2
  go_quiet (fail)
  go_wp2
  go_ret
  exact ⟨rfl, ((Kept.refl _ w).alloc _).drewN _⟩

theorem check_nil (r c : Int) (w : World) :
    Calls Tryz.prog 51 #[.pointer none, .agg #[.int .i64 r, .int .i64 c]] w fun e w' => e = .returned (.int .i64 2) ∧ Kept0 w w' := by
  go_enter Tryz.func51, Tryz.ntmps51
  go_wp2
  go_ret
  exact ⟨rfl, ((Kept.refl _ w).alloc _)⟩

/-- What is wrong with a size. -/
def mayE (r c : Int) : Int := if 1 ≤ r ∧ r ≤ 255 ∧ 1 ≤ c ∧ c ≤ 255 then 0 else 10
theorem mayE_yes {r c : Int} (h : 1 ≤ r ∧ r ≤ 255 ∧ 1 ≤ c ∧ c ≤ 255) : mayE r c = 0 := if_pos h
theorem mayE_no {r c : Int} (h : ¬ (1 ≤ r ∧ r ≤ 255 ∧ 1 ≤ c ∧ c ≤ 255)) : mayE r c = 10 := if_neg h

set_option maxHeartbeats 400000 in
theorem may_any (r c : Int) (w : World) :
    Calls Tryz.prog 52 #[.agg #[.int .i64 r, .int .i64 c]] w fun e w' => e = .returned (.int .i64 (mayE r c)) ∧ Kept0 w w' := by
  go_enter Tryz.func52, Tryz.ntmps52
  go_wp2
  all_goals
    go_ret
    refine ⟨ret_int ?_, ((Kept.refl _ w).alloc _)⟩
    first | exact (mayE_yes (by omega)).symm | exact (mayE_no (by omega)).symm

theorem size_nil (w : World) :
    Calls Tryz.prog 56 #[.pointer none] w fun e w' => e = .returned (.agg #[.int .i64 0, .int .i64 0]) ∧ Kept0 w w' := by
  go_enter Tryz.func56, Tryz.ntmps56
  go_wp2
  exact bodyPost_ret (v := .agg #[.int .i64 0, .int .i64 0]) (by simp [results, Tryz.results56, go_sem]) rfl ⟨rfl, ((Kept.refl _ w).alloc _)⟩

theorem size_any (g : Nat) (R C : Int) (w : World) (hR : w.cell? ⟨g, 0, none⟩ = some (.int .i64 R)) (hC : w.cell? ⟨g, 1, none⟩ = some (.int .i64 C)) :
    Calls Tryz.prog 56 #[.pointer (some ⟨g, 0, none⟩)] w fun e w' => e = .returned (.agg #[.int .i64 R, .int .i64 C]) ∧ Kept0 w w' := by
  have hg := World.block_lt_of_cell? w _ hC
  go_enter Tryz.func56, Tryz.ntmps56
  go_wp2
  exact bodyPost_ret (v := .agg #[.int .i64 R, .int .i64 C]) (by simp [results, Tryz.results56, go_sem]) rfl ⟨rfl, ((Kept.refl _ w).alloc _)⟩

theorem cel_new (w : World) (x : Cel) (t : TypeId) : (w.alloc (.cells #[.int .i32 x.g, .int .i64 x.a, .bool x.b, .int .i64 x.m] t)).cell? ⟨w.heap.size, 0, none⟩ = some (.int .i32 x.g) ∧ (w.alloc (.cells #[.int .i32 x.g, .int .i64 x.a, .bool x.b, .int .i64 x.m] t)).cell? ⟨w.heap.size, 1, none⟩ = some (.int .i64 x.a) ∧ (w.alloc (.cells #[.int .i32 x.g, .int .i64 x.a, .bool x.b, .int .i64 x.m] t)).cell? ⟨w.heap.size, 2, none⟩ = some (.bool x.b) ∧ (w.alloc (.cells #[.int .i32 x.g, .int .i64 x.a, .bool x.b, .int .i64 x.m] t)).cell? ⟨w.heap.size, 3, none⟩ = some (.int .i64 x.m) := by
  simp [go_sem]

set_option maxHeartbeats 400000 in
theorem paint_any (t o n N cap : Nat) (x : Cel) (f : Nat → Cel) (w : World) (hrow : CellsAt w t N f) (ho : o + n ≤ N) (hN : N ≤ 70000) :
    Calls Tryz.prog 53 #[.slice (some ⟨t, o * 4, none⟩) n cap, (.agg #[.int .i32 x.g, .int .i64 x.a, .bool x.b, .int .i64 x.m])] w fun e w' => e = .returned (.tuple #[]) ∧ CellsAt w' t N (fillF f o n x) ∧ Kept (· = t) w w' := by
  have htl := hrow.lt
  have hb1 : ¬ w.heap.size = t := by omega
  go_enter Tryz.func53, Tryz.ntmps53
  go_wp2
  go_loopw [7] (fun i wr => ∃ k : Nat, k ≤ n ∧ i = .int .i64 k ∧ CellsAt wr t N (fillF f o k x) ∧ Kept (· = t) (w.alloc (.cells #[.int .i32 x.g, .int .i64 x.a, .bool x.b, .int .i64 x.m] 52)) wr) (fun i _ => n - (intOf i).toNat)
  case atStart => exact ⟨0, by omega, rfl, (hrow.alloc _).congr (fun k _ => by simp [fillF]; omega), Kept.refl _ _⟩
  case round =>
    obtain ⟨k, hk, rfl, hr, hkp⟩ := hrel
    by_cases hlt : k < n
    · obtain ⟨c0, c1, c2, c3⟩ := hr.cell (k := o + k) (by omega)
      have f0 := hr.frozen ((o + k) * 4)
      have f1 := hr.frozen ((o + k) * 4 + 1)
      have f2 := hr.frozen ((o + k) * 4 + 2)
      have f3 := hr.frozen ((o + k) * 4 + 3)
      rw [Nat.add_mul] at c0 c1 c2 c3 f0 f1 f2 f3
      obtain ⟨n0, n1, n2, n3⟩ := cel_new w x 52
      replace n0 := (hkp.cell (by simp) hb1).trans n0
      replace n1 := (hkp.cell (by simp) hb1).trans n1
      replace n2 := (hkp.cell (by simp) hb1).trans n2
      replace n3 := (hkp.cell (by simp) hb1).trans n3
      go_wp2
      go_roundw
      case rel => 
        rw [← Nat.add_mul]
        exact ⟨k + 1, by omega, by go_num, (hr.set (o + k) x).congr (fun j _ => by unfold upd fillF; grind), hkp.setCel _ _ (Or.inr rfl) _⟩
      case measure => simp [intOf]; omega
    · go_wp2
      go_end0
      obtain rfl : k = n := by omega
      exact ⟨rfl, hr, ((Kept.refl _ w).alloc _).later hkp (fun _ _ e => e)⟩

end Go.Proofs.YtlhajbcabpfbkaaGreatDoor

/-
  What At and Set do, and New.
-/
namespace Go.Proofs.YtlhajbcabpfbkaaGreatDoor
open Go.RowKit

theorem kcell {w w' : World} (k : Kept0 w w') {b o : Nat} {v : Value} (h : w.cell? ⟨b, o, none⟩ = some v) : w'.cell? ⟨b, o, none⟩ = some v :=
  (k.cell (World.block_lt_of_cell? w _ h) (fun e => e)).trans h
theorem kcellS {S : Nat → Prop} {w w' : World} (k : Kept S w w') {b o : Nat} {v : Value} (h : w.cell? ⟨b, o, none⟩ = some v) (hs : ¬ S b) : w'.cell? ⟨b, o, none⟩ = some v :=
  (k.cell (World.block_lt_of_cell? w _ h) hs).trans h
theorem kfrozen {w w' : World} (k : Kept0 w w') {b o : Nat} {v : Value} (h : w.cell? ⟨b, o, none⟩ = some v) (h2 : w.frozen? ⟨b, o, none⟩ = false) : w'.frozen? ⟨b, o, none⟩ = false :=
  (k.frozen (World.block_lt_of_cell? w _ h) (fun e => e)).trans h2

set_option maxHeartbeats 1000000 in
theorem at_in (g t cap R C : Nat) (f : Nat → Cel) (r c : Int) (w : World) (hg : GridAt w g t cap R C f) (hth : There R C r c) :
    Calls Tryz.prog 35 #[.pointer (some ⟨g, 0, none⟩), .agg #[.int .i64 r, .int .i64 c]] w fun e w' => e = .returned (.tuple #[(.agg #[.int .i32 (f (idx C r c)).g, .int .i64 (f (idx C r c)).a, .bool (f (idx C r c)).b, .int .i64 (f (idx C r c)).m]), .int .i64 0]) ∧ Kept0 w w' := by
  have hR2 := hg.R2
  have hC2 := hg.C2
  have hlt := idx_lt hth
  obtain ⟨N, hN⟩ : ∃ N, N = R * C := ⟨_, rfl⟩
  rw [← hN] at hlt
  obtain ⟨hr0, hr1, hc0, hc1⟩ := hth
  have hgl := hg.lt
  have c0 := hg.c0
  have c1 := hg.c1
  have c2 := hg.c2
  rw [← hN] at c2
  obtain ⟨e0, e1, e2, e3⟩ := hg.row.cell (k := idx C r c) (by omega)
  have HN := Lib.hid hN
  have htl := hg.row.lt
  have b1 : ¬ g = w.heap.size + 1 := by omega
  have b2 : ¬ w.heap.size + 1 = g := by omega
  have b3 : ¬ t = w.heap.size + 1 := by omega
  have b4 : ¬ w.heap.size + 1 = t := by omega
  clear hN
  go_enter Tryz.func35, Tryz.ntmps35
  go_wp2_with fail
  refine (check_in g _ _ R C _ ?_ ?_ hr0 hr1 hc0 hc1).mono ?_
  · simp [go_sem, hgl, c0]
  · simp [go_sem, hgl, c1]
  rintro e w1 ⟨rfl, hk1⟩
  have hs1 : w.heap.size + 1 < w1.heap.size := by have := hk1.size; simp at this; omega
  have hs0 : w.heap.size < w1.heap.size := by omega
  have k0 : w1.cell? ⟨w.heap.size, 0, none⟩ = some (.int .i64 r) := kcell hk1 (by simp [go_sem])
  have k1 : w1.cell? ⟨w.heap.size, 1, none⟩ = some (.int .i64 c) := kcell hk1 (by simp [go_sem])
  have z0 : w1.cell? ⟨w.heap.size + 1, 0, none⟩ = some (.int .i32 0) := kcell hk1 (by simp [go_sem])
  have z1 : w1.cell? ⟨w.heap.size + 1, 1, none⟩ = some (.int .i64 0) := kcell hk1 (by simp [go_sem])
  have z2 : w1.cell? ⟨w.heap.size + 1, 2, none⟩ = some (.bool false) := kcell hk1 (by simp [go_sem])
  have z3 : w1.cell? ⟨w.heap.size + 1, 3, none⟩ = some (.int .i64 0) := kcell hk1 (by simp [go_sem])
  have y0 : w1.frozen? ⟨w.heap.size + 1, 0, none⟩ = false := kfrozen hk1 (v := .int .i32 0) (by simp [go_sem]) (by simp [go_sem])
  have y1 : w1.frozen? ⟨w.heap.size + 1, 1, none⟩ = false := kfrozen hk1 (v := .int .i64 0) (by simp [go_sem]) (by simp [go_sem])
  have y2 : w1.frozen? ⟨w.heap.size + 1, 2, none⟩ = false := kfrozen hk1 (v := .bool false) (by simp [go_sem]) (by simp [go_sem])
  have y3 : w1.frozen? ⟨w.heap.size + 1, 3, none⟩ = false := kfrozen hk1 (v := .int .i64 0) (by simp [go_sem]) (by simp [go_sem])
  have kk : Kept0 w w1 := (((Kept.refl _ w).alloc _).alloc _).later hk1 (fun _ _ e => e)
  have j1 := kcell kk c1
  have j2 := kcell kk c2
  have j3 := kcell kk e0
  have j4 := kcell kk e1
  have j5 := kcell kk e2
  have j6 := kcell kk e3
  have hgl1 : g < w1.heap.size := by omega
  have htl1 : t < w1.heap.size := by omega
  clear c0 c1 c2 e0 e1 e2 e3 hk1
  go_wp2_with fail
  go_region_held3 (fun w' => w'.cell? ⟨g, 2, none⟩ = some (Value.slice (some ⟨t, 0, none⟩) N cap) ∧ w'.cell? ⟨w.heap.size, 0, none⟩ = some (.int .i64 r) ∧ w'.cell? ⟨w.heap.size, 1, none⟩ = some (.int .i64 c) ∧ w'.cell? ⟨t, idx C r c * 4, none⟩ = some (.int .i32 (f (idx C r c)).g) ∧ w'.cell? ⟨t, idx C r c * 4 + 1, none⟩ = some (.int .i64 (f (idx C r c)).a) ∧ w'.cell? ⟨t, idx C r c * 4 + 2, none⟩ = some (.bool (f (idx C r c)).b) ∧ w'.cell? ⟨t, idx C r c * 4 + 3, none⟩ = some (.int .i64 (f (idx C r c)).m)) (go_keep)
    (first
      | (go_at_call 49; refine (index_at g _ _ C _ ?_ hr0 (by omega) hc0 (by omega) (by omega)).mono ?_; (simp [*, go_sem]); rintro e w2 ⟨rfl, n, rfl⟩))
  go_wp2
  refine bodyPost_ret (v := .tuple #[(.agg #[.int .i32 (f (idx C r c)).g, .int .i64 (f (idx C r c)).a, .bool (f (idx C r c)).b, .int .i64 (f (idx C r c)).m]), .int .i64 0]) (by simp [results, Tryz.results35, go_sem, hs1, z0, z1, z2, z3]) rfl ⟨rfl, ?_⟩
  exact ((kk.alloc _).drewN _).setCel _ _ (Or.inl (Nat.le_succ _)) (f (idx C r c))

/-- The cell that is none. -/
def zc : Cel := ⟨0, 0, false, 0⟩

set_option maxHeartbeats 400000 in
theorem at_out (g : Nat) (R C : Nat) (r c : Int) (w : World) (hR : w.cell? ⟨g, 0, none⟩ = some (.int .i64 R)) (hC : w.cell? ⟨g, 1, none⟩ = some (.int .i64 C)) (h : ¬ (0 ≤ r ∧ r < R ∧ 0 ≤ c ∧ c < C)) :
    Calls Tryz.prog 35 #[.pointer (some ⟨g, 0, none⟩), .agg #[.int .i64 r, .int .i64 c]] w fun e w' => e = .returned (.tuple #[(.agg #[.int .i32 zc.g, .int .i64 zc.a, .bool zc.b, .int .i64 zc.m]), .int .i64 11]) ∧ Kept0 w w' := by
  have hgl := World.block_lt_of_cell? w _ hC
  have H := Lib.hid h
  clear h
  unfold zc
  go_enter Tryz.func35, Tryz.ntmps35
  go_wp2_with fail
  refine (check_out g _ _ R C _ ?_ ?_ H.out).mono ?_
  · simp [go_sem, hgl, hR]
  · simp [go_sem, hgl, hC]
  rintro e w1 ⟨rfl, hk1⟩
  have z0 : w1.cell? ⟨w.heap.size + 1, 0, none⟩ = some (.int .i32 0) := kcell hk1 (by simp [go_sem])
  have z1 : w1.cell? ⟨w.heap.size + 1, 1, none⟩ = some (.int .i64 0) := kcell hk1 (by simp [go_sem])
  have z2 : w1.cell? ⟨w.heap.size + 1, 2, none⟩ = some (.bool false) := kcell hk1 (by simp [go_sem])
  have z3 : w1.cell? ⟨w.heap.size + 1, 3, none⟩ = some (.int .i64 0) := kcell hk1 (by simp [go_sem])
  have y0 : w1.frozen? ⟨w.heap.size + 1, 0, none⟩ = false := kfrozen hk1 (v := .int .i32 0) (by simp [go_sem]) (by simp [go_sem])
  have y1 : w1.frozen? ⟨w.heap.size + 1, 1, none⟩ = false := kfrozen hk1 (v := .int .i64 0) (by simp [go_sem]) (by simp [go_sem])
  have y2 : w1.frozen? ⟨w.heap.size + 1, 2, none⟩ = false := kfrozen hk1 (v := .bool false) (by simp [go_sem]) (by simp [go_sem])
  have y3 : w1.frozen? ⟨w.heap.size + 1, 3, none⟩ = false := kfrozen hk1 (v := .int .i64 0) (by simp [go_sem]) (by simp [go_sem])
  have kk : Kept0 w w1 := (((Kept.refl _ w).alloc _).alloc _).later hk1 (fun _ _ e => e)
  clear hk1
  go_wp2_with fail
  refine bodyPost_ret (v := .tuple #[.agg #[.int .i32 0, .int .i64 0, .bool false, .int .i64 0], .int .i64 11]) (by simp [results, Tryz.results35, go_sem, z0, z1, z2, z3]) rfl ⟨rfl, ?_⟩
  exact kk.setCel _ _ (Or.inl (Nat.le_succ _)) zc

set_option maxHeartbeats 400000 in
theorem at_nil (r c : Int) (w : World) :
    Calls Tryz.prog 35 #[.pointer none, .agg #[.int .i64 r, .int .i64 c]] w fun e w' => e = .returned (.tuple #[(.agg #[.int .i32 zc.g, .int .i64 zc.a, .bool zc.b, .int .i64 zc.m]), .int .i64 2]) ∧ Kept0 w w' := by
  unfold zc
  go_enter Tryz.func35, Tryz.ntmps35
  go_wp2_with fail
  refine (check_nil _ _ _).mono ?_
  rintro e w1 ⟨rfl, hk1⟩
  have z0 : w1.cell? ⟨w.heap.size + 1, 0, none⟩ = some (.int .i32 0) := kcell hk1 (by simp [go_sem])
  have z1 : w1.cell? ⟨w.heap.size + 1, 1, none⟩ = some (.int .i64 0) := kcell hk1 (by simp [go_sem])
  have z2 : w1.cell? ⟨w.heap.size + 1, 2, none⟩ = some (.bool false) := kcell hk1 (by simp [go_sem])
  have z3 : w1.cell? ⟨w.heap.size + 1, 3, none⟩ = some (.int .i64 0) := kcell hk1 (by simp [go_sem])
  have y0 : w1.frozen? ⟨w.heap.size + 1, 0, none⟩ = false := kfrozen hk1 (v := .int .i32 0) (by simp [go_sem]) (by simp [go_sem])
  have y1 : w1.frozen? ⟨w.heap.size + 1, 1, none⟩ = false := kfrozen hk1 (v := .int .i64 0) (by simp [go_sem]) (by simp [go_sem])
  have y2 : w1.frozen? ⟨w.heap.size + 1, 2, none⟩ = false := kfrozen hk1 (v := .bool false) (by simp [go_sem]) (by simp [go_sem])
  have y3 : w1.frozen? ⟨w.heap.size + 1, 3, none⟩ = false := kfrozen hk1 (v := .int .i64 0) (by simp [go_sem]) (by simp [go_sem])
  have kk : Kept0 w w1 := (((Kept.refl _ w).alloc _).alloc _).later hk1 (fun _ _ e => e)
  clear hk1
  go_wp2_with fail
  refine bodyPost_ret (v := .tuple #[.agg #[.int .i32 0, .int .i64 0, .bool false, .int .i64 0], .int .i64 2]) (by simp [results, Tryz.results35, go_sem, z0, z1, z2, z3]) rfl ⟨rfl, ?_⟩
  exact kk.setCel _ _ (Or.inl (Nat.le_succ _)) zc

set_option maxHeartbeats 1000000 in
theorem set_in (g t cap R C : Nat) (f : Nat → Cel) (r c : Int) (x : Cel) (w : World) (hg : GridAt w g t cap R C f) (hth : There R C r c) :
    Calls Tryz.prog 90 #[.pointer (some ⟨g, 0, none⟩), .agg #[.int .i64 r, .int .i64 c], (.agg #[.int .i32 x.g, .int .i64 x.a, .bool x.b, .int .i64 x.m])] w fun e w' => e = .returned (.int .i64 0) ∧ GridAt w' g t cap R C (upd f (idx C r c) x) ∧ Kept (· = t) w w' := by
  have hR2 := hg.R2
  have hC2 := hg.C2
  have hlt := idx_lt hth
  obtain ⟨N, hN⟩ : ∃ N, N = R * C := ⟨_, rfl⟩
  rw [← hN] at hlt
  obtain ⟨hr0, hr1, hc0, hc1⟩ := hth
  have hgl := hg.lt
  have c0 := hg.c0
  have c1 := hg.c1
  have c2 := hg.c2
  rw [← hN] at c2
  obtain ⟨e0, e1, e2, e3⟩ := hg.row.cell (k := idx C r c) (by omega)
  have f0 := hg.row.frozen (idx C r c * 4)
  have f1 := hg.row.frozen (idx C r c * 4 + 1)
  have f2 := hg.row.frozen (idx C r c * 4 + 2)
  have f3 := hg.row.frozen (idx C r c * 4 + 3)
  have HN := Lib.hid hN
  have htl := hg.row.lt
  have hne := hg.ne
  have hne1 : ¬ g = t := hg.ne
  have hne2 : ¬ t = g := fun e => hne e.symm
  have b1 : ¬ w.heap.size = t := by omega
  have b2 : ¬ t = w.heap.size := by omega
  have b3 : ¬ t = w.heap.size + 1 := by omega
  have b4 : ¬ w.heap.size + 1 = t := by omega
  clear hN
  go_enter Tryz.func90, Tryz.ntmps90
  go_wp2_with fail
  refine (check_in g _ _ R C _ ?_ ?_ hr0 hr1 hc0 hc1).mono ?_
  · simp [go_sem, hgl, c0]
  · simp [go_sem, hgl, c1]
  rintro e w1 ⟨rfl, hk1⟩
  have hs1 : w.heap.size + 1 < w1.heap.size := by have := hk1.size; simp at this; omega
  have hs0 : w.heap.size < w1.heap.size := by omega
  have k0 : w1.cell? ⟨w.heap.size, 0, none⟩ = some (.int .i64 r) := kcell hk1 (by simp [go_sem])
  have k1 : w1.cell? ⟨w.heap.size, 1, none⟩ = some (.int .i64 c) := kcell hk1 (by simp [go_sem])
  have z0 : w1.cell? ⟨w.heap.size + 1, 0, none⟩ = some (.int .i32 x.g) := kcell hk1 (by simp [go_sem])
  have z1 : w1.cell? ⟨w.heap.size + 1, 1, none⟩ = some (.int .i64 x.a) := kcell hk1 (by simp [go_sem])
  have z2 : w1.cell? ⟨w.heap.size + 1, 2, none⟩ = some (.bool x.b) := kcell hk1 (by simp [go_sem])
  have z3 : w1.cell? ⟨w.heap.size + 1, 3, none⟩ = some (.int .i64 x.m) := kcell hk1 (by simp [go_sem])
  have kk : Kept0 w w1 := (((Kept.refl _ w).alloc _).alloc _).later hk1 (fun _ _ e => e)
  have j1 := kcell kk c1
  have j2 := kcell kk c2
  have j3 := kcell kk e0
  have j4 := kcell kk e1
  have j5 := kcell kk e2
  have j6 := kcell kk e3
  have i3 := kfrozen kk e0 f0
  have i4 := kfrozen kk e1 f1
  have i5 := kfrozen kk e2 f2
  have i6 := kfrozen kk e3 f3
  have hgl1 : g < w1.heap.size := by omega
  have htl1 : t < w1.heap.size := by omega
  clear c0 c1 c2 e0 e1 e2 e3 hk1 f0 f1 f2 f3
  go_wp2_with fail
  go_region_held3 (fun w' => w'.cell? ⟨g, 2, none⟩ = some (Value.slice (some ⟨t, 0, none⟩) N cap) ∧ w'.cell? ⟨w.heap.size, 0, none⟩ = some (.int .i64 r) ∧ w'.cell? ⟨w.heap.size, 1, none⟩ = some (.int .i64 c) ∧ w'.cell? ⟨w.heap.size + 1, 0, none⟩ = some (.int .i32 x.g) ∧ w'.cell? ⟨w.heap.size + 1, 1, none⟩ = some (.int .i64 x.a) ∧ w'.cell? ⟨w.heap.size + 1, 2, none⟩ = some (.bool x.b) ∧ w'.cell? ⟨w.heap.size + 1, 3, none⟩ = some (.int .i64 x.m)) (go_keep)
    (first
      | (go_at_call 49; refine (index_at g _ _ C _ ?_ hr0 (by omega) hc0 (by omega) (by omega)).mono ?_; (simp [*, go_sem]); rintro e w2 ⟨rfl, n, rfl⟩))
  go_wp2
  go_ret
  have kt0 : Kept0 w _ := (kk.alloc (.cells #[.int .i64 r, .int .i64 c] 45)).drewN (1 + n)
  have kt : Kept (· = t) w _ := kt0.to
  exact ⟨rfl, hg.withRow (kt.setCel t (idx C r c * 4) (Or.inr rfl) x) ((hg.row.kept kt0 (fun e => e)).set (idx C r c) x), kt.setCel _ _ (Or.inr rfl) _⟩

set_option maxHeartbeats 400000 in
theorem set_out (g : Nat) (R C : Nat) (r c : Int) (x : Cel) (w : World) (hR : w.cell? ⟨g, 0, none⟩ = some (.int .i64 R)) (hC : w.cell? ⟨g, 1, none⟩ = some (.int .i64 C)) (h : ¬ (0 ≤ r ∧ r < R ∧ 0 ≤ c ∧ c < C)) :
    Calls Tryz.prog 90 #[.pointer (some ⟨g, 0, none⟩), .agg #[.int .i64 r, .int .i64 c], (.agg #[.int .i32 x.g, .int .i64 x.a, .bool x.b, .int .i64 x.m])] w fun e w' => e = .returned (.int .i64 11) ∧ Kept0 w w' := by
  have hgl := World.block_lt_of_cell? w _ hC
  have H := Lib.hid h
  clear h
  go_enter Tryz.func90, Tryz.ntmps90
  go_wp2_with fail
  refine (check_out g _ _ R C _ ?_ ?_ H.out).mono ?_
  · simp [go_sem, hgl, hR]
  · simp [go_sem, hgl, hC]
  rintro e w1 ⟨rfl, hk1⟩
  go_wp2_with fail
  go_ret
  exact ⟨rfl, (((Kept.refl _ w).alloc _).alloc _).later hk1 (fun _ _ e => e)⟩

theorem made_four (z : Array Value) (h : z.size = 4) (m i : Nat) (hi : i < m * 4) (v : Value) (hv : z[i % 4]? = some v) : (madeCells z (m * 4))[i]? = some v := by
  simp [madeCells, hi, h]
  rw [Array.getElem?_eq_some_iff] at hv
  obtain ⟨h1, h2⟩ := hv
  rw [getElem!_pos z (i % 4) h1, h2]

theorem made_cells (w : World) (m : Nat) : CellsAt (w.alloc (.cells (madeCells (Value.agg #[.int .i32 0, .int .i64 0, .bool false, .int .i64 0]).cells (m * 4)) 52)) w.heap.size m (fun _ => zc) := by
  refine ⟨_, heap_new w _, fun k hk => ⟨?_, ?_, ?_, ?_⟩⟩
  · exact made_four _ rfl _ _ (by omega) _ (by rw [show k * 4 % 4 = 0 by omega]; rfl)
  · exact made_four _ rfl _ _ (by omega) _ (by rw [show (k * 4 + 1) % 4 = 1 by omega]; rfl)
  · exact made_four _ rfl _ _ (by omega) _ (by rw [show (k * 4 + 2) % 4 = 2 by omega]; rfl)
  · exact made_four _ rfl _ _ (by omega) _ (by rw [show (k * 4 + 3) % 4 = 3 by omega]; rfl)

theorem run_make_four {P : Program} (t e : TypeId) (z : Value) (bytes : Nat) (ht : P.underlying t = some (.slice e)) (hinfo : (P.info? e).map (fun i => (i.zero, i.size, i.bytes)) = some (some z, 4, bytes))
    (kl kc : IntKind) (n : Nat) (hbytes : bytes * n ≤ 281474976710656) (h63 : n ≤ 9223372036854775807) (w : World) :
    (Instr.makeSlice t (.int kl (n : Int)) (.int kc (n : Int))).run P w = .ok (.slice (some ⟨w.heap.size, 0, none⟩) n n) (w.alloc (.cells (madeCells z.cells (n * 4)) e)) := by
  obtain ⟨i, hi, hzz⟩ := Option.map_eq_some_iff.1 hinfo
  simp only [Prod.mk.injEq] at hzz
  obtain ⟨hz, hs, hb⟩ := hzz
  have hb' : (i.bytes : Int) * (n : Int) ≤ 281474976710656 := by
    have h : ((i.bytes * n : Nat) : Int) ≤ 281474976710656 := by rw [hb]; omega
    rwa [Int.natCast_mul] at h
  have hr := run_make (P := P) w t e i z ht hi hz kl kc n n (by omega) (Int.le_refl _) hb' (by omega)
  simp only [Int.toNat_natCast, hs] at hr
  exact hr

theorem Tryz.info52 : (Tryz.prog.info? 52).map (fun i => (i.zero, i.size, i.bytes)) = some (some (.agg #[.int .i32 0, .int .i64 0, .bool false, .int .i64 0]), 4, 32) := by kernel_rfl

set_option maxHeartbeats 1000000 in
theorem new_yes (R C : Nat) (x : Cel) (w : World) (h1 : 1 ≤ R) (h2 : R ≤ 255) (h3 : 1 ≤ C) (h4 : C ≤ 255) :
    Calls Tryz.prog 36 #[.agg #[.int .i64 R, .int .i64 C], (.agg #[.int .i32 x.g, .int .i64 x.a, .bool x.b, .int .i64 x.m])] w fun e w' => ∃ g t, e = .returned (.tuple #[.pointer (some ⟨g, 0, none⟩), .int .i64 0]) ∧ w.heap.size ≤ g ∧ w.heap.size ≤ t ∧ GridAt w' g t (R * C) R C (fun _ => x) ∧ Kept0 w w' := by
  have hm : mayE (R : Int) (C : Int) = 0 := mayE_yes (by omega)
  obtain ⟨m, hmd⟩ : ∃ m, m = R * C := ⟨_, rfl⟩
  have hml : m ≤ 65025 := by rw [hmd]; exact Nat.mul_le_mul h2 h4
  have hw : wrap64 ((R : Int) * (C : Int)) = (m : Int) := by
    have : ((R : Int) * (C : Int)) = (m : Int) := by rw [hmd]; simp
    rw [this]; exact w64 (by omega) (by omega)
  have hw2 : IntKind.i64.wrap ((R : Int) * (C : Int)) = (m : Int) := by rw [IntWalk.i64_left]; exact hw
  have Hmd := Lib.hid hmd
  clear hmd
  obtain ⟨Z, hZ⟩ : ∃ Z, Z = madeCells (Value.agg #[.int .i32 0, .int .i64 0, .bool false, .int .i64 0]).cells (m * 4) := ⟨_, rfl⟩
  have hmk := run_make_four (P := Tryz.prog) 50 52 _ 32 Tryz.underlying50 Tryz.info52 .i64 .i64 m (by omega) (by omega)
  rw [← hZ] at hmk
  have HZ := Lib.hid hZ
  clear hZ
  go_enter Tryz.func36, Tryz.ntmps36
  go_wp2_with fail
  refine (may_any _ _ _).mono ?_
  rw [hm]
  clear hm
  rintro e w1 ⟨rfl, hk1⟩
  have k0 : w1.cell? ⟨w.heap.size, 0, none⟩ = some (.int .i64 R) := kcell hk1 (by simp [go_sem])
  have k1 : w1.cell? ⟨w.heap.size, 1, none⟩ = some (.int .i64 C) := kcell hk1 (by simp [go_sem])
  have z0 : w1.cell? ⟨w.heap.size + 1, 0, none⟩ = some (.int .i32 x.g) := kcell hk1 (by simp [go_sem])
  have z1 : w1.cell? ⟨w.heap.size + 1, 1, none⟩ = some (.int .i64 x.a) := kcell hk1 (by simp [go_sem])
  have z2 : w1.cell? ⟨w.heap.size + 1, 2, none⟩ = some (.bool x.b) := kcell hk1 (by simp [go_sem])
  have z3 : w1.cell? ⟨w.heap.size + 1, 3, none⟩ = some (.int .i64 x.m) := kcell hk1 (by simp [go_sem])
  have hs1 : w.heap.size + 1 < w1.heap.size := by have := hk1.size; simp at this; omega
  have hs0 : w.heap.size < w1.heap.size := by omega
  have kk : Kept0 w w1 := (((Kept.refl _ w).alloc _).alloc _).later hk1 (fun _ _ e => e)
  clear hk1
  go_wp2_with fail
  go_region
  have hI : CellsAt ((w1.alloc (Obj.cells Z 52)).alloc (Obj.cells #[Value.int IntKind.i64 ↑R, Value.int IntKind.i64 ↑C, Value.slice (some { block := w1.heap.size, off := 0 }) m m] 108)).drew w1.heap.size m (fun _ => zc) := by
    rw [HZ.out]; exact (made_cells w1 m).alloc _
  have hG : ((w1.alloc (Obj.cells Z 52)).alloc (Obj.cells #[Value.int IntKind.i64 ↑R, Value.int IntKind.i64 ↑C, Value.slice (some { block := w1.heap.size, off := 0 }) m m] 108)).drew.heap[w1.heap.size + 1]? = some (Obj.cells #[Value.int IntKind.i64 ↑R, Value.int IntKind.i64 ↑C, Value.slice (some { block := w1.heap.size, off := 0 }) m m] 108) := by
    exact heap_new2 w1 _ _
  have HG := Lib.hid hG
  have k2 : Kept0 w ((w1.alloc (Obj.cells Z 52)).alloc (Obj.cells #[Value.int IntKind.i64 ↑R, Value.int IntKind.i64 ↑C, Value.slice (some { block := w1.heap.size, off := 0 }) m m] 108)).drew := (((kk.alloc _).alloc _).drew)
  have hs2 : w1.heap.size + 1 < ((w1.alloc (Obj.cells Z 52)).alloc (Obj.cells #[Value.int IntKind.i64 ↑R, Value.int IntKind.i64 ↑C, Value.slice (some { block := w1.heap.size, off := 0 }) m m] 108)).drew.heap.size := by simp
  clear hG
  generalize hw2 : ((w1.alloc (Obj.cells Z 52)).alloc (Obj.cells #[Value.int IntKind.i64 ↑R, Value.int IntKind.i64 ↑C, Value.slice (some { block := w1.heap.size, off := 0 }) m m] 108)).drew = W at *
  have q2 : W.cell? ⟨w1.heap.size + 1, 2, none⟩ = some (Value.slice (some { block := w1.heap.size, off := 0 }) m m) := by simp [World.cell?, HG.out]
  have k3 : Kept0 w1 W := hw2 ▸ ((((Kept.refl _ w1).alloc _).alloc _).drew)
  replace z0 := kcell k3 z0
  replace z1 := kcell k3 z1
  replace z2 := kcell k3 z2
  replace z3 := kcell k3 z3
  clear hw2 hw hmk
  go_wp2_with fail
  go_region_held3 (fun w' => w'.cell? ⟨w1.heap.size + 1, 2, none⟩ = some (Value.slice (some { block := w1.heap.size, off := 0 }) m m) ∧ w'.cell? ⟨w.heap.size + 1, 0, none⟩ = some (.int .i32 x.g) ∧ w'.cell? ⟨w.heap.size + 1, 1, none⟩ = some (.int .i64 x.a) ∧ w'.cell? ⟨w.heap.size + 1, 2, none⟩ = some (.bool x.b) ∧ w'.cell? ⟨w.heap.size + 1, 3, none⟩ = some (.int .i64 x.m)) (go_keep)
    (first
      | (go_at_call 53; refine (paint_any w1.heap.size 0 m m m x (fun _ => zc) _ (CellsAt.drewN hI 1) (by omega) (by omega)).mono ?_; rintro e w2 ⟨rfl, hI2, hk2⟩; have v0 := kcellS hk2 (show W.drew.cell? _ = _ from q2) (by omega); have v1 := kcellS hk2 (show W.drew.cell? _ = _ from z0) (by omega); have v2 := kcellS hk2 (show W.drew.cell? _ = _ from z1) (by omega); have v3 := kcellS hk2 (show W.drew.cell? _ = _ from z2) (by omega); have v4 := kcellS hk2 (show W.drew.cell? _ = _ from z3) (by omega)))
  go_wp2
  go_ret2
  obtain rfl := Hmd.out
  refine ⟨w1.heap.size + 1, w1.heap.size, rfl, by omega, by omega, ⟨?_, hI2.congr (fun k hk => by simp [fillF]; omega), Nat.le_refl _, h1, h2, h3, h4⟩, ?_⟩
  · exact (hk2.block _ hs2 (by simp)).trans HG.out
  · exact (k2.drewN 1).later hk2 (fun i hi e => by omega)
end Go.Proofs.YtlhajbcabpfbkaaGreatDoor

/-
  Rows of cells: Clone, and copy; what move does.
-/
namespace Go.Proofs.YtlhajbcabpfbkaaGreatDoor
open Go.RowKit

theorem addr_add (t o j : Nat) : (⟨t, o, none⟩ : Addr).add j = ⟨t, o + j, none⟩ := by
  by_cases h : j = 0
  · subst h; simp [Addr.add]
  · simp [Addr.add, h]

/-- One part of a cell. -/
def Cel.at (x : Cel) (j : Nat) : Value := match j with | 0 => .int .i32 x.g | 1 => .int .i64 x.a | 2 => .bool x.b | _ => .int .i64 x.m
theorem Cel.at_one (x : Cel) (j : Nat) : (x.at j).oneCell' = true := by unfold Cel.at; split <;> rfl
/-- The parts of n cells, from o on, one behind the other. -/
def parts (f : Nat → Cel) (o n : Nat) : List Value := (List.range (n * 4)).map fun j => (f (o + j / 4)).at (j % 4)
theorem parts_length (f : Nat → Cel) (o n : Nat) : (parts f o n).length = n * 4 := by simp [parts]
theorem parts_get (f : Nat → Cel) (o n j : Nat) (h : j < n * 4) : (parts f o n)[j]? = some ((f (o + j / 4)).at (j % 4)) := by
  simp [parts, h]
theorem parts_one (f : Nat → Cel) (o n : Nat) : ∀ v ∈ parts f o n, v.oneCell' = true := by
  intro v hv
  simp only [parts, List.mem_map] at hv
  obtain ⟨j, _, rfl⟩ := hv
  exact Cel.at_one _ _

/-- A row whose parts are known, part by part. -/
theorem CellsAt.of_parts {w : World} {t N : Nat} {f : Nat → Cel} {cur : Array Value} (h : w.heap[t]? = some (.cells cur 52 (0, 0))) (hp : ∀ j, j < N * 4 → cur[j]? = some ((f (j / 4)).at (j % 4))) : CellsAt w t N f := by
  refine ⟨cur, h, fun k hk => ⟨?_, ?_, ?_, ?_⟩⟩
  · have := hp (k * 4) (by omega)
    rwa [show k * 4 / 4 = k by omega, show k * 4 % 4 = 0 by omega] at this
  · have := hp (k * 4 + 1) (by omega)
    rwa [show (k * 4 + 1) / 4 = k by omega, show (k * 4 + 1) % 4 = 1 by omega] at this
  · have := hp (k * 4 + 2) (by omega)
    rwa [show (k * 4 + 2) / 4 = k by omega, show (k * 4 + 2) % 4 = 2 by omega] at this
  · have := hp (k * 4 + 3) (by omega)
    rwa [show (k * 4 + 3) / 4 = k by omega, show (k * 4 + 3) % 4 = 3 by omega] at this

theorem CellsAt.parts {w : World} {t N : Nat} {f : Nat → Cel} (h : CellsAt w t N f) : ∃ cur : Array Value, w.heap[t]? = some (.cells cur 52 (0, 0)) ∧ N * 4 ≤ cur.size ∧ ∀ j, j < N * 4 → cur[j]? = some ((f (j / 4)).at (j % 4)) := by
  obtain ⟨cur, h1, h2⟩ := h
  have hp : ∀ j, j < N * 4 → cur[j]? = some ((f (j / 4)).at (j % 4)) := by
    intro j hj
    obtain ⟨e0, e1, e2, e3⟩ := h2 (j / 4) (by omega)
    rcases (show j % 4 = 0 ∨ j % 4 = 1 ∨ j % 4 = 2 ∨ j % 4 = 3 by omega) with e | e | e | e
    · rw [e, ← show j / 4 * 4 = j by omega, show j / 4 * 4 / 4 = j / 4 by omega]; exact e0
    · rw [e, ← show j / 4 * 4 + 1 = j by omega, show (j / 4 * 4 + 1) / 4 = j / 4 by omega]; exact e1
    · rw [e, ← show j / 4 * 4 + 2 = j by omega, show (j / 4 * 4 + 2) / 4 = j / 4 by omega]; exact e2
    · rw [e, ← show j / 4 * 4 + 3 = j by omega, show (j / 4 * 4 + 3) / 4 = j / 4 by omega]; exact e3
  refine ⟨cur, h1, ?_, hp⟩
  by_cases h0 : N = 0
  · omega
  · have := (Array.getElem?_eq_some_iff.1 (hp (N * 4 - 1) (by omega))).1
    omega

theorem CellsAt.part {w : World} {t N : Nat} {f : Nat → Cel} (h : CellsAt w t N f) {j : Nat} (hj : j < N * 4) : w.cell? ⟨t, j, none⟩ = some ((f (j / 4)).at (j % 4)) := by
  obtain ⟨cur, h1, _, h3⟩ := h.parts
  simp [World.cell?, h1, h3 j hj]

theorem cells_of_owned {w : World} {base n : Nat} {v : Value} {xs : List Value} {f : Nat → Cel} (h : w.ownsRow base 52 4 v n xs) (hx : ∀ j, j < n * 4 → xs[j]? = some ((f (j / 4)).at (j % 4))) (h1 : 1 ≤ n) :
    ∃ g cap, v = .slice (some ⟨g, 0, none⟩) n cap ∧ base ≤ g ∧ n ≤ cap ∧ CellsAt w g n f := by
  obtain ⟨_, ⟨_, h0⟩ | ⟨g, cap, cur, hv, hb, hh, hc, _, hs, ht⟩⟩ := h
  · omega
  · refine ⟨g, cap, hv, hb, hc, CellsAt.of_parts hh fun j hj => ?_⟩
    have := hx j hj
    rw [← ht] at this
    rw [List.getElem?_take_of_lt (by omega)] at this
    simpa using this

set_option maxHeartbeats 400000 in
theorem clone_any (t o n cap N : Nat) (f : Nat → Cel) (w : World) (hrow : CellsAt w t N f) (ho : o + n ≤ N) (h1 : 1 ≤ n) (h2 : n ≤ 70000) :
    Calls Tryz.prog 50 #[.slice (some ⟨t, o * 4, none⟩) n cap] w fun e w' => ∃ g cap', e = .returned (.slice (some ⟨g, 0, none⟩) n cap') ∧ w.heap.size ≤ g ∧ n ≤ cap' ∧ CellsAt w' g n (fun k => f (o + k)) ∧ Kept0 w w' := by
  have htl := hrow.lt
  have hnil := fun w => Lib.run_eql_slice_nil (P := Tryz.prog) w 50 52 (some ⟨t, o * 4, none⟩) n cap 0 0 Tryz.underlying50
  obtain ⟨i0, hi, hz0, hz1, hz2⟩ := info_parts Tryz.info52
  go_enter Tryz.func50, Tryz.ntmps50
  go_wp2_with (at_builtin; refine wpList_append_own _ rfl _ _ 50 rfl w.heap.size 52 i0 (.agg #[.int .i32 0, .int .i64 0, .bool false, .int .i64 0]) 4 32 Tryz.underlying50 hi hz0 hz1 hz2 rfl (by decide) _ 0 [] rfl ?c0 ⟨t, o * 4, none⟩ n cap (parts f o n) rfl (by simp [parts_length]) ?c1 (parts_one _ _ _) ?c3 ?c4 ?c5 ?_)
  case c0 => exact World.ownsRow_made w #[] 0 (Nat.le_refl _) (by simp) (by simp)
  case c1 =>
    intro j u hj
    have hlt : j < n * 4 := by have := (List.getElem?_eq_some_iff.1 hj).1; rwa [parts_length] at this
    rw [parts_get _ _ _ _ hlt] at hj
    have := (hrow.alloc (Obj.cells #[] 52)).part (j := o * 4 + j) (by omega)
    rw [addr_add, ← hj]
    rw [show (o * 4 + j) / 4 = o + j / 4 by omega, show (o * 4 + j) % 4 = j % 4 by omega] at this
    exact this
  case c3 => unfold maxLen; omega
  case c4 => omega
  case c5 => simp
  intro v' w1 hown hgrow _
  go_wp2
  obtain ⟨g, cap', rfl, hb, hc, hI⟩ := cells_of_owned (f := fun k => f (o + k)) hown (fun k hk => by rw [parts_get _ _ _ _ (by omega)]) (by omega)
  go_ret
  refine ⟨g, cap', rfl, hb, hc, hI, ((Kept.refl _ w).alloc _).later (Kept.ofGrown hgrow) (fun i hi e => by simp [Value.ownBlock] at e; omega)⟩
end Go.Proofs.YtlhajbcabpfbkaaGreatDoor

/-
  copy within a row of numbers, and what move does.
-/
namespace Go.Proofs.YtlhajbcabpfbkaaGreatDoor
open Go.RowKit

theorem run_copy_four {P : Program} (w : World) (dT sT ty elem : TypeId) (g o dLen dCap : Nat) (a : Addr) (sLen sCap : Nat) (cur : Array Value) (t : TypeId) (cs : List Value)
    (hu : P.underlying dT = some (.slice elem)) (hs : (P.info? elem).map (·.size) = some 4)
    (hg : w.heap[g]? = some (.cells cur t (0, 0))) (hn : cs.length = Nat.min sLen dLen * 4)
    (hsrc : ∀ j v, cs[j]? = some v → w.cell? (a.add j) = some v) (hfit : o + cs.length ≤ cur.size) (h1 : ∀ v ∈ cs, v.oneCell' = true) :
    (Builtin.copy_ #[dT, sT] ty #[.slice (some ⟨g, o, none⟩) dLen dCap, .slice (some a) sLen sCap]).run P w =
      .ok (goInt (Nat.min sLen dLen)) (w.setRow g (cur.toList.take o ++ cs ++ cur.toList.drop (o + cs.length)).toArray) := by
  have hl := run_loadCells_list (P := P) w a cs hsrc
  have hst := run_storeCells_at P g o t cs 0 cur w hg (by simpa using hfit) h1
  cases hq : P.info? elem with
  | none => simp [hq] at hs
  | some i =>
    have hi : i.size = 4 := by simpa [hq] using hs
    simp [Builtin.copy_, run_underlying hu, Builtin.lenOf, Builtin.firstCells, sizeOf, typeInfo, hq, hi, ← hn, hl, hst]

theorem run_copy_no {P : Program} (w : World) (dT sT ty elem : TypeId) (d a : Option Addr) (dLen dCap sLen sCap : Nat) (hu : P.underlying dT = some (.slice elem)) (hs : (P.info? elem).map (·.size) = some 4) (hn : Nat.min sLen dLen = 0) :
    (Builtin.copy_ #[dT, sT] ty #[.slice d dLen dCap, .slice a sLen sCap]).run P w = .ok (goInt 0) w := by
  cases hq : P.info? elem with
  | none => simp [hq] at hs
  | some i =>
    have hl : ∀ (x : Addr), (loadCells x 0).run P w = .ok #[] w := fun x => by simpa using run_loadCells_list (P := P) w x [] (by simp)
    cases d <;> cases a <;> simp [Builtin.copy_, run_underlying hu, Builtin.lenOf, Builtin.firstCells, sizeOf, typeInfo, hq, hn, storeCells, hl]

/-- 'copy' within one row of cells. -/
theorem wpList_copy_cells {P : Program} {w : World} {ops : Array Oper} {rest : List Oper} {o : Oper} {a : Act} {Q : Exit → Act → World → Prop} (hgd : o.guard = none) (d s : Operand) (dT sT : TypeId)
    (ho : o.op = .call { callee := .builtin .copy, args := #[d, s], argTypes := #[dT, sT] }) (elem : TypeId) (hu : P.underlying dT = some (.slice elem)) (hsz : (P.info? elem).map (·.size) = some 4)
    (dp sp : Option Addr) (dLen dCap sLen sCap : Nat) (hd : a.eval d = .slice dp dLen dCap) (hs : a.eval s = .slice sp sLen sCap)
    (t N : Nat) (f : Nat → Cel) (hrow : CellsAt w t N f) (p q n : Nat) (hn : n = Nat.min sLen dLen)
    (hpos : 0 < n → dp = some ⟨t, p * 4, none⟩ ∧ sp = some ⟨t, q * 4, none⟩ ∧ p + n ≤ N ∧ q + n ≤ N)
    (h : ∀ w', CellsAt w' t N (copyF f p n q) → Kept (· = t) w w' → wpList P ops Q rest (a.put o.dst (goInt n)) w') :
    wpList P ops Q (o :: rest) a w := by
  refine wpList_plain hgd fun K hK => ?_
  by_cases h0 : n = 0
  · have hrun := run_copy_no (P := P) w dT sT o.type elem dp sp dLen dCap sLen sCap hu hsz (by omega)
    have := h w (hrow.congr (fun k _ => by rw [h0]; simp [copyF]; intro h1 h2; omega)) (Kept.refl _ _)
    rw [h0] at this
    unfold Oper.wp
    simp [execOp, ho, resolve, invoke, builtin, hd, hs, hrun, Result.andThen]
    exact hK _ _ this
  · obtain ⟨rfl, rfl, h1, h2⟩ := hpos (by omega)
    obtain ⟨cur, hc1, hc3, hc2⟩ := hrow.parts
    have hrun := run_copy_four (P := P) w dT sT o.type elem t (p * 4) dLen dCap ⟨t, q * 4, none⟩ sLen sCap cur 52 (parts f q n) hu hsz hc1 (by rw [parts_length, hn]) (by
      intro j v hj
      have hlt : j < n * 4 := by have := (List.getElem?_eq_some_iff.1 hj).1; rwa [parts_length] at this
      rw [parts_get _ _ _ _ hlt] at hj
      have := hrow.part (j := q * 4 + j) (by omega)
      rw [addr_add, ← hj]
      rw [show (q * 4 + j) / 4 = q + j / 4 by omega, show (q * 4 + j) % 4 = j % 4 by omega] at this
      exact this) (by rw [parts_length]; omega) (parts_one _ _ _)
    rw [← hn] at hrun
    unfold Oper.wp
    simp only [execOp, ho, resolve, invoke, builtin, Sem.run_bind, Sem.run_pure, Result.andThen_ok, List.map_toArray, List.map_cons, List.map_nil, hd, hs, hrun]
    refine hK _ _ (h _ (CellsAt.of_parts (setRow_heap w t cur _ 52 _ hc1) fun k hk => ?_) ⟨rfl, rfl, rfl, by simp, fun k _ hs => setRow_other w t k _ hs⟩)
    have hk2 := hc2 k hk
    have hpl := parts_length f q n
    unfold copyF
    simp only [List.getElem?_toArray]
    by_cases e1 : p * 4 ≤ k
    · by_cases e2 : k < p * 4 + n * 4
      · rw [if_pos ⟨by omega, by omega⟩]
        rw [List.append_assoc, List.getElem?_append_right (by simp; omega), List.getElem?_append_left (by simp [hpl]; omega)]
        have e3 : k - (cur.toList.take (p * 4)).length = k - p * 4 := by simp; omega
        rw [e3, parts_get _ _ _ _ (by omega)]
        rw [show q + (k - p * 4) / 4 = k / 4 - p + q by omega, show (k - p * 4) % 4 = k % 4 by omega]
      · rw [if_neg (by omega)]
        rw [List.append_assoc, List.getElem?_append_right (by simp; omega), List.getElem?_append_right (by simp [hpl]; omega)]
        simp [hpl]
        rw [← hk2]; congr 1; omega
    · rw [if_neg (by omega)]
      rw [List.append_assoc, List.getElem?_append_left (by simp; omega)]
      simp [List.getElem?_take_of_lt (show k < p * 4 by omega), hk2]

/-- What stands from o on, L of them, moves by n, and x comes where nothing comes. -/
def moveF (f : Nat → Cel) (o L : Nat) (n : Int) (x : Cel) : Nat → Cel := fun k =>
  if o ≤ k ∧ k < o + L then (if (o : Int) ≤ k + n ∧ (k : Int) + n < o + L then f ((k : Int) + n).toNat else x) else f k

theorem moveF_up (f : Nat → Cel) (o j m : Nat) (x : Cel) (k : Nat) : fillF (copyF f o j (o + m)) (o + j) m x k = moveF f o (m + j) (m : Int) x k := by
  unfold fillF copyF moveF
  by_cases h1 : o ≤ k ∧ k < o + (m + j)
  · rw [if_pos h1]
    by_cases h2 : k < o + j
    · rw [if_neg (by omega), if_pos (by omega), if_pos (by omega)]
      congr 1; omega
    · rw [if_pos (by omega), if_neg (by omega)]
  · rw [if_neg h1, if_neg (by omega), if_neg (by omega)]

theorem moveF_down (f : Nat → Cel) (o L m : Nat) (x : Cel) (k : Nat) (hm : m ≤ L) : fillF (copyF f (o + m) (L - m) o) o m x k = moveF f o L (-(m : Int)) x k := by
  unfold fillF copyF moveF
  by_cases h1 : o ≤ k ∧ k < o + L
  · rw [if_pos h1]
    by_cases h2 : k < o + m
    · rw [if_pos (by omega), if_neg (by omega)]
    · rw [if_neg (by omega), if_pos (by omega), if_pos (by omega)]
      congr 1; omega
  · rw [if_neg h1, if_neg (by omega), if_neg (by omega)]

theorem moveF_none (f : Nat → Cel) (o L : Nat) (x : Cel) (k : Nat) : f k = moveF f o L 0 x k := by
  unfold moveF
  by_cases h1 : o ≤ k ∧ k < o + L
  · rw [if_pos h1, if_pos (by omega)]
    congr 1
  · rw [if_neg h1]

theorem paint_zero (a : Option Addr) (cap : Nat) (x : Cel) (w : World) :
    Calls Tryz.prog 53 #[.slice a 0 cap, (.agg #[.int .i32 x.g, .int .i64 x.a, .bool x.b, .int .i64 x.m])] w fun e w' => e = .returned (.tuple #[]) ∧ Kept0 w w' := by
  go_enter Tryz.func53, Tryz.ntmps53
  go_wp2
  refine wp_loop_rounds 1 ?_
  rw [rounds_succ]
  go_wp2
  go_end0
  exact ⟨rfl, (Kept.refl _ w).alloc _⟩

theorem Tryz.four52 : (Tryz.prog.info? 52).map (·.size) = some 4 := by kernel_rfl

/-- A cell that lies in a block of its own. -/
structure CelAt (w : World) (b : Nat) (x : Cel) : Prop where
  c0 : w.cell? ⟨b, 0, none⟩ = some (.int .i32 x.g)
  c1 : w.cell? ⟨b, 1, none⟩ = some (.int .i64 x.a)
  c2 : w.cell? ⟨b, 2, none⟩ = some (.bool x.b)
  c3 : w.cell? ⟨b, 3, none⟩ = some (.int .i64 x.m)
theorem CelAt.new (w : World) (x : Cel) (t : TypeId) : CelAt (w.alloc (.cells #[.int .i32 x.g, .int .i64 x.a, .bool x.b, .int .i64 x.m] t)) w.heap.size x := by
  obtain ⟨h0, h1, h2, h3⟩ := cel_new w x t
  exact ⟨h0, h1, h2, h3⟩
theorem CelAt.kept {S : Nat → Prop} {w w' : World} {b : Nat} {x : Cel} (h : CelAt w b x) (k : Kept S w w') (hs : ¬ S b) : CelAt w' b x :=
  ⟨kcellS k h.c0 hs, kcellS k h.c1 hs, kcellS k h.c2 hs, kcellS k h.c3 hs⟩
theorem CelAt.drew {w : World} {b : Nat} {x : Cel} (h : CelAt w b x) : CelAt w.drew b x := ⟨h.c0, h.c1, h.c2, h.c3⟩

set_option maxHeartbeats 1000000 in
theorem move_down (t o L N cap m : Nat) (x : Cel) (f : Nat → Cel) (w : World) (hrow : CellsAt w t N f) (ho : o + L ≤ N) (hN : N ≤ 70000) (hcap : L ≤ cap) (hm : m ≤ L) (hm0 : 0 < m) :
    Calls Tryz.prog 121 #[.slice (some ⟨t, o * 4, none⟩) L cap, .int .i64 (-(m : Int)), (.agg #[.int .i32 x.g, .int .i64 x.a, .bool x.b, .int .i64 x.m])] w fun e w' => e = .returned (.tuple #[]) ∧ CellsAt w' t N (moveF f o L (-(m : Int)) x) ∧ Kept (· = t) w w' := by
  have hlt : -(m : Int) < 0 := by omega
  have hc0 : ¬ cap = 0 := by omega
  have hmc : m ≤ cap := by omega
  have hwm : IntKind.i64.wrap (m : Int) = m := by rw [IntWalk.i64_left]; exact w64 (by omega) (by omega)
  have hwm2 : IntKind.i64.wrap (-(-(m : Int))) = m := by rw [Int.neg_neg]; exact hwm
  have hrow0 := hrow.alloc (.cells #[.int .i32 x.g, .int .i64 x.a, .bool x.b, .int .i64 x.m] 52)
  have htl := hrow.lt
  have hx := CelAt.new w x 52
  go_enter Tryz.func121, Tryz.ntmps121
  go_wp2_with (with_reducible refine wpList_copy_cells rfl _ _ 50 50 rfl 52 Tryz.underlying50 Tryz.four52 _ _ _ _ _ _ rfl rfl t N f hrow0 (o + m) o (L - m) ?c1 ?c2 ?c3)
  case c1 => simp
  case c2 => omega
  case c2 => intro h; first | omega | exact ⟨by rw [Nat.add_mul], rfl, by omega, by omega⟩ | exact ⟨by omega, by omega⟩
  all_goals
    intro w1 hI1 hk1
    replace hx := hx.kept hk1 (by omega)
    obtain ⟨z0, z1, z2, z3⟩ := hx
    go_wp2_with fail
    go_region_held3 (fun w' => w'.cell? ⟨w.heap.size, 0, none⟩ = some (.int .i32 x.g) ∧ w'.cell? ⟨w.heap.size, 1, none⟩ = some (.int .i64 x.a) ∧ w'.cell? ⟨w.heap.size, 2, none⟩ = some (.bool x.b) ∧ w'.cell? ⟨w.heap.size, 3, none⟩ = some (.int .i64 x.m)) (go_keep)
      (first
        | (go_at_call 53; refine (paint_any t o m N _ x _ _ (CellsAt.drewN hI1 1) (by omega) hN).mono ?_; rintro e w2 ⟨rfl, hI2, hk2⟩; obtain ⟨v0, v1, v2, v3⟩ := (CelAt.drew ⟨z0, z1, z2, z3⟩).kept hk2 (by omega)))
    go_wp2
    refine bodyPost_ret (results_none rfl _ _ _) rfl ?_
    exact ⟨rfl, hI2.congr (fun k hk => moveF_down f o L m x k hm), (((Kept.refl _ w).alloc _).later hk1 (fun _ _ e => e)).drew.trans hk2⟩

set_option maxHeartbeats 1000000 in
theorem move_none (t o L N cap : Nat) (x : Cel) (f : Nat → Cel) (w : World) (hrow : CellsAt w t N f) (ho : o + L ≤ N) (hN : N ≤ 70000) (hcap : L ≤ cap) :
    Calls Tryz.prog 121 #[.slice (some ⟨t, o * 4, none⟩) L cap, .int .i64 0, (.agg #[.int .i32 x.g, .int .i64 x.a, .bool x.b, .int .i64 x.m])] w fun e w' => e = .returned (.tuple #[]) ∧ CellsAt w' t N f ∧ Kept (· = t) w w' := by
  have hrow0 := hrow.alloc (.cells #[.int .i32 x.g, .int .i64 x.a, .bool x.b, .int .i64 x.m] 52)
  have htl := hrow.lt
  have hx := CelAt.new w x 52
  have hwL : IntKind.i64.wrap (L : Int) = L := by rw [IntWalk.i64_left]; exact w64 (by omega) (by omega)
  have hw0 : IntKind.i64.wrap 0 = 0 := by rw [IntWalk.i64_left]; exact w64 (by omega) (by omega)
  by_cases hc : cap = 0
  · obtain rfl : L = 0 := by omega
    subst hc
    go_enter Tryz.func121, Tryz.ntmps121
    go_wp2_with (with_reducible refine wpList_copy_cells rfl _ _ 50 50 rfl 52 Tryz.underlying50 Tryz.four52 _ _ _ _ _ _ rfl rfl t N f hrow0 o o 0 ?c1 ?c2 ?c3)
    case c1 => simp
    intro w1 hI1 hk1
    replace hx := hx.kept hk1 (by omega)
    obtain ⟨z0, z1, z2, z3⟩ := hx
    go_wp2_with fail
    go_region_held3 (fun w' => w'.cell? ⟨w.heap.size, 0, none⟩ = some (.int .i32 x.g) ∧ w'.cell? ⟨w.heap.size, 1, none⟩ = some (.int .i64 x.a) ∧ w'.cell? ⟨w.heap.size, 2, none⟩ = some (.bool x.b) ∧ w'.cell? ⟨w.heap.size, 3, none⟩ = some (.int .i64 x.m)) (go_keep)
      (first
        | (go_at_call 53; refine (paint_zero _ _ x _).mono ?_; rintro e w2 ⟨rfl, hk2⟩; obtain ⟨v0, v1, v2, v3⟩ := (CelAt.drew ⟨z0, z1, z2, z3⟩).kept hk2 (fun e => e)))
    go_wp2
    go_end0
    exact ⟨rfl, ((CellsAt.drewN hI1 1).kept hk2 (fun e => e)).congr (fun k hk => by simp [copyF]; intro h1 h2; omega), (((Kept.refl _ w).alloc _).later hk1 (fun _ _ e => e)).drew.later hk2 (fun _ _ e => e.elim)⟩
  · go_enter Tryz.func121, Tryz.ntmps121
    go_wp2_with (with_reducible refine wpList_copy_cells rfl _ _ 50 50 rfl 52 Tryz.underlying50 Tryz.four52 _ _ _ _ _ _ rfl rfl t N f hrow0 o o L ?d1 ?d2 ?d3)
    case d1 => simp
    intro w1 hI1 hk1
    have hfin : CellsAt w1 t N f := hI1.congr (fun k hk => by simp [copyF]; intro h1 h2; congr 1; omega)
    clear hI1
    replace hx := hx.kept hk1 (by omega)
    obtain ⟨z0, z1, z2, z3⟩ := hx
    have hk1' := ((Kept.refl (· = t) w).alloc _).later hk1 (fun _ _ e => e)
    clear hk1
    by_cases hc2 : cap = L
    · subst hc2
      go_wp2_with fail
      go_region_held3 (fun w' => w'.cell? ⟨w.heap.size, 0, none⟩ = some (.int .i32 x.g) ∧ w'.cell? ⟨w.heap.size, 1, none⟩ = some (.int .i64 x.a) ∧ w'.cell? ⟨w.heap.size, 2, none⟩ = some (.bool x.b) ∧ w'.cell? ⟨w.heap.size, 3, none⟩ = some (.int .i64 x.m)) (go_keep)
        (first
          | (go_at_call 53; refine (paint_zero _ _ x _).mono ?_; rintro e w2 ⟨rfl, hk2⟩; obtain ⟨v0, v1, v2, v3⟩ := (CelAt.drew ⟨z0, z1, z2, z3⟩).kept hk2 (fun e => e)))
      go_wp2
      go_end0
      exact ⟨rfl, (CellsAt.drewN hfin 1).kept hk2 (fun e => e), hk1'.drew.later hk2 (fun _ _ e => e.elim)⟩
    · go_wp2_with fail
      go_region_held3 (fun w' => w'.cell? ⟨w.heap.size, 0, none⟩ = some (.int .i32 x.g) ∧ w'.cell? ⟨w.heap.size, 1, none⟩ = some (.int .i64 x.a) ∧ w'.cell? ⟨w.heap.size, 2, none⟩ = some (.bool x.b) ∧ w'.cell? ⟨w.heap.size, 3, none⟩ = some (.int .i64 x.m)) (go_keep)
        (first
          | (go_at_call 53; refine (paint_zero _ _ x _).mono ?_; rintro e w2 ⟨rfl, hk2⟩; obtain ⟨v0, v1, v2, v3⟩ := (CelAt.drew ⟨z0, z1, z2, z3⟩).kept hk2 (fun e => e)))
      go_wp2
      go_end0
      exact ⟨rfl, (CellsAt.drewN hfin 1).kept hk2 (fun e => e), hk1'.drew.later hk2 (fun _ _ e => e.elim)⟩

set_option maxHeartbeats 1000000 in
theorem move_up' (t o j N cap m : Nat) (x : Cel) (f : Nat → Cel) (w : World) (hrow : CellsAt w t N f) (ho : o + (m + j) ≤ N) (hN : N ≤ 70000) (hcap : m + j ≤ cap) (hm : 0 < m) :
    Calls Tryz.prog 121 #[.slice (some ⟨t, o * 4, none⟩) (m + j) cap, .int .i64 (m : Int), (.agg #[.int .i32 x.g, .int .i64 x.a, .bool x.b, .int .i64 x.m])] w fun e w' => e = .returned (.tuple #[]) ∧ CellsAt w' t N (moveF f o (m + j) (m : Int) x) ∧ Kept (· = t) w w' := by
  have e0 : decide ((m : Int) < 0) = false := by simp
  have hj : ¬ cap = j := by omega
  have hwj : IntKind.i64.wrap (j : Int) = j := by rw [IntWalk.i64_left]; exact w64 (by omega) (by omega)
  have hwj2 : IntKind.i64.wrap ((m : Int) + (j : Int) - (m : Int)) = j := by rw [show (m : Int) + j - m = j by omega]; exact hwj
  have hjm : j ≤ m + j := by omega
  have hji : (j : Int) ≤ (m : Int) + (j : Int) := by omega
  have hj0 : (0 : Int) ≤ (j : Int) := by omega
  have hw0 : IntKind.i64.wrap 0 = 0 := by rw [IntWalk.i64_left]; exact w64 (by omega) (by omega)
  have hrow0 := hrow.alloc (.cells #[.int .i32 x.g, .int .i64 x.a, .bool x.b, .int .i64 x.m] 52)
  have htl := hrow.lt
  have hx := CelAt.new w x 52
  by_cases hc : cap = m
  · obtain rfl : j = 0 := by omega
    subst hc
    have hc0 : ¬ cap = 0 := by omega
    have hc1 : ¬ (cap + 0) - cap = cap := by omega
    have hw1 : IntKind.i64.wrap ((cap : Int) - (cap : Int)) = 0 := by rw [Int.sub_self]; exact hw0
    rw [Nat.add_zero] at *
    go_enter Tryz.func121, Tryz.ntmps121
    go_wp2_with (with_reducible refine wpList_copy_cells rfl _ _ 50 50 rfl 52 Tryz.underlying50 Tryz.four52 _ _ _ _ _ _ rfl rfl t N f hrow0 o (o + cap) 0 ?c1 ?c2 ?c3)
    case c1 => simp
    intro w1 hI1 hk1
    replace hx := hx.kept hk1 (by omega)
    obtain ⟨z0, z1, z2, z3⟩ := hx
    go_wp2_with fail
    go_region_held3 (fun w' => w'.cell? ⟨w.heap.size, 0, none⟩ = some (.int .i32 x.g) ∧ w'.cell? ⟨w.heap.size, 1, none⟩ = some (.int .i64 x.a) ∧ w'.cell? ⟨w.heap.size, 2, none⟩ = some (.bool x.b) ∧ w'.cell? ⟨w.heap.size, 3, none⟩ = some (.int .i64 x.m)) (go_keep)
      (first
        | (go_at_call 53; refine (paint_any t o cap N _ x _ _ (CellsAt.drewN hI1 1) (by omega) hN).mono ?_; rintro e w2 ⟨rfl, hI2, hk2⟩; obtain ⟨v0, v1, v2, v3⟩ := (CelAt.drew ⟨z0, z1, z2, z3⟩).kept hk2 (by omega)))
    go_wp2
    go_end0
    exact ⟨rfl, hI2.congr (fun k hk => moveF_up f o 0 cap x k), (((Kept.refl _ w).alloc _).later hk1 (fun _ _ e => e)).drew.trans hk2⟩
  · go_enter Tryz.func121, Tryz.ntmps121
    go_wp2_with (with_reducible refine wpList_copy_cells rfl _ _ 50 50 rfl 52 Tryz.underlying50 Tryz.four52 _ _ _ _ _ _ rfl rfl t N f hrow0 o (o + m) j ?d1 ?d2 ?d3)
    case d1 => simp
    case d2 => intro h; first | exact ⟨rfl, by rw [Nat.add_mul], by omega, by omega⟩ | exact ⟨by rw [Nat.add_mul], by omega, by omega⟩ | exact ⟨by omega, by omega⟩
    intro w1 hI1 hk1
    replace hx := hx.kept hk1 (by omega)
    obtain ⟨z0, z1, z2, z3⟩ := hx
    go_wp2_with fail
    have hp := fun w c (h : CellsAt w t N (copyF f o j (o + m))) => paint_any t (o + j) m N c x _ w h (by omega) hN
    rw [Nat.add_mul] at hp
    go_region_held3 (fun w' => w'.cell? ⟨w.heap.size, 0, none⟩ = some (.int .i32 x.g) ∧ w'.cell? ⟨w.heap.size, 1, none⟩ = some (.int .i64 x.a) ∧ w'.cell? ⟨w.heap.size, 2, none⟩ = some (.bool x.b) ∧ w'.cell? ⟨w.heap.size, 3, none⟩ = some (.int .i64 x.m)) (go_keep)
      (first
        | (go_at_call 53; refine (hp _ _ (CellsAt.drewN hI1 1)).mono ?_; rintro e w2 ⟨rfl, hI2, hk2⟩; obtain ⟨v0, v1, v2, v3⟩ := (CelAt.drew ⟨z0, z1, z2, z3⟩).kept hk2 (by omega)))
    go_wp2
    go_end0
    exact ⟨rfl, hI2.congr (fun k hk => moveF_up f o j m x k), (((Kept.refl _ w).alloc _).later hk1 (fun _ _ e => e)).drew.trans hk2⟩

/-- 'move' of a run by a number that is not beyond its length. -/
theorem move_any (t o L N cap : Nat) (n : Int) (x : Cel) (f : Nat → Cel) (w : World) (hrow : CellsAt w t N f) (ho : o + L ≤ N) (hN : N ≤ 70000) (hcap : L ≤ cap) (h1 : -(L : Int) ≤ n) (h2 : n ≤ L) :
    Calls Tryz.prog 121 #[.slice (some ⟨t, o * 4, none⟩) L cap, .int .i64 n, (.agg #[.int .i32 x.g, .int .i64 x.a, .bool x.b, .int .i64 x.m])] w fun e w' => e = .returned (.tuple #[]) ∧ CellsAt w' t N (moveF f o L n x) ∧ Kept (· = t) w w' := by
  by_cases h3 : n < 0
  · obtain ⟨m, hm⟩ : ∃ m : Nat, n = -(m : Int) := ⟨(-n).toNat, by omega⟩
    subst hm
    exact move_down t o L N cap m x f w hrow ho hN hcap (by omega) (by omega)
  · obtain ⟨m, rfl⟩ := Int.eq_ofNat_of_zero_le (show 0 ≤ n by omega)
    by_cases h4 : m = 0
    · subst h4
      exact (move_none t o L N cap x f w hrow ho hN hcap).mono fun e w' ⟨a, b, c⟩ => ⟨a, b.congr (fun k _ => moveF_none f o L x k), c⟩
    · obtain ⟨j, rfl⟩ : ∃ j, L = m + j := ⟨L - m, by omega⟩
      exact move_up' t o j N cap m x f w hrow ho hN hcap (by omega)
end Go.Proofs.YtlhajbcabpfbkaaGreatDoor
