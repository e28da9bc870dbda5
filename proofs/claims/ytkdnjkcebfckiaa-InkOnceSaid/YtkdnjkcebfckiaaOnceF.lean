/-
  A Put by which no line goes up, in plain cells; what is known of a world while cells are put; regions whose operations are passed over.
-/
import Derived.Test.YtkdnjkcebfckiaaGuardP
namespace Go.Proofs.Ytkdnjkcebfckiaa
open Go.RowKit

/-- By which no line goes up: one cell alone is turned. -/
theorem put_once {R C : Nat} {f : Nat → Cel} {r c : Int} {b : Bool} {x : Cel} {k : Int} {bl : Cel} (h : putN R C r c b k = 0) : putF R C f r c b x k bl = upd f (idx C (aR R r b) (aC C c b)) x := by
  unfold putN at h
  have h1 := liftN_in (aU R r b)
  have h2 := liftN_in (bU R C (aR R r b) (aC C c b) k)
  have u1 : aU R r b = false := by
    cases hu : aU R r b
    · rfl
    · rw [hu] at h; simp [liftN] at h; omega
  have u2 : bU R C (aR R r b) (aC C c b) k = false := by
    cases hu : bU R C (aR R r b) (aC C c b) k
    · rfl
    · rw [hu] at h; simp [liftN] at h; omega
  unfold putF
  rw [u1, u2]
  simp [liftF]
/-- Where the lines go up ahead of a glyph one does. -/
theorem put_up {R C : Nat} {r c : Int} {b : Bool} {k : Int} (h : aU R r b = true) : ¬ putN R C r c b k = 0 := by
  unfold putN
  have h2 := liftN_in (bU R C (aR R r b) (aC C c b) k)
  rw [h]
  simp [liftN]
  split <;> omega
theorem idx_inj {C : Nat} {k : Nat} {R : Nat} {r c : Int} (hth : There R C r c) : (rowOf C k : Int) = r ∧ (colOf C k : Int) = c ↔ k = idx C r c := by
  constructor
  · rintro ⟨h1, h2⟩
    rw [← h1, ← h2, idx_row_col]
  · rintro rfl
    exact row_idx hth

theorem free_both {N k : Nat} {f : Nat → Cel} (hk : k < N) : (freeK N true k f).isSome = (freeK N false k f).isSome := by
  cases h1 : freeK N true k f with
  | none =>
    cases h2 : freeK N false k f with
    | none => rfl
    | some x =>
      have := freeK_none hk h1 x (freeK_some h2).1
      rw [(freeK_some h2).2] at this
      simp at this
  | some x =>
    cases h2 : freeK N false k f with
    | none =>
      have := freeK_none hk h2 x (freeK_some h1).1
      rw [(freeK_some h1).2] at this
      simp at this
    | some y => rfl

/-- A number that may be written. -/
structure NumA (w : World) (b : Nat) (n : Int) : Prop where
  c : w.cell? ⟨b, 0, none⟩ = some (.int .i64 n)
  f : w.frozen? ⟨b, 0, none⟩ = false
theorem NumA.lt {w : World} {b : Nat} {n : Int} (h : NumA w b n) : b < w.heap.size := World.block_lt_of_cell? w _ h.c
theorem NumA.kept {S : Nat → Prop} {w w' : World} {b : Nat} {n : Int} (h : NumA w b n) (k : Kept S w w') (hs : ¬ S b) : NumA w' b n := ⟨kcellS k h.c hs, (k.frozen h.lt hs).trans h.f⟩
theorem NumA.set {w : World} {b : Nat} {n : Int} (h : NumA w b n) (m : Int) : NumA (w.setCell ⟨b, 0, none⟩ (.int .i64 m)) b m := ⟨by simp [go_sem, h.c], by simp [go_sem, h.f]⟩
theorem NumA.new (w : World) (n : Int) : NumA (w.alloc (.cells #[.int .i64 n] 3)) w.heap.size n := ⟨by simp [go_sem], by simp [go_sem]⟩
theorem num_newN (w : World) : NumA (w.alloc (.cells #[.int .i64 0] 3)) w.heap.size 0 := NumA.new w 0
theorem kept_of_drew {S : Nat → Prop} {w w' : World} (h : Kept S w.drew w') : Kept S w w' := ⟨h.os, h.tape, h.output, h.size, h.block⟩
theorem size_drew (w : World) : w.drew.heap.size = w.heap.size := rfl
theorem NumA.ne {w : World} {b D : Nat} {n : Int} {x : Option (List Deferred)} (h : NumA w b n) (hd : w.heap[D]? = some (.deferred x)) : D ≠ b := by
  rintro rfl
  have := h.c
  simp [World.cell?, hd] at this

theorem Coll.kept' {B : Nat} {Ds : List Nat} {w w' : World} {S : Nat → Prop} (h : Coll B Ds w) (k : Kept S w w') (hs : ∀ D ∈ Ds, ¬ S D) : Coll B Ds w' :=
  ⟨fun D hD => by
    obtain ⟨h1, h2⟩ := h.all D hD
    have hl := (Array.getElem?_eq_some_iff.1 h2).1
    exact ⟨h1, (k.block D hl (hs D hD)).trans h2⟩, h.nodup⟩

/-- All that is known of a world while cells are put to a grid: the pen, the answer's block, the grid's address, its size, the cursor, the counter. -/
structure Os (w wx : World) (bp bo b5 b7 b8 b9 g t cap R C : Nat) (r0 c0 : Int) (b0 : Bool) (k : Int) (s : ByteArray) (F : Nat → Cel) (r c : Int) (b : Bool) (j : Int) : Prop where
  pen : PenAt wx bp r0 c0 b0 k s
  out : BoolAt wx bo false
  e0 : wx.cell? ⟨b5, 0, none⟩ = some (.pointer (some ⟨g, 0, none⟩))
  s0 : wx.cell? ⟨b7, 0, none⟩ = some (.int .i64 R)
  s1 : wx.cell? ⟨b7, 1, none⟩ = some (.int .i64 C)
  at8 : Three wx b8 r c b
  cnt : NumA wx b9 j
  grid : GridAt wx g t cap R C F
  kept : Kept0 w wx
  o : w.heap.size ≤ bp ∧ bp < bo ∧ bo < g ∧ bo < t ∧ g < b5 ∧ t < b5 ∧ b5 < b7 ∧ b7 < b8 ∧ b8 < b9
section
variable {w wx wy : World} {bp bo b5 b7 b8 b9 b9' g t cap R C : Nat} {r0 c0 : Int} {b0 : Bool} {k : Int} {s : ByteArray} {F F' : Nat → Cel} {r c r' c' j j' : Int} {b b' : Bool}
theorem Os.keep (h : Os w wx bp bo b5 b7 b8 b9 g t cap R C r0 c0 b0 k s F r c b j) (kk : Kept0 wx wy) : Os w wy bp bo b5 b7 b8 b9 g t cap R C r0 c0 b0 k s F r c b j :=
  ⟨h.pen.kept kk (fun e => e), h.out.kept kk (fun e => e), kcell kk h.e0, kcell kk h.s0, kcell kk h.s1, h.at8.kept0 kk, h.cnt.kept kk (fun e => e), h.grid.kept kk (fun e => e) (fun e => e), h.kept.trans kk, h.o⟩
theorem Os.onG (h : Os w wx bp bo b5 b7 b8 b9 g t cap R C r0 c0 b0 k s F r c b j) (kk : Kept (· = t) wx wy) (hg : GridAt wy g t cap R C F') : Os w wy bp bo b5 b7 b8 b9 g t cap R C r0 c0 b0 k s F' r c b j := by
  obtain ⟨p1, p2, p3, p4, p5, p6, p7, p8, p9⟩ := h.o
  exact ⟨h.pen.kept kk (by omega), h.out.kept kk (by omega), kcellS kk h.e0 (by omega), kcellS kk h.s0 (by omega), kcellS kk h.s1 (by omega), h.at8.kept kk (by omega), h.cnt.kept kk (by omega), hg, h.kept.later kk (fun i hi e => by omega), h.o⟩
theorem Os.on8 (h : Os w wx bp bo b5 b7 b8 b9 g t cap R C r0 c0 b0 k s F r c b j) (kk : Kept (· = b8) wx wy) (ht : Three wy b8 r' c' b') : Os w wy bp bo b5 b7 b8 b9 g t cap R C r0 c0 b0 k s F r' c' b' j := by
  obtain ⟨p1, p2, p3, p4, p5, p6, p7, p8, p9⟩ := h.o
  exact ⟨h.pen.kept kk (by omega), h.out.kept kk (by omega), kcellS kk h.e0 (by omega), kcellS kk h.s0 (by omega), kcellS kk h.s1 (by omega), ht, h.cnt.kept kk (by omega), h.grid.kept kk (by omega) (by omega), h.kept.later kk (fun i hi e => by omega), h.o⟩
/-- Blocks behind the counter's, and one that becomes the counter. -/
theorem Os.on9 (h : Os w wx bp bo b5 b7 b8 b9 g t cap R C r0 c0 b0 k s F r c b j) (kk : Kept (· = b9') wx wy) (h9 : b8 < b9') (ht : NumA wy b9' j') : Os w wy bp bo b5 b7 b8 b9' g t cap R C r0 c0 b0 k s F r c b j' := by
  obtain ⟨p1, p2, p3, p4, p5, p6, p7, p8, p9⟩ := h.o
  exact ⟨h.pen.kept kk (by omega), h.out.kept kk (by omega), kcellS kk h.e0 (by omega), kcellS kk h.s0 (by omega), kcellS kk h.s1 (by omega), h.at8.kept kk (by omega), ht, h.grid.kept kk (by omega) (by omega), h.kept.later kk (fun i hi e => by omega), ⟨p1, p2, p3, p4, p5, p6, p7, p8, h9⟩⟩
theorem Os.apart {S : Nat → Prop} (h : Os w wx bp bo b5 b7 b8 b9 g t cap R C r0 c0 b0 k s F r c b j) (kk : Kept S wx wy) (hq : ∀ q, S q → b9 < q) : Os w wy bp bo b5 b7 b8 b9 g t cap R C r0 c0 b0 k s F r c b j := by
  obtain ⟨p1, p2, p3, p4, p5, p6, p7, p8, p9⟩ := h.o
  exact ⟨h.pen.kept kk (fun e => by have := hq _ e; omega), h.out.kept kk (fun e => by have := hq _ e; omega), kcellS kk h.e0 (fun e => by have := hq _ e; omega), kcellS kk h.s0 (fun e => by have := hq _ e; omega), kcellS kk h.s1 (fun e => by have := hq _ e; omega), h.at8.kept kk (fun e => by have := hq _ e; omega),
    h.cnt.kept kk (fun e => by have := hq _ e; omega), h.grid.kept kk (fun e => by have := hq _ e; omega) (fun e => by have := hq _ e; omega), h.kept.later kk (fun i hi e => by have := hq _ e; omega), h.o⟩
end

theorem frame_lit204 (T : Array Value) (h : T.size = 204) : T = ((List.range 204).map (fun i => T.getD i undef)).toArray := by
  apply Array.ext
  · simp [h]
  · intro i h1 h2
    simp [Array.getD, h1]

structure BoxI (p : Prop) : Prop where
  out : p
theorem calmI_skip {P : Program} {ops : Array Oper} {C : World → Prop} {Q : Act → Prop} {a : Act} {o : Oper} {rest : List Oper} (hw : Region.wanted o (yielded ops a.tmps) = false)
    (hk : wpQuiet P ops C Q rest (a.put o.dst undef)) : wpQuiet P ops C Q (o :: rest) a :=
  wpQuiet_step fun K hK => by rw [if_neg (by rw [hw]; simp)]; exact hK _ hk
theorem boxI_op {P : Program} {ops : Array Oper} {C : World → Prop} {Q : Act → Prop} {a : Act} {o : Oper} {rest : List Oper} (v : Value) (hw : Region.wanted o (yielded ops a.tmps) = true)
    (h : ∀ w, C w → o.quietAt P a C w v) (hk : BoxI (wpQuiet P ops C Q rest (a.put o.dst v))) : BoxI (wpQuiet P ops C Q (o :: rest) a) := ⟨calm_op v hw h hk.out⟩
theorem boxI_skip {P : Program} {ops : Array Oper} {C : World → Prop} {Q : Act → Prop} {a : Act} {o : Oper} {rest : List Oper} (hw : Region.wanted o (yielded ops a.tmps) = false)
    (hk : BoxI (wpQuiet P ops C Q rest (a.put o.dst undef))) : BoxI (wpQuiet P ops C Q (o :: rest) a) := ⟨calmI_skip hw hk.out⟩
theorem boxI_end {P : Program} {ops : Array Oper} {C : World → Prop} {Q : Act → Prop} {a : Act} (h : Q a) : BoxI (wpQuiet P ops C Q [] a) := ⟨wpQuiet_nil h⟩
theorem wpIn_boxed {P : Program} {n l id : Nat} {Q : Exit → Act → World → Prop} {a : Act} {w : World} {ops : List Oper} (C : World → Prop) (hC : C w.drew) (hd : noDefer ops = true) (hm : P.follows .mixedOrders = true) (hB : Region.lexB .any ops.toArray = true) (hQ : ¬ LetsOut Q)
    (h : BoxI (wpQuiet P ops.toArray C (fun a' => ∀ w', C w' → Q .normal a' w') ops a)) : (Code.region id ops.toArray true).wpIn (Fence.wide.inRound l) n P Q a w := wpIn_round_calm C hC hd hm hB hQ h.out

end Go.Proofs.Ytkdnjkcebfckiaa
