/-
  The document's terminal in memory: the same plain data.
-/
import Derived.Test.YtlhajbcabpfbkaaGreatDoorVtU
namespace Go.Proofs.YtlhajbcabpfbkaaGreatDoor
open Go.RowKit

/-- Block t is a row of glyphs, N of them. -/
def RunesAt (w : World) (t N : Nat) (f : Nat → Int) : Prop :=
  ∃ cur : Array Value, w.heap[t]? = some (.cells cur 21 (0, 0)) ∧ ∀ k, k < N → cur[k]? = some (.int .i32 (f k))
def updI (f : Nat → Int) (i : Nat) (x : Int) : Nat → Int := fun k => if k = i then x else f k
namespace RunesAt
variable {w : World} {t N : Nat} {f : Nat → Int}
theorem lt (h : RunesAt w t N f) : t < w.heap.size := by
  obtain ⟨cur, h1, _⟩ := h
  exact (Array.getElem?_eq_some_iff.1 h1).1
theorem cell (h : RunesAt w t N f) {k : Nat} (hk : k < N) : w.cell? ⟨t, k, none⟩ = some (.int .i32 (f k)) := by
  obtain ⟨cur, h1, h2⟩ := h
  simp [World.cell?, h1, h2 k hk]
theorem frozen (h : RunesAt w t N f) (k : Nat) : w.frozen? ⟨t, k, none⟩ = false := by
  obtain ⟨cur, h1, h2⟩ := h
  simp [World.frozen?, h1]
theorem kept (h : RunesAt w t N f) {S : Nat → Prop} {w' : World} (k : Kept S w w') (hs : ¬ S t) : RunesAt w' t N f := by
  have hl := h.lt
  obtain ⟨cur, h1, h2⟩ := h
  exact ⟨cur, (k.block t hl hs).trans h1, h2⟩
theorem congr (h : RunesAt w t N f) {f' : Nat → Int} (e : ∀ k, k < N → f k = f' k) : RunesAt w t N f' := by
  obtain ⟨cur, h1, h2⟩ := h
  exact ⟨cur, h1, fun k hk => by rw [h2 k hk, e k hk]⟩
theorem set (h : RunesAt w t N f) (i : Nat) (x : Int) : RunesAt (w.setCell ⟨t, i, none⟩ (.int .i32 x)) t N (updI f i x) := by
  obtain ⟨cur, h1, h2⟩ := h
  refine ⟨cur.setIfInBounds i (.int .i32 x), ?_, fun k hk => ?_⟩
  · simp [World.setCell, Array.getElem?_modify, h1]
  · have := h2 k hk
    have hlt : k < cur.size := (Array.getElem?_eq_some_iff.1 this).1
    unfold updI
    by_cases e : k = i
    · subst e; simp [hlt]
    · rw [if_neg e, Array.getElem?_setIfInBounds_ne (by omega), this]
end RunesAt

def headR (lb n : Nat) (v : Vt) : Array Value :=
  #[.int .i64 v.z.R, .int .i64 v.z.C, .slice (some ⟨lb, 0, none⟩) n n, .int .i64 v.z.r, .int .i64 v.z.c, .bool v.g, .bool v.k, .bool v.h, .string (Qu.str v.pre), .string (Qu.str v.xs), .int .i64 v.most, .bool v.over]
/-- The document's terminal at block x, its glyphs at block lb, n of them. -/
structure RefIn (w : World) (x lb n : Nat) (v : Vt) : Prop where
  head : w.heap[x]? = some (.cells (headR lb n v) 41 (0, 0))
  row : RunesAt w lb n (fun i => (v.z.F i).g)
  size : n = v.z.R * v.z.C
  R2 : v.z.R ≤ 255
  C2 : v.z.C ≤ 255
  most : v.most ≤ 4096
  out : v.xs.length ≤ 4096
namespace RefIn
variable {w w' : World} {x lb n : Nat} {v : Vt}
theorem lt (h : RefIn w x lb n v) : x < w.heap.size := (Array.getElem?_eq_some_iff.1 h.head).1
theorem ne (h : RefIn w x lb n v) : x ≠ lb := by
  rintro rfl
  obtain ⟨cur, h1, _⟩ := h.row
  have := h.head.symm.trans h1
  simp at this
theorem cR (h : RefIn w x lb n v) : w.cell? ⟨x, 0, none⟩ = some (.int .i64 v.z.R) := by simp [World.cell?, h.head, headR]
theorem cC (h : RefIn w x lb n v) : w.cell? ⟨x, 1, none⟩ = some (.int .i64 v.z.C) := by simp [World.cell?, h.head, headR]
theorem cL (h : RefIn w x lb n v) : w.cell? ⟨x, 2, none⟩ = some (.slice (some ⟨lb, 0, none⟩) n n) := by simp [World.cell?, h.head, headR]
theorem cr (h : RefIn w x lb n v) : w.cell? ⟨x, 3, none⟩ = some (.int .i64 v.z.r) := by simp [World.cell?, h.head, headR]
theorem cc (h : RefIn w x lb n v) : w.cell? ⟨x, 4, none⟩ = some (.int .i64 v.z.c) := by simp [World.cell?, h.head, headR]
theorem cG (h : RefIn w x lb n v) : w.cell? ⟨x, 5, none⟩ = some (.bool v.g) := by simp [World.cell?, h.head, headR]
theorem cK (h : RefIn w x lb n v) : w.cell? ⟨x, 6, none⟩ = some (.bool v.k) := by simp [World.cell?, h.head, headR]
theorem cH (h : RefIn w x lb n v) : w.cell? ⟨x, 7, none⟩ = some (.bool v.h) := by simp [World.cell?, h.head, headR]
theorem cP (h : RefIn w x lb n v) : w.cell? ⟨x, 8, none⟩ = some (.string (Qu.str v.pre)) := by simp [World.cell?, h.head, headR]
theorem cO (h : RefIn w x lb n v) : w.cell? ⟨x, 9, none⟩ = some (.string (Qu.str v.xs)) := by simp [World.cell?, h.head, headR]
theorem cM (h : RefIn w x lb n v) : w.cell? ⟨x, 10, none⟩ = some (.int .i64 v.most) := by simp [World.cell?, h.head, headR]
theorem cV (h : RefIn w x lb n v) : w.cell? ⟨x, 11, none⟩ = some (.bool v.over) := by simp [World.cell?, h.head, headR]
theorem fz (h : RefIn w x lb n v) (o : Nat) : w.frozen? ⟨x, o, none⟩ = false := by simp [World.frozen?, h.head]
theorem kept (h : RefIn w x lb n v) {T : Nat → Prop} (k : Kept T w w') (h1 : ¬ T x) (h2 : ¬ T lb) : RefIn w' x lb n v :=
  ⟨(k.block x h.lt h1).trans h.head, h.row.kept k h2, h.size, h.R2, h.C2, h.most, h.out⟩
theorem kept0 (h : RefIn w x lb n v) (k : Kept0 w w') : RefIn w' x lb n v := h.kept k (fun e => e) (fun e => e)
/-- Its own cells are turned, nothing else. -/
theorem onHead (h : RefIn w x lb n v) {v' : Vt} (hR : v'.z.R = v.z.R) (hC : v'.z.C = v.z.C) (hF : v'.z.F = v.z.F) (hm : v'.most = v.most) (ho : v'.xs.length ≤ 4096) (k : Kept (· = x) w w') (hh : w'.heap[x]? = some (.cells (headR lb n v') 41 (0, 0))) : RefIn w' x lb n v' :=
  ⟨hh, by rw [hF]; exact h.row.kept k (fun e => h.ne e.symm), by rw [hR, hC]; exact h.size, by rw [hR]; exact h.R2, by rw [hC]; exact h.C2, by rw [hm]; exact h.most, ho⟩
theorem setR (h : RefIn w x lb n v) (p : Int) : RefIn (w.setCell ⟨x, 3, none⟩ (.int .i64 p)) x lb n { v with z := { v.z with r := p } } :=
  h.onHead rfl rfl rfl rfl h.out (Kept.set1 _ _ _ _) (by rw [heap_setCell_same w x 3 _ 41 _ h.head]; simp [headR])
theorem setC (h : RefIn w x lb n v) (p : Int) : RefIn (w.setCell ⟨x, 4, none⟩ (.int .i64 p)) x lb n { v with z := { v.z with c := p } } :=
  h.onHead rfl rfl rfl rfl h.out (Kept.set1 _ _ _ _) (by rw [heap_setCell_same w x 4 _ 41 _ h.head]; simp [headR])
theorem setG (h : RefIn w x lb n v) (p : Bool) : RefIn (w.setCell ⟨x, 5, none⟩ (.bool p)) x lb n { v with g := p } :=
  h.onHead rfl rfl rfl rfl h.out (Kept.set1 _ _ _ _) (by rw [heap_setCell_same w x 5 _ 41 _ h.head]; simp [headR])
theorem setK (h : RefIn w x lb n v) (p : Bool) : RefIn (w.setCell ⟨x, 6, none⟩ (.bool p)) x lb n { v with k := p } :=
  h.onHead rfl rfl rfl rfl h.out (Kept.set1 _ _ _ _) (by rw [heap_setCell_same w x 6 _ 41 _ h.head]; simp [headR])
theorem setH (h : RefIn w x lb n v) (p : Bool) : RefIn (w.setCell ⟨x, 7, none⟩ (.bool p)) x lb n { v with h := p } :=
  h.onHead rfl rfl rfl rfl h.out (Kept.set1 _ _ _ _) (by rw [heap_setCell_same w x 7 _ 41 _ h.head]; simp [headR])
theorem setP (h : RefIn w x lb n v) (l : List UInt8) : RefIn (w.setCell ⟨x, 8, none⟩ (.string (Qu.str l))) x lb n { v with pre := l } :=
  h.onHead rfl rfl rfl rfl h.out (Kept.set1 _ _ _ _) (by rw [heap_setCell_same w x 8 _ 41 _ h.head]; simp [headR])
theorem setO (h : RefIn w x lb n v) (l : List UInt8) (hl : l.length ≤ 4096) : RefIn (w.setCell ⟨x, 9, none⟩ (.string (Qu.str l))) x lb n { v with xs := l } :=
  h.onHead rfl rfl rfl rfl hl (Kept.set1 _ _ _ _) (by rw [heap_setCell_same w x 9 _ 41 _ h.head]; simp [headR])
theorem setV (h : RefIn w x lb n v) (p : Bool) : RefIn (w.setCell ⟨x, 11, none⟩ (.bool p)) x lb n { v with over := p } :=
  h.onHead rfl rfl rfl rfl h.out (Kept.set1 _ _ _ _) (by rw [heap_setCell_same w x 11 _ 41 _ h.head]; simp [headR])
/-- Its glyphs are turned, nothing else. -/
theorem onRow (h : RefIn w x lb n v) {F : Nat → Cel} (k : Kept (· = lb) w w') (hr : RunesAt w' lb n (fun i => (F i).g)) : RefIn w' x lb n { v with z := { v.z with F := F } } :=
  ⟨(k.block x h.lt h.ne).trans h.head, hr, h.size, h.R2, h.C2, h.most, h.out⟩
/-- Its glyphs are other ones, at another block. -/
theorem newRow (h : RefIn w x lb n v) {F : Nat → Cel} {lb' : Nat} (hr : RunesAt w lb' n (fun i => (F i).g)) (hx : x ≠ lb') : RefIn (w.setCell ⟨x, 2, none⟩ (.slice (some ⟨lb', 0, none⟩) n n)) x lb' n { v with z := { v.z with F := F } } :=
  ⟨by rw [heap_setCell_same w x 2 _ 41 _ h.head]; simp [headR], hr.kept (Kept.set1 _ _ _ _) (fun e => hx e.symm), h.size, h.R2, h.C2, h.most, h.out⟩
theorem congr (h : RefIn w x lb n v) {v' : Vt} (hh : headR lb n v' = headR lb n v) (hF : ∀ i, i < n → (v'.z.F i).g = (v.z.F i).g) (hR : v'.z.R = v.z.R) (hC : v'.z.C = v.z.C) (hm : v'.most = v.most) (ho : v'.xs = v.xs) : RefIn w x lb n v' :=
  ⟨by rw [hh]; exact h.head, h.row.congr (fun k hk => (hF k hk).symm), by rw [hR, hC]; exact h.size, by rw [hR]; exact h.R2, by rw [hC]; exact h.C2, by rw [hm]; exact h.most, by rw [ho]; exact h.out⟩
end RefIn

/-- What a scroll comes to. -/
theorem up_one {R C : Nat} {F : Nat → Cel} (k : Nat) (hk : k < R * C) : upF R C F 1 blk k = if k + C < R * C then F (k + C) else blk := by
  unfold upF moveF
  rw [if_pos ⟨Nat.zero_le _, by omega⟩]
  by_cases h : k + C < R * C
  · rw [if_pos h, if_pos (by omega)]
    congr 1
    omega
  · rw [if_neg h, if_neg (by omega)]
theorem up_back {R C : Nat} {F : Nat → Cel} (k : Nat) (hk : k < R * C) : upF R C F (-1) blk k = if C ≤ k then F (k - C) else blk := by
  unfold upF moveF
  rw [if_pos ⟨Nat.zero_le _, by omega⟩]
  by_cases h : C ≤ k
  · rw [if_pos h, if_pos (by omega)]
    congr 1
    omega
  · rw [if_neg h, if_neg (by omega)]
theorem up_none {R C : Nat} {F : Nat → Cel} : upF R C F 0 blk = F := by
  funext k
  unfold upF moveF
  split
  · split
    · congr 1
      omega
    · omega
  · rfl
/-- What a wipe comes to. -/
theorem wipe_from {R C : Nat} {F : Nat → Cel} {p q p' q' : Int} (h1 : There R C p q) (h2 : There R C p' q') (hle : idx C p q ≤ idx C p' q') (k : Nat) : swipeF R C F p q p' q' blk false k = if idx C p q ≤ k ∧ k ≤ idx C p' q' then blk else F k := by
  obtain ⟨a1, a2, a3, a4⟩ := h1
  obtain ⟨b1, b2, b3, b4⟩ := h2
  unfold swipeF
  rw [nr_in _ _ a1 a2, nr_in _ _ a3 a4, nr_in _ _ b1 b2, nr_in _ _ b3 b4]
  unfold Wp.wipeF
  have he : Wp.wipeE R C p q p' q' = 0 := by
    unfold Wp.wipeE
    rw [if_pos ⟨⟨a1, a2, a3, a4⟩, ⟨b1, b2, b3, b4⟩⟩, if_neg (by omega)]
  rw [if_pos he]
  unfold Wp.partT
  by_cases h : idx C p q ≤ k ∧ k ≤ idx C p' q'
  · rw [if_pos h, if_pos (by omega)]
    rfl
  · rw [if_neg h, if_neg (by omega)]
end Go.Proofs.YtlhajbcabpfbkaaGreatDoor
