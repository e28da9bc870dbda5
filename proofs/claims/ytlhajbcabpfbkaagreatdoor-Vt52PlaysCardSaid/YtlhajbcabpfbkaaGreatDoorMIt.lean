/-
  Texts merged: RefA RefB RefC RefD Made Same Range QuietR AllC SameG.
-/
import Derived.Test.YtlhajbcabpfbkaaGreatDoorMGo
import Derived.Deep.AppendLies
import Derived.Test.YtlhajbcabpfbkaaGreatDoorMLo
import Derived.RangeFuncNested
import Derived.RangeFuncBound
import Derived.RangeFuncCalls
import Derived.RangeFuncLeaves
import Derived.OwnWalkIn
import Derived.TacticsInMore
import Derived.LoopNIn
import Derived.LoopIn
import Derived.Deep.QuietTactic
import Derived.BigQuiet
import Derived.OrdersIn
import Derived.TacticsIn
import Derived.Test.YtlhajbcabpfbkaaGreatDoorMWk
import Derived.Shelf.Abstract
import Derived.Deep.DeepCutAuto
import Derived.Defers
import Derived.Recover
import Derived.RecoverIn
import Derived.Stop.RegionWithIn
/-
  The answer of the document: At.
-/
namespace Go.Proofs.YtlhajbcabpfbkaaGreatDoor
open Go.RowKit

/-- The document's answer's grid at block g, its cells at block t. -/
structure RefAt (w : World) (g t cap R C : Nat) (f : Nat → Cel) : Prop where
  head : w.heap[g]? = some (.cells #[.int .i64 R, .int .i64 C, .slice (some ⟨t, 0, none⟩) (R * C) cap] 78 (0, 0))
  row : CellsAt w t (R * C) f
  cap : R * C ≤ cap
  R1 : 1 ≤ R
  R2 : R ≤ 255
  C1 : 1 ≤ C
  C2 : C ≤ 255

namespace RefAt
variable {w : World} {g t cap R C : Nat} {f : Nat → Cel}
theorem lt (h : RefAt w g t cap R C f) : g < w.heap.size := (Array.getElem?_eq_some_iff.1 h.head).1
theorem ne (h : RefAt w g t cap R C f) : g ≠ t := by
  rintro rfl
  obtain ⟨cur, h1, _⟩ := h.row
  have := h.head.symm.trans h1
  simp at this
theorem c0 (h : RefAt w g t cap R C f) : w.cell? ⟨g, 0, none⟩ = some (.int .i64 R) := by simp [World.cell?, h.head]
theorem c1 (h : RefAt w g t cap R C f) : w.cell? ⟨g, 1, none⟩ = some (.int .i64 C) := by simp [World.cell?, h.head]
theorem c2 (h : RefAt w g t cap R C f) : w.cell? ⟨g, 2, none⟩ = some (.slice (some ⟨t, 0, none⟩) (R * C) cap) := by simp [World.cell?, h.head]
theorem fz (h : RefAt w g t cap R C f) (k : Nat) : w.frozen? ⟨g, k, none⟩ = false := by simp [World.frozen?, h.head]
theorem kept (h : RefAt w g t cap R C f) {S : Nat → Prop} {w' : World} (k : Kept S w w') (hg : ¬ S g) (ht : ¬ S t) : RefAt w' g t cap R C f :=
  ⟨(k.block g h.lt hg).trans h.head, h.row.kept k ht, h.cap, h.R1, h.R2, h.C1, h.C2⟩
theorem withRow (h : RefAt w g t cap R C f) {w' : World} {f' : Nat → Cel} (k : Kept (· = t) w w') (hr : CellsAt w' t (R * C) f') : RefAt w' g t cap R C f' :=
  ⟨(k.block g h.lt h.ne).trans h.head, hr, h.cap, h.R1, h.R2, h.C1, h.C2⟩
theorem congr (h : RefAt w g t cap R C f) {f' : Nat → Cel} (e : ∀ k, k < R * C → f k = f' k) : RefAt w g t cap R C f' :=
  ⟨h.head, h.row.congr e, h.cap, h.R1, h.R2, h.C1, h.C2⟩
end RefAt

theorem ret_bool {a b : Bool} (h : a = b) : Ending.returned (.bool a) = .returned (.bool b) := by rw [h]
theorem wrap_idx {R C : Nat} {r c : Int} (h : There R C r c) (hR : R ≤ 255) (hC : C ≤ 255) : IntKind.i64.wrap (IntKind.i64.wrap (r * (C : Int)) + c) = (idx C r c : Int) := by
  obtain ⟨h1, h2, h3, h4⟩ := h
  obtain ⟨a, rfl⟩ := Int.eq_ofNat_of_zero_le h1
  obtain ⟨b, rfl⟩ := Int.eq_ofNat_of_zero_le h3
  have hm : a * C ≤ 255 * 255 := Nat.mul_le_mul (by omega) (by omega)
  have hm0 : (a : Int) * (C : Int) = ((a * C : Nat) : Int) := by simp
  rw [IntWalk.i64_left, IntWalk.i64_left, hm0, w64 (n := ((a * C : Nat) : Int)) (by omega) (by omega), w64 (by omega) (by omega)]
  simp [idx]


end Go.Proofs.YtlhajbcabpfbkaaGreatDoor

/-
  The answer of the document: Copy.
-/
namespace Go.Proofs.YtlhajbcabpfbkaaGreatDoor
open Go.RowKit

end Go.Proofs.YtlhajbcabpfbkaaGreatDoor

/-
  The answer of the document: rows.
-/
namespace Go.Proofs.YtlhajbcabpfbkaaGreatDoor
open Go.RowKit

/-- Those from o on, m of them, are F's. -/
def partF (f F : Nat → Cel) (o m : Nat) : Nat → Cel := fun k => if o ≤ k ∧ k < o + m then F k else f k

theorem partF_step (f F : Nat → Cel) (o m k : Nat) : upd (partF f F o m) (o + m) (F (o + m)) k = partF f F o (m + 1) k := by
  unfold upd partF
  by_cases h : k = o + m
  · subst h; rw [if_pos rfl, if_pos (by omega)]
  · rw [if_neg h]
    by_cases h2 : o ≤ k ∧ k < o + m
    · rw [if_pos h2, if_pos (by omega)]
    · rw [if_neg h2, if_neg (by omega)]

/-- What a Roll puts to a place. -/
theorem roll_val {C : Nat} {r r' n : Int} (f : Nat → Cel) (x : Cel) {d e : Nat} (h0 : 0 ≤ r) (h : r + d ≤ r') (he : e < C) :
    (n ≤ r' - (r + d) ∧ r - (r + d) ≤ n → moveF f (r.toNat * C) ((r' - r + 1).toNat * C) (n * C) x (r.toNat * C + (d * C + e)) = f (idx C (r + d + n) e)) ∧
    (¬ (n ≤ r' - (r + d) ∧ r - (r + d) ≤ n) → moveF f (r.toNat * C) ((r' - r + 1).toNat * C) (n * C) x (r.toNat * C + (d * C + e)) = x) := by
  obtain ⟨a, rfl⟩ := Int.eq_ofNat_of_zero_le h0
  obtain ⟨m, hm⟩ : ∃ m : Nat, r' = a + m := ⟨(r' - a).toNat, by omega⟩
  subst hm
  have e1 : (((a : Int) + (m : Int)) - (a : Int) + 1).toNat = m + 1 := by omega
  rw [e1]
  simp only [Int.toNat_natCast]
  have hd : d ≤ m := by omega
  have h2 : (d + 1) * C ≤ (m + 1) * C := Nat.mul_le_mul_right _ (by omega)
  rw [Nat.add_mul d 1] at h2
  unfold moveF
  rw [if_pos (by omega)]
  have e2 : ((a * C + (d * C + e) : Nat) : Int) + n * C = (a * C : Int) + ((d : Int) + n) * C + e := by
    rw [Int.add_mul]
    push_cast
    omega
  rw [e2]
  constructor
  · rintro ⟨h3, h4⟩
    have h5 : 0 ≤ (d : Int) + n := by omega
    have h6 : (d : Int) + n ≤ m := by omega
    have h7 : 0 ≤ ((d : Int) + n) * C := Int.mul_nonneg h5 (by omega)
    have h8 : ((d : Int) + n + 1) * C ≤ ((m : Int) + 1) * C := Int.mul_le_mul_of_nonneg_right (by omega) (by omega)
    rw [Int.add_mul _ 1] at h8
    have h9 : (((m + 1) * C : Nat) : Int) = ((m : Int) + 1) * C := by push_cast; rfl
    rw [if_pos (by push_cast at *; omega)]
    congr 1
    obtain ⟨b, hb⟩ := Int.eq_ofNat_of_zero_le h5
    rw [show (a : Int) + (d : Int) + n = ((a + b : Nat) : Int) by push_cast; omega, hb]
    simp only [idx, Int.toNat_natCast]
    rw [Nat.add_mul]
    have : (a : Int) * C + (b : Int) * C + e = ((a * C + b * C + e : Nat) : Int) := by push_cast; rfl
    rw [this]
    exact Int.toNat_natCast _
  · intro h3
    have hor : (d : Int) + n < 0 ∨ (m : Int) < (d : Int) + n := by omega
    have h9 : (((m + 1) * C : Nat) : Int) = ((m : Int) + 1) * C := by push_cast; rfl
    rcases hor with h4 | h4
    · have h8 : ((d : Int) + n + 1) * C ≤ 0 * C := Int.mul_le_mul_of_nonneg_right (by omega) (by omega)
      rw [Int.add_mul _ 1] at h8
      rw [if_neg (by push_cast at *; omega)]
    · have h8 : ((m : Int) + 1) * C ≤ ((d : Int) + n) * C := Int.mul_le_mul_of_nonneg_right (by omega) (by omega)
      rw [if_neg (by push_cast at *; omega)]

end Go.Proofs.YtlhajbcabpfbkaaGreatDoor

/-
  The answer of the document: Up.
-/
namespace Go.Proofs.YtlhajbcabpfbkaaGreatDoor
open Go.RowKit


end Go.Proofs.YtlhajbcabpfbkaaGreatDoor

/-
  The statements' own words: Cell, Few, Made.
-/
namespace Go.Proofs.YtlhajbcabpfbkaaGreatDoor
open Go.RowKit

/-- A byte as a cell. -/
def celB (b : Int) : Cel := ⟨b, 0, decide (86 ≤ b) && decide (b ≤ 90), 0⟩


def fewB (L : Nat) (C : Int) : Bool := decide (1 ≤ L ∧ L ≤ 8 ∧ 1 ≤ C ∧ C ≤ 12)


/-- The byte of a text, or a blank behind it. -/
def byteN (s : ByteArray) (k : Nat) : Int := if h : k < s.size then (s[k].toNat : Int) else 32
/-- A board's cells, row by row. -/
def boardF (C : Nat) (l : List ByteArray) : Nat → Cel := fun k => celB (byteN (l.getD (k / C) ⟨#[]⟩) (k % C))
/-- The texts of a list in memory. -/
def StrsIn (w : World) (a : Option Addr) (l : List ByteArray) : Prop := ∀ (i : Nat) (s : ByteArray), l[i]? = some s → ∃ b off, a = some ⟨b, off, none⟩ ∧ w.cell? ⟨b, off + i, none⟩ = some (.string s) ∧ s.size ≤ maxLen
theorem StrsIn.kept0 {w w' : World} {a : Option Addr} {l : List ByteArray} (h : StrsIn w a l) (k : Kept0 w w') : StrsIn w' a l := fun i s hs => by
  obtain ⟨b, off, h1, h2, h3⟩ := h i s hs
  exact ⟨b, off, h1, kcell k h2, h3⟩

/-- The first j are F's, the rest is x. -/
def soFar (F : Nat → Cel) (x : Cel) (j : Nat) : Nat → Cel := fun k => if k < j then F k else x
theorem soFar_step (F : Nat → Cel) (x : Cel) (j k : Nat) : upd (soFar F x j) j (F j) k = soFar F x (j + 1) k := by
  unfold upd soFar
  by_cases h : k = j
  · subst h; rw [if_pos rfl, if_pos (by omega)]
  · rw [if_neg h]
    by_cases h2 : k < j
    · rw [if_pos h2, if_pos (by omega)]
    · rw [if_neg h2, if_neg (by omega)]

theorem parts_succ (f : Nat → Cel) (j : Nat) : parts f 0 (j + 1) = parts f 0 j ++ [.int .i32 (f j).g, .int .i64 (f j).a, .bool (f j).b, .int .i64 (f j).m] := by
  unfold parts
  rw [Nat.add_mul, List.range_add, List.map_append]
  congr 1
  have h : List.range (1 * 4) = [0, 1, 2, 3] := by decide
  rw [h]
  simp only [List.map_cons, List.map_nil, Nat.zero_add]
  rw [show (j * 4 + 0) / 4 = j by omega, show (j * 4 + 0) % 4 = 0 by omega, show (j * 4 + 1) / 4 = j by omega, show (j * 4 + 1) % 4 = 1 by omega, show (j * 4 + 2) / 4 = j by omega, show (j * 4 + 2) % 4 = 2 by omega, show (j * 4 + 3) / 4 = j by omega, show (j * 4 + 3) % 4 = 3 by omega]
  rfl

theorem Kept.grown {w w' : World} {t : Nat} (k : Kept (· = t) w w') : w.grownBy w' (some t) := ⟨k.os, k.tape, k.output, k.size, fun i hi hn => k.block i hi (fun e => hn (by rw [e]))⟩

/-- What stands when j cells are made. -/
structure Half (w wr : World) (ab off capA g t cap rb B R C : Nat) (F : Nat → Cel) (j : Nat) : Prop where
  grid : GridAt wr g t cap R C (soFar F (celB 32) j)
  ref : ∃ v, wr.heap[rb]? = some (.cells #[.int .i64 R, .int .i64 C, v] 78 (0, 0)) ∧ wr.ownsRow B 52 4 v j (parts F 0 j)
  b0 : wr.cell? ⟨w.heap.size, 0, none⟩ = some (.slice (some ⟨ab, off, none⟩) R capA)
  b1 : wr.cell? ⟨w.heap.size, 1, none⟩ = some (.int .i64 C)
  kept : Kept0 w wr

theorem Half.kept0 {w wr w' : World} {ab off capA g t cap rb B R C : Nat} {F : Nat → Cel} {j : Nat} (h : Half w wr ab off capA g t cap rb B R C F j) (k : Kept0 wr w') : Half w w' ab off capA g t cap rb B R C F j := by
  obtain ⟨v, h1, h2⟩ := h.ref
  refine ⟨h.grid.kept k (fun e => e) (fun e => e), ⟨v, (k.block _ (Array.getElem?_eq_some_iff.1 h1).1 (fun e => e)).trans h1, h2.kept (row := none) ⟨k.os, k.tape, k.output, k.size, fun i hi _ => k.block i hi (fun e => e)⟩ ?_⟩, kcell k h.b0, kcell k h.b1, h.kept.trans k⟩
  by_cases e : v.ownBlock = none
  · exact Or.inl e
  · exact Or.inr e

end Go.Proofs.YtlhajbcabpfbkaaGreatDoor

/-
  The statements' own words: Same.
-/
namespace Go.Proofs.YtlhajbcabpfbkaaGreatDoor
open Go.RowKit

/-- A cell is itself. -/
theorem same_cel (x : Cel) (w : World) : (Op.equalIn 10000 52 x.v x.v).run Tryz.prog w = .ok true w := by
  rw [run_equalIn_agg w 9999 52 _ _ (by kernel_rfl) (by kernel_rfl)]
  simp [go_sem]

end Go.Proofs.YtlhajbcabpfbkaaGreatDoor

/-
  A range over a function whose iterator keeps a place of its own in memory: one law for the caller, over what an iterator does. No program.
-/
namespace Go.Proofs.YtlhajbcabpfbkaaGreatDoor
open Go.RowKit

/-- What speaks of blocks below B alone. -/
def Deep (B : Nat) (I : Nat → World → Prop) : Prop := ∀ k W W', I k W → Below B W W' → I k W'

/-- An iterator that comes to N rounds, at whose k-th it hands over 'encs k'; G: what it reads. -/
def IterAt (P : Program) (gf : Nat) (lb : Array Value) (encs : Nat → Array Value) (N : Nat) (G : World → Prop) : Prop :=
  ∀ (n l : Nat) (J Jx : Nat → World → Prop) (W : World), Deep W.heap.size J → Deep W.heap.size Jx → (∀ k W1, J k W1 → G W1) →
    (∀ k W1, k < N → J k W1 → YieldAt Fence.wide n P l (encs k) W1 fun e W' =>
      (e = .returned (.bool true) ∧ J (k + 1) W' ∧ Kept (· < W.heap.size) W1 W') ∨ (e = .returned (.bool false) ∧ Jx k W')) →
    J 0 W →
    CallsIn Fence.wide n P gf (#[.func (.yield l) #[] #[]] ++ lb) W fun e W' => (∃ v, e = .returned v) ∧ (J N W' ∨ ∃ k, k < N ∧ Jx k W')

/-- How a round's body may be left. -/
def roundEnd (B : Nat) (I : Nat → World → Prop) (Ix : Code → Nat → World → Prop) (k : Nat) (W : World) : Exit → Act → World → Prop
  | .normal, _, W' => Kept (· < B) W W' ∧ I (k + 1) W'
  | .ret, _, W' => Kept (· < B) W W' ∧ Ix .ret k W'
  | .exit id, _, W' => Kept (· < B) W W' ∧ Ix (.exit id) k W'
  | .goto t, _, W' => Kept (· < B) W W' ∧ Ix (.goto t) k W'
  | .panic _, _, _ => False
  | .outgrown, _, _ => False

theorem below_putObj {B l : Nat} {W : World} (o : Obj) (h : B ≤ l) : Below B W (W.putObj l o) :=
  (Below.refl B W) |>.trans ⟨rfl, rfl, rfl, by simp [World.putObj], fun k hk => World.putObj_heap_other (by omega)⟩
theorem kept_putObj (l : Nat) (W : World) (o : Obj) : Kept (· = l) W (W.putObj l o) :=
  ⟨rfl, rfl, rfl, by simp [World.putObj], fun k _ hs => World.putObj_heap_other hs⟩

theorem roomW (n : Nat) : Fence.wide.room n := room_wide n

theorem roundIn_any {m m' : Nat} {P : Program} {l : Nat} {f : FuncId} {tmps : Array Value} {assign body : Code} {w : World} {R : Ending → World → Prop}
    (h : RoundIn Fence.wide m P l f tmps assign body w R) : RoundIn Fence.wide m' P l f tmps assign body w R :=
  ⟨h.1, fun c cs _ => h.2 c cs (room_wide _)⟩

theorem wp_range {P : Program} {n : Nat} {g : Operand} {ps : Array Tmp} {assign body : Code} {Q : Exit → Act → World → Prop} {a : Act} {w : World}
    {gf : Nat} {lb : Array Value} (hg : a.eval g = .func (.func gf) #[] lb) (eg : ∀ args w, (callFunc gf args).run P w = .ok (.enter gf args) w)
    {encs : Nat → Array Value} {N : Nat} {G : World → Prop} (hit : IterAt P gf lb encs N G) (hps : ∀ k, (encs k).size = ps.size)
    (I : Nat → World → Prop) (Ix : Code → Nat → World → Prop) (hI : Deep w.heap.size I) (hIx : ∀ c, Deep w.heap.size (Ix c)) (hG : ∀ k W, I k W → G W) (h0 : I 0 w)
    (hround : ∀ (l k : Nat) (W : World), w.heap.size ≤ l → l < W.heap.size → k < N → I k W →
      assign.wpIn (Fence.wide.inRound l) n P (Exit.then (fun a₁ W₁ => Kept (· < w.heap.size) W W₁ ∧
          ∀ W₂, Kept (· = l) W₁ W₂ → Below w.heap.size W₁ W₂ → body.wpIn (Fence.wide.inRound l) n P (roundEnd w.heap.size I Ix k W₂) a₁ W₂) (fun _ _ _ => False))
        { tmps := (ps.zip (encs k)).foldl (fun t (p, v) => t.setIfInBounds p v) a.tmps, defers := [] } W)
    (hdone : ∀ (D : Nat) (W : World), w.heap.size ≤ D → I N W → W.heap[D]? = some (.deferred (some [])) → Q .normal { a with defers := { target := .collected D, args := #[] } :: a.defers } W)
    (hstop : ∀ (D : Nat) (c : Code) (k : Nat) (W : World), w.heap.size ≤ D → k < N → Ix c k W → W.heap[D]? = some (.deferred (some [])) → c.wpIn Fence.wide n P Q { a with defers := { target := .collected D, args := #[] } :: a.defers } W) :
    (Code.rangeFunc g ps assign body).wpIn Fence.wide n P Q a w := by
  refine wpIn_rangeFunc ?_
  intro fn hfn
  obtain ⟨rec, hrec⟩ : ∃ rec : LoopState → Option Code → Loop, rec = fun st pe => { state := st, pending := pe, fn, tmps := a.tmps, params := ps, assign, body, defers := w.heap.size } := ⟨_, rfl⟩
  obtain ⟨W1, hW1⟩ : ∃ W1, (w.alloc (.deferred (some []))).alloc (.loop (rec .ready none)) = W1 := ⟨_, rfl⟩
  have hsz : W1.heap.size = w.heap.size + 2 := by rw [← hW1]; simp
  have hL1 : W1.heap[w.heap.size + 1]? = some (.loop (rec .ready none)) := by rw [← hW1]; exact heap_new2 w _ _
  have hK1 : W1.heap[w.heap.size]? = some (.deferred (some [])) := by
    rw [← hW1]; exact (Below.heap_alloc _ _ _ (by simp)).trans (heap_new w _)
  have hb1 : Below w.heap.size w W1 := by
    rw [← hW1]; exact ((Below.refl _ w).alloc (Nat.le_refl _) _).alloc (by simp) _
  refine ⟨w.heap.size + 1, [{ target := .collected w.heap.size, args := #[] }], W1, { target := .fn (.func gf) lb, args := #[.func (.yield (w.heap.size + 1)) #[] #[]] }, W1, gf,
    #[.func (.yield (w.heap.size + 1)) #[] #[]] ++ lb, W1, ?_, ?_, ?_, ?_, ?_, ?_⟩
  · rw [← hW1, hrec]; exact run_enterLoop_outer _ _ _ _ _
  · simp only [resolve, hg]
    simp [go_sem]
  · intro f' _; trivial
  · simp [invoke, go_sem, eg]
  · intro h; simp [Fence.wide] at h
  · refine (hit (n - 1) (w.heap.size + 1)
      (fun k W => I k W ∧ W.heap[w.heap.size + 1]? = some (.loop (rec .ready none)) ∧ W.heap[w.heap.size]? = some (.deferred (some [])))
      (fun k W => ∃ c, Ix c k W ∧ W.heap[w.heap.size + 1]? = some (.loop (rec .done (some c))) ∧ W.heap[w.heap.size]? = some (.deferred (some [])))
      W1 ?_ ?_ (fun k W h => hG k W h.1) ?_ ⟨hI _ _ _ h0 hb1, hL1, hK1⟩).mono ?_
    · rintro k W W' ⟨h1, h2, h3⟩ hb
      exact ⟨hI _ _ _ h1 (hb.mono (by omega)), (hb.block _ (by omega)).trans h2, (hb.block _ (by omega)).trans h3⟩
    · rintro k W W' ⟨c, h1, h2, h3⟩ hb
      exact ⟨c, hIx c _ _ _ h1 (hb.mono (by omega)), (hb.block _ (by omega)).trans h2, (hb.block _ (by omega)).trans h3⟩
    · rintro k W hk ⟨hi, hl, hd⟩
      have hlt : w.heap.size + 1 < W.heap.size := (Array.getElem?_eq_some_iff.1 hl).1
      have hy := run_yield (P := P) (args := encs k) hl (by rw [hrec]; exact hps k)
      rw [hrec] at hy
      refine ⟨fn, _, assign, body, hy, roundIn_any (m := n) (roundIn_of_wpIn hfn (wpIn_mono (hround (w.heap.size + 1) k W (by omega) hlt hk hi) ?_))⟩
      rintro e a1 Wa hp
      cases e with
      | normal =>
        obtain ⟨hka, hbody⟩ := hp
        have hla : Wa.heap[w.heap.size + 1]? = some (.loop (rec .ready none)) := (hka.block _ (by omega) (by simp)).trans hl
        have hda : Wa.heap[w.heap.size]? = some (.deferred (some [])) := (hka.block _ (by omega) (by simp)).trans hd
        have hlta : w.heap.size + 1 < Wa.heap.size := (Array.getElem?_eq_some_iff.1 hla).1
        refine ⟨_, run_beginRound hla (by rw [hrec]), ?_⟩
        obtain ⟨Wb, hWb⟩ : ∃ Wb, Wa.putObj (w.heap.size + 1) (.loop { rec .ready none with state := .busy }) = Wb := ⟨_, rfl⟩
        rw [hWb]
        have hlb : Wb.heap[w.heap.size + 1]? = some (.loop { rec .ready none with state := .busy }) := by rw [← hWb]; exact World.putObj_heap_same hlta
        have hkb : Kept (· = w.heap.size + 1) Wa Wb := by rw [← hWb]; exact kept_putObj _ _ _
        have hdb : Wb.heap[w.heap.size]? = some (.deferred (some [])) := (hkb.block _ (by omega) (by omega)).trans hda
        refine wpIn_mono (hbody Wb hkb (by rw [← hWb]; exact below_putObj _ (by omega))) ?_
        have fin : ∀ (jump : Option Code) (W3 : World), Kept (· < w.heap.size) Wb W3 →
            (Instr.endRound (w.heap.size + 1) jump).run P W3 = .ok (.bool jump.isNone) (W3.putObj (w.heap.size + 1) (.loop (rec (if jump.isNone then .ready else .done) jump))) ∧
            (W3.putObj (w.heap.size + 1) (.loop (rec (if jump.isNone then .ready else .done) jump))).heap[w.heap.size + 1]? = some (.loop (rec (if jump.isNone then .ready else .done) jump)) ∧
            (W3.putObj (w.heap.size + 1) (.loop (rec (if jump.isNone then .ready else .done) jump))).heap[w.heap.size]? = some (.deferred (some [])) := fun jump W3 hk3 => by
          have hl3 := (hk3.block (w.heap.size + 1) (Array.getElem?_eq_some_iff.1 hlb).1 (by omega)).trans hlb
          have hd3 := (hk3.block w.heap.size (Array.getElem?_eq_some_iff.1 hdb).1 (by omega)).trans hdb
          have := run_endRound (P := P) jump hl3
          rw [hrec] at this ⊢
          exact ⟨this, World.putObj_heap_same (Array.getElem?_eq_some_iff.1 hl3).1, (World.putObj_heap_other (by omega)).trans hd3⟩
        rintro e3 a3 W3 hp3
        cases e3 with
        | normal =>
          obtain ⟨hk3, hi3⟩ := hp3
          obtain ⟨hr, hl4, hd4⟩ := fin none W3 hk3
          refine ⟨_, _, hr, .inl ⟨rfl, ⟨hI _ _ _ hi3 (below_putObj _ (by omega)), hl4, hd4⟩, ?_⟩⟩
          have q1 : Kept (· < W1.heap.size) W Wa := hka.mono (fun _ _ e => by omega)
          have q2 : Kept (· < W1.heap.size) Wa Wb := hkb.mono (fun _ _ e => by omega)
          have q3 : Kept (· < W1.heap.size) Wb W3 := hk3.mono (fun _ _ e => by omega)
          have q4 : Kept (· < W1.heap.size) W3 (W3.putObj (w.heap.size + 1) (.loop (rec (if (none : Option Code).isNone then .ready else .done) none))) := (kept_putObj (w.heap.size + 1) W3 (.loop (rec (if (none : Option Code).isNone then .ready else .done) none))).mono (fun _ _ e => by omega)
          exact ((q1.trans q2).trans q3).trans q4
        | ret =>
          obtain ⟨hk3, hi3⟩ := hp3
          obtain ⟨hr, hl4, hd4⟩ := fin (some .ret) W3 hk3
          exact ⟨_, _, hr, .inr ⟨rfl, .ret, hIx _ _ _ _ hi3 (below_putObj _ (by omega)), hl4, hd4⟩⟩
        | exit id =>
          obtain ⟨hk3, hi3⟩ := hp3
          obtain ⟨hr, hl4, hd4⟩ := fin (some (.exit id)) W3 hk3
          exact ⟨_, _, hr, .inr ⟨rfl, .exit id, hIx _ _ _ _ hi3 (below_putObj _ (by omega)), hl4, hd4⟩⟩
        | goto t =>
          obtain ⟨hk3, hi3⟩ := hp3
          obtain ⟨hr, hl4, hd4⟩ := fin (some (.goto t)) W3 hk3
          exact ⟨_, _, hr, .inr ⟨rfl, .goto t, hIx _ _ _ _ hi3 (below_putObj _ (by omega)), hl4, hd4⟩⟩
        | panic ch => exact hp3.elim
        | outgrown => exact hp3.elim
      | ret => exact hp.elim
      | exit id => exact hp.elim
      | goto t => exact hp.elim
      | panic ch => exact hp.elim
      | outgrown => exact hp.elim
    · rintro e W2 ⟨⟨v, rfl⟩, (⟨hi, hl, hd⟩ | ⟨k, hkN, c, hi, hl, hd⟩)⟩
      · exact ⟨none, _, by have := run_endLoop (P := P) hl (by rw [hrec]; simp); rw [hrec] at this; exact this, hdone _ _ (Nat.le_refl _) (hI _ _ _ hi (below_putObj _ (by omega))) ((World.putObj_heap_other (by omega)).trans hd)⟩
      · exact ⟨some c, _, by have := run_endLoop (P := P) hl (by rw [hrec]; simp); rw [hrec] at this; exact this, hstop _ c k _ (Nat.le_refl _) hkN (hIx c _ _ _ hi (below_putObj _ (by omega))) ((World.putObj_heap_other (by omega)).trans hd)⟩

end Go.Proofs.YtlhajbcabpfbkaaGreatDoor

/-
  A region that draws its order, in a round of a range over a function: what holds of it outside holds of it there. No program.
-/
namespace Go.Proofs.YtlhajbcabpfbkaaGreatDoor

/-- No operation is a 'defer' statement. -/
def noDefer (l : List Oper) : Bool := l.all fun o => match o.op with | .defer _ => false | _ => true

theorem noDefer_spec {l : List Oper} (h : noDefer l = true) {i : Nat} {o : Oper} (ho : l[i]? = some o) : ∀ c, o.op ≠ .defer c := by
  intro c hc
  have := List.all_eq_true.1 h o (List.mem_of_getElem? ho)
  simp [hc] at this

theorem wpOpIn_round {P : Program} {n l : Nat} {ops : List Oper} {Q : Exit → Act → World → Prop} (hd : noDefer ops = true) (hQ : ¬ LetsOut Q) {i : Nat} {K : Act → World → Prop} {a : Act} {w : World}
    (h : wpOp P ops.toArray Q i K a w) : wpOpIn (Fence.wide.inRound l) n P ops.toArray Q i K a w := by
  unfold wpOp at h
  unfold wpOpIn
  cases ho : ops.toArray[i]? with
  | none => rw [ho] at h; exact h
  | some o =>
    rw [ho] at h
    simp only at h ⊢
    split
    · rename_i hw
      rw [if_pos hw] at h
      have h := h.resolve_right (fun e => hQ e.2)
      refine ⟨fun _ _ => trivial, ?_⟩
      have hs : Oper.semAt (some l) a.eval o = execOp a.eval o := Oper.semAt_some l a.eval o (noDefer_spec hd (by simpa using ho))
      show o.uponIn (Fence.wide.inRound l) n P a K Q ((o.semAt (some l) a.eval).run P w)
      rw [hs]
      unfold Oper.wp at h
      cases hr : (execOp a.eval o).run P w with
      | ok nx w' =>
        rw [hr] at h
        cases nx with
        | value v => exact h
        | skip => exact h
        | defer d => exact h
        | enter f args => exact ⟨fun e => by simp [Fence.wide, Fence.inRound] at e, CallsIn.inRound l (callsIn_wide.2 h)⟩
        | row row args => exact ⟨fun e => by simp [Fence.wide, Fence.inRound] at e, fun c cs _ => let ⟨v, w'', r, s⟩ := h c cs; ⟨v, w'', r, stepsIn_wide.2 s⟩⟩
        | _ => exact h.elim
      | halt hh w' =>
        rw [hr] at h
        cases hh with
        | panic v => exact h
        | _ => exact h.elim
    · rename_i hw
      rw [if_neg hw] at h
      exact ⟨fun _ _ => trivial, h⟩

theorem wpAnyIn_round {P : Program} {n l : Nat} {md : Region.Mode} {ops : List Oper} {Q : Exit → Act → World → Prop} (hd : noDefer ops = true) (hQ : ¬ LetsOut Q) :
    ∀ (fuel : Nat) (listed : Array Bool) (a : Act) (w : World), wpAny P md ops.toArray Q fuel listed a w → wpAnyIn (Fence.wide.inRound l) n P md ops.toArray Q fuel listed a w := by
  intro fuel
  induction fuel with
  | zero => exact fun _ _ _ h => h
  | succ fuel ih =>
    intro listed a w h
    exact ⟨h.1, fun i hi => wpOpIn_mono (fun a w => ih _ a w) (wpOpIn_round hd hQ (h.2 i hi))⟩

/-- ONE WALK IN THE ORDER OF THE TEXT, IN A ROUND. -/
theorem wpIn_round_quiet {P : Program} {n l id : Nat} {Q : Exit → Act → World → Prop} {a : Act} {w : World} {ops : List Oper} (hd : noDefer ops = true) (hm : P.follows .mixedOrders = true) (hB : Region.lexB .any ops.toArray = true) (hQ : ¬ LetsOut Q)
    (h : wpQuiet P ops.toArray (fun w' => ∃ n, w' = w.drewN n) (fun a' => ∀ w', (∃ n, w' = w.drewN n) → Q .normal a' w') ops a) : (Code.region id ops.toArray true).wpIn (Fence.wide.inRound l) n P Q a w := by
  simp only [Region.lexB, Bool.and_eq_true] at hB
  refine wpIn_region_any hm (wpAnyIn_round hd hQ _ _ _ _ (wpAny_of_quiet (C := fun w' => ∃ n, w' = w.drewN n) (Q := fun a' => ∀ w', (∃ n, w' = w.drewN n) → Q .normal a' w') (fun _ w' hw' h => h w' hw') _ _ _ _ ⟨1, rfl⟩ ?_))
  have := wpAnyQ_lex (C := fun w' => ∃ n, w' = w.drewN n) (md := .any) hB.1 ops 0 (Array.replicate ops.toArray.size false) a (by simp) (by simpa using hB.2) (by simpa using h)
  simpa using this

end Go.Proofs.YtlhajbcabpfbkaaGreatDoor

/-
  All of a grid of cells: which rounds it comes to; Copy; how a function that ranges over one is walked.
-/
namespace Go.Proofs.YtlhajbcabpfbkaaGreatDoor
open Go.RowKit

attribute [local go_sem] Oper.semAt_some

theorem wide_call {n : Nat} {f : FuncId} {args : Array Value} {w : World} {R : Ending → World → Prop} (h : Calls Tryz.prog f args w R) :
    Fence.wide.fn f ∧ (Fence.wide.depth.isSome = true → 1 ≤ n) ∧ CallsIn Fence.wide (n - 1) Tryz.prog f args w R :=
  ⟨trivial, fun h => by simp [Fence.wide] at h, callsIn_wide.2 h⟩

/-- A function that holds a range over a function, walked by the plain walk. -/
theorem calls_marks {f : FuncId} {fn : Func} {c : Code} {args : Array Value} {w : World} {R : Ending → World → Prop} (hf : Tryz.prog.funcs[f]? = some fn) (hb : fn.body = some c)
    (h : c.wp Tryz.prog (bodyPostM Fence.wide 0 Tryz.prog fn R) { tmps := args ++ Array.replicate (fn.ntmps - args.size) undef, defers := [] } w) : Calls Tryz.prog f args w R :=
  callsIn_wide.1 (callsIn_of_wp_marks hf hb trivial (wpIn_wide.2 h))

theorem Kept.set1 (w : World) (b o : Nat) (v : Value) : Kept (· = b) w (w.setCell ⟨b, o, none⟩ v) :=
  Kept.setCell (S := (· = b)) (Kept.refl _ w) ⟨b, o, none⟩ (Or.inr rfl) v
theorem Kept.thenBelow {S : Nat → Prop} {a w w' : World} {B : Nat} (h : Kept S a w) (b : Below B w w') (hB : a.heap.size ≤ B) : Kept S a w' :=
  ⟨b.os.trans h.os, b.tape.trans h.tape, b.output.trans h.output, Nat.le_trans h.size b.size, fun i hi hs => (b.block i (by omega)).trans (h.block i hi hs)⟩



/-- Which place an iterator's own cells tell. -/
def placeOf (C b : Nat) (w : World) : Nat :=
  match w.cell? ⟨b, 0, none⟩, w.cell? ⟨b, 1, none⟩ with
  | some (.int _ r), some (.int _ c) => idx C r c
  | _, _ => 0

theorem placeOf_eq {C b : Nat} {w : World} {r c : Int} (h0 : w.cell? ⟨b, 0, none⟩ = some (.int .i64 r)) (h1 : w.cell? ⟨b, 1, none⟩ = some (.int .i64 c)) : placeOf C b w = idx C r c := by
  simp [placeOf, h0, h1]

/-- A block of two numbers that may be written. -/
structure TwoAt (w : World) (b : Nat) (r c : Int) : Prop where
  c0 : w.cell? ⟨b, 0, none⟩ = some (.int .i64 r)
  c1 : w.cell? ⟨b, 1, none⟩ = some (.int .i64 c)
  f0 : w.frozen? ⟨b, 0, none⟩ = false
  f1 : w.frozen? ⟨b, 1, none⟩ = false

theorem TwoAt.lt {w : World} {b : Nat} {r c : Int} (h : TwoAt w b r c) : b < w.heap.size := World.block_lt_of_cell? w _ h.c0
theorem TwoAt.kept {w w' : World} {b : Nat} {r c : Int} (h : TwoAt w b r c) {S : Nat → Prop} (k : Kept S w w') (hs : ¬ S b) : TwoAt w' b r c :=
  ⟨(k.cell h.lt hs).trans h.c0, (k.cell h.lt hs).trans h.c1, (k.frozen h.lt hs).trans h.f0, (k.frozen h.lt hs).trans h.f1⟩

theorem TwoAt.drewN {w : World} {b : Nat} {r c : Int} (h : TwoAt w b r c) (n : Nat) : TwoAt (w.drewN n) b r c := ⟨h.c0, h.c1, h.f0, h.f1⟩
theorem TwoAt.set1 {w : World} {b : Nat} {r c : Int} (h : TwoAt w b r c) (x : Int) : TwoAt (w.setCell ⟨b, 1, none⟩ (.int .i64 x)) b r x :=
  ⟨by simp [go_sem, h.c0], by simp [go_sem, h.c1], by simp [go_sem, h.f0], by simp [go_sem, h.f1]⟩
theorem TwoAt.set0 {w : World} {b : Nat} {r c : Int} (h : TwoAt w b r c) (x : Int) : TwoAt (w.setCell ⟨b, 0, none⟩ (.int .i64 x)) b x c :=
  ⟨by simp [go_sem, h.c0], by simp [go_sem, h.c1], by simp [go_sem, h.f0], by simp [go_sem, h.f1]⟩

/-- The row, and the column, of the place with a number. -/
def rowOf (C k : Nat) : Nat := k / C
def colOf (C k : Nat) : Nat := k % C
theorem idx_row_col (C k : Nat) : idx C (rowOf C k : Int) (colOf C k : Int) = k := by
  simp only [idx, rowOf, colOf, Int.toNat_natCast]
  rw [Nat.mul_comm]
  exact Nat.div_add_mod k C
theorem rowOf_lt {R C k : Nat} (h : k < R * C) : rowOf C k < R := Nat.div_lt_of_lt_mul (by rwa [Nat.mul_comm] at h)
theorem colOf_lt {C k : Nat} (h : 1 ≤ C) : colOf C k < C := Nat.mod_lt _ (by omega)
theorem there_row_col {R C k : Nat} (h : k < R * C) (hC : 1 ≤ C) : There R C (rowOf C k) (colOf C k) := by
  have h1 := rowOf_lt h
  have h2 := colOf_lt (k := k) hC
  exact ⟨by omega, by omega, by omega, by omega⟩
/-- The next place. -/
theorem next_place {C k : Nat} (hC : 1 ≤ C) :
    (colOf C k + 1 < C → rowOf C (k + 1) = rowOf C k ∧ colOf C (k + 1) = colOf C k + 1) ∧ (C ≤ colOf C k + 1 → rowOf C (k + 1) = rowOf C k + 1 ∧ colOf C (k + 1) = 0) := by
  have hm := Nat.div_add_mod k C
  have hlt := colOf_lt (k := k) hC
  unfold rowOf colOf at *
  constructor
  · intro h
    have e : k + 1 = C * (k / C) + (k % C + 1) := by omega
    constructor
    · rw [e, Nat.mul_add_div (by omega), Nat.div_eq_of_lt h]; omega
    · rw [e, Nat.mul_add_mod, Nat.mod_eq_of_lt h]
  · intro h
    have e : k + 1 = C * (k / C + 1) := by rw [Nat.mul_add]; omega
    constructor
    · rw [e, Nat.mul_div_cancel_left _ (by omega)]
    · rw [e, Nat.mul_mod_right]

/-- What the k-th round of All is handed. -/
def allArgs (C : Nat) (f : Nat → Cel) (k : Nat) : Array Value := #[.agg #[.int .i64 (rowOf C k : Int), .int .i64 (colOf C k : Int)], (f k).v]

/-- What All of a grid reads. -/
def AllG (bx g t cap R C : Nat) (f : Nat → Cel) (W : World) : Prop := W.cell? ⟨bx, 0, none⟩ = some (.pointer (some ⟨g, 0, none⟩)) ∧ GridAt W g t cap R C f

/-- A cell in a block that may be written. -/
structure CelW (w : World) (b : Nat) (x : Cel) : Prop where
  at0 : CelAt w b x
  f0 : w.frozen? ⟨b, 0, none⟩ = false
  f1 : w.frozen? ⟨b, 1, none⟩ = false
  f2 : w.frozen? ⟨b, 2, none⟩ = false
  f3 : w.frozen? ⟨b, 3, none⟩ = false
theorem CelW.lt {w : World} {b : Nat} {x : Cel} (h : CelW w b x) : b < w.heap.size := World.block_lt_of_cell? w _ h.at0.c0
theorem CelW.kept {w w' : World} {b : Nat} {x : Cel} (h : CelW w b x) {S : Nat → Prop} (k : Kept S w w') (hs : ¬ S b) : CelW w' b x :=
  ⟨h.at0.kept k hs, (k.frozen h.lt hs).trans h.f0, (k.frozen h.lt hs).trans h.f1, (k.frozen h.lt hs).trans h.f2, (k.frozen h.lt hs).trans h.f3⟩
theorem CelW.new (w : World) (x : Cel) (t : TypeId) : CelW (w.alloc (.cells #[.int .i32 x.g, .int .i64 x.a, .bool x.b, .int .i64 x.m] t)) w.heap.size x :=
  ⟨CelAt.new w x t, by simp [go_sem], by simp [go_sem], by simp [go_sem], by simp [go_sem]⟩
theorem CelW.set {w : World} {b : Nat} {x : Cel} (h : CelW w b x) (y : Cel) : CelW ((((w.setCell ⟨b, 0, none⟩ (.int .i32 y.g)).setCell ⟨b, 1, none⟩ (.int .i64 y.a)).setCell ⟨b, 2, none⟩ (.bool y.b)).setCell ⟨b, 3, none⟩ (.int .i64 y.m)) b y := by
  obtain ⟨⟨c0, c1, c2, c3⟩, f0, f1, f2, f3⟩ := h
  exact ⟨⟨by simp [go_sem, c0], by simp [go_sem, c1], by simp [go_sem, c2], by simp [go_sem, c3]⟩, by simp [go_sem, f0], by simp [go_sem, f1], by simp [go_sem, f2], by simp [go_sem, f3]⟩

end Go.Proofs.YtlhajbcabpfbkaaGreatDoor

/-
  What Same of two grids of cells does, where they have the same cells: alike, which defers a recover and ranges over All.
-/
namespace Go.Proofs.YtlhajbcabpfbkaaGreatDoor
open Go.RowKit

attribute [local go_sem] Oper.semAt_some

theorem BoolAt.below {w w' : World} {b B : Nat} {v : Bool} (h : BoolAt w b v) (k : Below B w w') (hs : b < B) : BoolAt w' b v :=
  ⟨(k.cell (p := ⟨b, 0, none⟩) hs).trans h.c, (k.frozen (p := ⟨b, 0, none⟩) hs).trans h.f⟩


/-- ONE WALK IN THE ORDER OF THE TEXT, IN A ROUND, WHERE A CALLEE MAY MAKE MEMORY. -/
theorem wpIn_round_calm {P : Program} {n l id : Nat} {Q : Exit → Act → World → Prop} {a : Act} {w : World} {ops : List Oper} (C : World → Prop) (hC : C w.drew) (hd : noDefer ops = true) (hm : P.follows .mixedOrders = true) (hB : Region.lexB .any ops.toArray = true) (hQ : ¬ LetsOut Q)
    (h : wpQuiet P ops.toArray C (fun a' => ∀ w', C w' → Q .normal a' w') ops a) : (Code.region id ops.toArray true).wpIn (Fence.wide.inRound l) n P Q a w := by
  simp only [Region.lexB, Bool.and_eq_true] at hB
  refine wpIn_region_any hm (wpAnyIn_round hd hQ _ _ _ _ (wpAny_of_quiet (C := C) (Q := fun a' => ∀ w', C w' → Q .normal a' w') (fun _ w' hw' h => h w' hw') _ _ _ _ hC ?_))
  have := wpAnyQ_lex (C := C) (md := .any) hB.1 ops 0 (Array.replicate ops.toArray.size false) a (by simp) (by simpa using hB.2) (by simpa using h)
  simpa using this

/-- The same, outside a round. -/
theorem wp_calm {P : Program} {id : Nat} {Q : Exit → Act → World → Prop} {a : Act} {w : World} {ops : List Oper} (C : World → Prop) (hC : C w.drew) (hm : P.follows .mixedOrders = true) (hB : Region.lexB .any ops.toArray = true)
    (h : wpQuiet P ops.toArray C (fun a' => ∀ w', C w' → Q .normal a' w') ops a) : (Code.region id ops.toArray true).wp P Q a w := by
  simp only [Region.lexB, Bool.and_eq_true] at hB
  refine wp_region_any hm (wpAny_of_quiet (C := C) (Q := fun a' => ∀ w', C w' → Q .normal a' w') (fun _ w' hw' h => h w' hw') _ _ _ _ hC ?_)
  have := wpAnyQ_lex (C := C) (md := .any) hB.1 ops 0 (Array.replicate ops.toArray.size false) a (by simp) (by simpa using hB.2) (by simpa using h)
  simpa using this

/-- One operation: its value, and why it is that in every world. -/
theorem calm_op {P : Program} {ops : Array Oper} {C : World → Prop} {Q : Act → Prop} {a : Act} {o : Oper} {rest : List Oper} (v : Value) (hw : Region.wanted o (yielded ops a.tmps) = true)
    (h : ∀ w, C w → o.quietAt P a C w v) (hk : wpQuiet P ops C Q rest (a.put o.dst v)) : wpQuiet P ops C Q (o :: rest) a :=
  wpQuiet_step fun K hK => by rw [if_pos hw]; exact ⟨v, h, hK _ hk⟩


end Go.Proofs.YtlhajbcabpfbkaaGreatDoor
