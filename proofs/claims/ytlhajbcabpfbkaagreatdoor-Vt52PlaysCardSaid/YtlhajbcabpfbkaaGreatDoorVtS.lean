/-
  A terminal in memory: its screen, its queue, its own cells; what becomes of it, as plain data.
-/
import Derived.Test.YtlhajbcabpfbkaaGreatDoorMSh2
import Derived.Test.YtlhajbcabpfbkaaGreatDoorScrC
import Derived.Test.YtlhajbcabpfbkaaGreatDoorQuRgB
import Derived.Test.YtlhajbcabpfbkaaGreatDoorGlTell
namespace Go.Proofs.YtlhajbcabpfbkaaGreatDoor
open Go.RowKit

/-- A screen as plain data. -/
structure St where
  R : Nat
  C : Nat
  F : Nat → Cel
  S : Nat → Bool
  r : Int
  c : Int
  b : Bool

def moveZ (z : St) (p q : Int) : St := { z with r := nr p z.R, c := nr q z.C, b := false }
def stepZ (z : St) (p q : Int) : St := { z with r := nr (z.r + cut p 255) z.R, c := nr (z.c + cut q 255) z.C, b := false }
def feedZ (z : St) (n : Int) : St := { z with F := upF z.R z.C z.F (feedD z.R z.r n) blk, r := feedR z.R z.r n, b := false }
def putZ (z : St) (x : Cel) (k : Int) (v : Bool) : St := { z with F := sputF z.R z.C z.F z.r z.c z.b x k v, r := sputR z.R z.C z.F z.r z.c z.b x k v, c := sputC z.R z.C z.F z.r z.c z.b x k v, b := sputB z.R z.C z.F z.r z.c z.b k v }
def wipeZ (z : St) (p q p' q' : Int) : St := { z with F := swipeF z.R z.C z.F p q p' q' blk false }

/-- A terminal as plain data. -/
structure Vt where
  z : St
  most : Nat
  xs : List UInt8
  over : Bool
  g : Bool
  k : Bool
  h : Bool
  pre : List UInt8

/-- The blocks of a terminal: of its screen (s g t tb m), its own, the queue's. -/
structure Bl where
  s : Nat
  g : Nat
  t : Nat
  cap : Nat
  tb : Nat
  m : Nat
  tm : Nat
  q : Nat
  gq : Nat

def Bl.scr (a : Bl) (i : Nat) : Prop := Own a.s a.g a.t a.tb a.m i
def Bl.O (a : Bl) (i : Nat) : Prop := a.scr i ∨ i = a.tm ∨ i = a.q ∨ i = a.gq

abbrev ScrZ (w : World) (a : Bl) (z : St) : Prop := ScrIn w a.s a.g a.t a.cap a.tb a.m z.R z.C z.F z.S z.r z.c z.b
def headV (a : Bl) (v : Vt) : Array Value := #[ptr a.s, ptr a.q, .bool v.g, .bool v.k, .bool v.h, .string (Qu.str v.pre)]

structure VtIn (w : World) (a : Bl) (v : Vt) : Prop where
  scr : ScrZ w a v.z
  que : Qu.Qf w a.q a.gq v.most v.xs v.over
  head : w.heap[a.tm]? = some (.cells (headV a v) 66 (0, 0))
  apart : ¬ a.scr a.tm ∧ ¬ a.scr a.q ∧ ¬ a.scr a.gq ∧ a.tm ≠ a.q ∧ a.tm ≠ a.gq ∧ ¬ a.O 0
  blank : Blank w

namespace VtIn
variable {w w' : World} {a : Bl} {v : Vt}
theorem lt (h : VtIn w a v) : ∀ i, a.O i → i < w.heap.size := by
  rintro i (h1 | rfl | rfl | rfl)
  · exact h.scr.all_lt i h1
  · exact (Array.getElem?_eq_some_iff.1 h.head).1
  · exact h.que.lt
  · exact h.que.ltg
theorem kept (h : VtIn w a v) {T : Nat → Prop} (k : Kept T w w') (hT : ∀ i, a.O i → ¬ T i) (h0 : ¬ T 0) : VtIn w' a v :=
  ⟨h.scr.kept k (fun i hi => hT i (Or.inl hi)), h.que.kept k (hT _ (Or.inr (Or.inr (Or.inl rfl)))) (hT _ (Or.inr (Or.inr (Or.inr rfl)))),
   (k.block a.tm (h.lt _ (Or.inr (Or.inl rfl))) (hT _ (Or.inr (Or.inl rfl)))).trans h.head, h.apart, h.blank.kept k h0⟩
theorem kept0 (h : VtIn w a v) (k : Kept0 w w') : VtIn w' a v := h.kept k (fun _ _ e => e) (fun e => e)
theorem below (h : VtIn w a v) {B : Nat} (k : Below B w w') (hB : ∀ i, a.O i → i < B) (h0 : 0 < B) : VtIn w' a v := by
  have hlt := h.lt
  have kk : Kept (fun i => ¬ i < B) w w' := ⟨k.os, k.tape, k.output, k.size, fun i _ hi => k.block i (Classical.not_not.1 hi)⟩
  exact h.kept kk (fun i hi e => e (hB i hi)) (fun e => e h0)
/-- The screen is turned, nothing else. -/
theorem onScr (h : VtIn w a v) {z : St} {T : Nat → Prop} (k : Kept T w w') (hT : ∀ i, T i → a.scr i) (hs : ScrZ w' a z) : VtIn w' a { v with z := z } := by
  obtain ⟨h1, h2, h3, h4, h5, h6⟩ := h.apart
  exact ⟨hs, h.que.kept k (fun e => h2 (hT _ e)) (fun e => h3 (hT _ e)), (k.block a.tm (h.lt _ (Or.inr (Or.inl rfl))) (fun e => h1 (hT _ e))).trans h.head, h.apart, h.blank.kept k (fun e => h6 (Or.inl (hT _ e)))⟩
theorem onQue (h : VtIn w a v) {xs : List UInt8} {over : Bool} {T : Nat → Prop} (k : Kept T w w') (hT : ∀ i, T i → i = a.q ∨ i = a.gq) (hq : Qu.Qf w' a.q a.gq v.most xs over) : VtIn w' a { v with xs := xs, over := over } := by
  obtain ⟨h1, h2, h3, h4, h5, h6⟩ := h.apart
  have hns : ∀ i, a.scr i → ¬ T i := fun i hi e => by rcases hT i e with rfl | rfl <;> contradiction
  exact ⟨h.scr.kept k hns, hq, (k.block a.tm (h.lt _ (Or.inr (Or.inl rfl))) (fun e => (hT _ e).elim h4 h5)).trans h.head, h.apart, h.blank.kept k (fun e => h6 (Or.inr (Or.inr (hT _ e))))⟩
/-- Its own cells are turned, nothing else. -/
theorem onHead (h : VtIn w a v) {v' : Vt} (hz : v'.z = v.z) (hm : v'.most = v.most) (hx : v'.xs = v.xs) (ho : v'.over = v.over) (k : Kept (· = a.tm) w w') (hh : w'.heap[a.tm]? = some (.cells (headV a v') 66 (0, 0))) : VtIn w' a v' := by
  obtain ⟨h1, h2, h3, h4, h5, h6⟩ := h.apart
  refine ⟨?_, ?_, hh, h.apart, h.blank.kept k (fun e => h6 (Or.inr (Or.inl e)))⟩
  · rw [hz]; exact h.scr.kept k (fun i hi e => h1 (e ▸ hi))
  · rw [hm, hx, ho]; exact h.que.kept k (fun e => h4 e.symm) (fun e => h5 e.symm)
theorem cS (h : VtIn w a v) : w.cell? ⟨a.tm, 0, none⟩ = some (ptr a.s) := by simp [World.cell?, h.head, headV]
theorem cQ (h : VtIn w a v) : w.cell? ⟨a.tm, 1, none⟩ = some (ptr a.q) := by simp [World.cell?, h.head, headV]
theorem cG (h : VtIn w a v) : w.cell? ⟨a.tm, 2, none⟩ = some (.bool v.g) := by simp [World.cell?, h.head, headV]
theorem cK (h : VtIn w a v) : w.cell? ⟨a.tm, 3, none⟩ = some (.bool v.k) := by simp [World.cell?, h.head, headV]
theorem cH (h : VtIn w a v) : w.cell? ⟨a.tm, 4, none⟩ = some (.bool v.h) := by simp [World.cell?, h.head, headV]
theorem cP (h : VtIn w a v) : w.cell? ⟨a.tm, 5, none⟩ = some (.string (Qu.str v.pre)) := by simp [World.cell?, h.head, headV]
theorem fz (h : VtIn w a v) (o : Nat) : w.frozen? ⟨a.tm, o, none⟩ = false := by simp [World.frozen?, h.head]
theorem ltm (h : VtIn w a v) : a.tm < w.heap.size := h.lt _ (Or.inr (Or.inl rfl))
theorem setPre (h : VtIn w a v) (l : List UInt8) : VtIn (w.setCell ⟨a.tm, 5, none⟩ (.string (Qu.str l))) a { v with pre := l } :=
  h.onHead rfl rfl rfl rfl (Kept.set1 _ _ _ _) (by rw [heap_setCell_same w a.tm 5 _ 66 _ h.head]; simp [headV])
theorem setG (h : VtIn w a v) (b : Bool) : VtIn (w.setCell ⟨a.tm, 2, none⟩ (.bool b)) a { v with g := b } :=
  h.onHead rfl rfl rfl rfl (Kept.set1 _ _ _ _) (by rw [heap_setCell_same w a.tm 2 _ 66 _ h.head]; simp [headV])
theorem setK (h : VtIn w a v) (b : Bool) : VtIn (w.setCell ⟨a.tm, 3, none⟩ (.bool b)) a { v with k := b } :=
  h.onHead rfl rfl rfl rfl (Kept.set1 _ _ _ _) (by rw [heap_setCell_same w a.tm 3 _ 66 _ h.head]; simp [headV])
theorem setH (h : VtIn w a v) (b : Bool) : VtIn (w.setCell ⟨a.tm, 4, none⟩ (.bool b)) a { v with h := b } :=
  h.onHead rfl rfl rfl rfl (Kept.set1 _ _ _ _) (by rw [heap_setCell_same w a.tm 4 _ 66 _ h.head]; simp [headV])
end VtIn

theorem setTm (w : World) (a : Bl) (o : Nat) (v : Value) : Kept a.O w (w.setCell ⟨a.tm, o, none⟩ v) := (Kept.set1 _ _ _ _).mono (fun _ _ e => Or.inr (Or.inl e))
theorem toO {a : Bl} {T : Nat → Prop} {w w' : World} (k : Kept T w w') (hT : ∀ i, T i → a.O i) : Kept a.O w w' := k.mono (fun i _ e => hT i e)

/-- What a byte does. -/
inductive Dw where
  | no | step (r c : Int) | tab | feed (n : Int) | first | put | home | wait | goTo | wipeS | wipeR | graph (b : Bool) | keypad (b : Bool) | hold (b : Bool) | reply | begin

def outD (b : Nat) : Dw :=
  if b = 8 then .step 0 (-1) else if b = 9 then .tab else if b = 10 then .feed 1 else if b = 13 then .first else if 32 ≤ b ∧ b ≤ 126 then .put else .no
def begD (b : Nat) : Dw :=
  if b = 65 then .step (-1) 0 else if b = 66 then .step 1 0 else if b = 67 then .step 0 1 else if b = 68 then .step 0 (-1) else if b = 72 then .home else if b = 73 then .feed (-1)
  else if b = 89 then .wait else if b = 74 then .wipeS else if b = 75 then .wipeR else if b = 70 then .graph true else if b = 71 then .graph false else if b = 61 then .keypad true else if b = 62 then .keypad false
  else if b = 91 then .hold true else if b = 92 then .hold false else if b = 90 then .reply else .no
def rowD (n b : Nat) : Dw := if n = 0 then outD b else if n = 1 then begD b else if n = 2 then .wait else .goTo
/-- What the byte b does where n bytes are pending. -/
def doD (n b : Nat) : Dw := if b = 27 then .begin else rowD n b

def tabC (C : Nat) (c : Int) : Int := if (C : Int) - 1 < c + 8 - c.tmod 8 then c + 1 else c + 8 - c.tmod 8
def goR (R : Nat) (r : Int) (x : Int) : Int := if 0 ≤ x ∧ x ≤ (R : Int) - 1 then x else r
def goC (c : Int) (x : Int) : Int := if 0 ≤ x then x else c
def glyphV (g : Bool) (b : Nat) : Int := (Gl.refN (if g then 3 else 1) b : Int)
def pushV (v : Vt) (l : List UInt8) : Vt := { v with xs := if v.xs.length + l.length ≤ v.most then v.xs ++ l else v.xs, over := if v.xs.length + l.length ≤ v.most then v.over else true }

def actV (d : Dw) (s : List UInt8) (v : Vt) : Vt :=
  match d with
  | .no => v
  | .step r c => { v with z := stepZ v.z r c }
  | .tab => { v with z := moveZ v.z v.z.r (tabC v.z.C v.z.c) }
  | .feed n => { v with z := feedZ v.z n }
  | .first => { v with z := moveZ v.z v.z.r 0 }
  | .put => { v with z := putZ v.z ⟨glyphV v.g (s.getD 0 0).toNat, 0, false, 0⟩ 1 false }
  | .home => { v with z := moveZ v.z 0 0 }
  | .wait => { v with pre := s }
  | .goTo => { v with z := moveZ v.z (goR v.z.R v.z.r ((s.getD 2 0).toNat - 32)) (goC v.z.c ((s.getD 3 0).toNat - 32)) }
  | .wipeS => { v with z := wipeZ v.z v.z.r v.z.c ((v.z.R : Int) - 1) ((v.z.C : Int) - 1) }
  | .wipeR => { v with z := wipeZ v.z v.z.r v.z.c v.z.r ((v.z.C : Int) - 1) }
  | .graph b => { v with g := b }
  | .keypad b => { v with k := b }
  | .hold b => { v with h := b }
  | .reply => pushV v [27, 47, 75]
  | .begin => { v with pre := [27] }

/-- Which lengths of a sequence a thing is told. -/
def LenOk (d : Dw) (s : List UInt8) : Prop :=
  match d with
  | .put => s.length = 1
  | .goTo => s.length = 4
  | .wait => s.length ≤ 3
  | _ => True

def byteV (v : Vt) (b : UInt8) : Vt := actV (doD v.pre.length b.toNat) (v.pre ++ [b]) { v with pre := [] }
def feedV (l : List UInt8) (v : Vt) : Vt := l.foldl byteV v

theorem ite_len {p : Prop} [Decidable p] {x y : Dw} {s : List UInt8} (hx : LenOk x s) (hy : LenOk y s) : LenOk (if p then x else y) s := by split <;> assumption
theorem outD_len {b : Nat} {s : List UInt8} (h : s.length = 1) : LenOk (outD b) s := by
  unfold outD
  repeat' (refine ite_len ?_ ?_)
  all_goals simp [LenOk, h]
theorem begD_len {b : Nat} {s : List UInt8} (h : s.length = 2) : LenOk (begD b) s := by
  unfold begD
  repeat' (refine ite_len ?_ ?_)
  all_goals simp [LenOk, h]
theorem doD_len {v : Vt} (h : v.pre.length ≤ 3) (b : UInt8) : LenOk (doD v.pre.length b.toNat) (v.pre ++ [b]) := by
  unfold doD rowD
  by_cases hb : b.toNat = 27
  · simp [hb, LenOk]
  · rw [if_neg hb]
    by_cases h0 : v.pre.length = 0
    · rw [if_pos h0]; exact outD_len (by simp [h0])
    · rw [if_neg h0]
      by_cases h1 : v.pre.length = 1
      · rw [if_pos h1]; exact begD_len (by simp [h1])
      · rw [if_neg h1]
        by_cases h2 : v.pre.length = 2
        · rw [if_pos h2]; simp [LenOk, h2]
        · rw [if_neg h2]; simp [LenOk]; omega
theorem act_pre {d : Dw} {s : List UInt8} {v : Vt} (hl : LenOk d s) (hv : v.pre = []) : (actV d s v).pre.length ≤ 3 := by
  cases d <;> simp_all [actV, LenOk, pushV]
theorem byte_pre {v : Vt} (h : v.pre.length ≤ 3) (b : UInt8) : (byteV v b).pre.length ≤ 3 := act_pre (doD_len h b) rfl
theorem feed_pre {l : List UInt8} : ∀ {v : Vt}, v.pre.length ≤ 3 → (feedV l v).pre.length ≤ 3 := by
  induction l with
  | nil => exact fun h => h
  | cons b l ih => intro v h; exact ih (byte_pre h b)
theorem feed_append (l m : List UInt8) (v : Vt) : feedV (l ++ m) v = feedV m (feedV l v) := by simp [feedV]
theorem feed_step {l : List UInt8} {k : Nat} (h : k < l.length) (v : Vt) : feedV (l.take (k + 1)) v = byteV (feedV (l.take k) v) l[k] := by
  rw [List.take_add_one, List.getElem?_eq_getElem h]
  show List.foldl byteV v (l.take k ++ [l[k]]) = _
  rw [List.foldl_append]
  rfl

end Go.Proofs.YtlhajbcabpfbkaaGreatDoor
