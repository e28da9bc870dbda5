/-
  What does does: a call with tabs and with the document's answer's.
-/
import Derived.Test.YtkfphgcbpphbnaaFew
namespace Go.Proofs.Ytkfphgcbpphbnaa
open Go.RowKit Go.Maps Go.ChangeMaps Go.MapKept

def putE (N : Nat) (l : List Int) : Int := if Ins N l then 0 else 11
def putU (N : Nat) (f : Nat → Bool) (on : Bool) (l : List Int) : Nat → Bool := if Ins N l then putF f on l else f
def everyE (n : Int) : Int := if n < 0 then 1 else 0
def everyU (n : Int) (f : Nat → Bool) : Nat → Bool := if n < 0 then f else everyF n

theorem put_u (t m N : Nat) (f : Nat → Bool) (on : Bool) (a : Option Addr) (cap : Nat) (l : List Int) (w : World) (h : TabsAt w t m N f) (hl : IntsIn w a l) (hn : l.length ≤ 9223372036854775807) :
    Calls Try.prog 18 #[.pointer (some ⟨t, 0, none⟩), .bool on, .slice a l.length cap] w fun e w' => e = .returned (.int .i64 (putE N l)) ∧ TabsAt w' t m N (putU N f on l) ∧ Kept (· = m) w w' := by
  unfold putE putU
  by_cases hb : Ins N l
  · rw [if_pos hb, if_pos hb]
    exact put_ok t m N f on a cap l w h hl hn hb
  · rw [if_neg hb, if_neg hb]
    exact (put_bad t m N f on a cap l w h hl hn hb).mono fun e w' ⟨h1, h2⟩ => ⟨h1, h.kept0 h2, Kept0.to h2⟩
theorem refPut_u (r b N : Nat) (f : Nat → Bool) (on : Bool) (a : Option Addr) (cap : Nat) (l : List Int) (w : World) (h : RefAt w r b N f) (hl : IntsIn w a l) (hab : ∀ (k : Nat) (x : Int), l[k]? = some x → ∀ bl off, a = some ⟨bl, off, none⟩ → bl ≠ b) (hn : l.length ≤ 9223372036854775807) :
    Calls Try.prog 25 #[.pointer (some ⟨r, 0, none⟩), .bool on, .slice a l.length cap] w fun e w' => e = .returned (.int .i64 (putE N l)) ∧ RefAt w' r b N (putU N f on l) ∧ Kept (· = b) w w' := by
  unfold putE putU
  by_cases hb : Ins N l
  · rw [if_pos hb, if_pos hb]
    exact refPut_ok r b N f on a cap l w h hl hab hn hb
  · rw [if_neg hb, if_neg hb]
    exact (refPut_bad r b N f on a cap l w h hl hn hb).mono fun e w' ⟨h1, h2⟩ => ⟨h1, h.kept0 h2, Kept0.to h2⟩
theorem every_u (t m N : Nat) (f : Nat → Bool) (n : Int) (w : World) (h : TabsAt w t m N f) :
    Calls Try.prog 19 #[.pointer (some ⟨t, 0, none⟩), .int .i64 n] w fun e w' => e = .returned (.int .i64 (everyE n)) ∧ TabsAt w' t m N (everyU n f) ∧ Kept (· = m) w w' := by
  unfold everyE everyU
  by_cases hb : n < 0
  · rw [if_pos hb, if_pos hb]
    exact (every_bad t n w hb).mono fun e w' ⟨h1, h2⟩ => ⟨h1, h.kept0 h2, Kept0.to h2⟩
  · rw [if_neg hb, if_neg hb]
    by_cases h0 : n = 0
    · subst h0
      rw [everyF_zero]
      exact every_zero t m N f w h
    · obtain ⟨M, rfl⟩ := Int.eq_ofNat_of_zero_le (show 0 ≤ n by omega)
      exact every_pos t m N f M w h (by omega)
theorem refEvery_u (r b N : Nat) (f : Nat → Bool) (n : Int) (w : World) (h : RefAt w r b N f) :
    Calls Try.prog 26 #[.pointer (some ⟨r, 0, none⟩), .int .i64 n] w fun e w' => e = .returned (.int .i64 (everyE n)) ∧ RefAt w' r b N (everyU n f) ∧ Kept (· = b) w w' := by
  unfold everyE everyU
  by_cases hb : n < 0
  · rw [if_pos hb, if_pos hb]
    exact (refEvery_bad r n w hb).mono fun e w' ⟨h1, h2⟩ => ⟨h1, h.kept0 h2, Kept0.to h2⟩
  · rw [if_neg hb, if_neg hb]
    exact refEvery_ok r b N f n w h (by omega)

/-- Tabs and the document's answer's lie apart. -/
theorem apart {w : World} {t m r b N N' : Nat} {f g : Nat → Bool} (hT : TabsAt w t m N f) (hR : RefAt w r b N' g) : t ≠ r ∧ t ≠ b ∧ m ≠ r ∧ m ≠ b := by
  refine ⟨?_, ?_, ?_, ?_⟩
  · rintro rfl
    have := hT.head.symm.trans hR.head
    simp at this
  · rintro rfl
    obtain ⟨cur, h1, _⟩ := hR.row
    have := hT.head.symm.trans h1
    simp at this
  · exact fun e => hT.set.ne hR.c0 e.symm
  · exact fun e => hT.set.ne (hR.cell (k := 0) (by have := hR.N1; omega)) e.symm

/-- A call that stands alone in a block. -/
theorem one_op {w : World} {b : Nat} {o : OpV} {t : TypeId} (h : w.heap[b]? = some (.cells #[.int .i64 o.ask, .int .i64 o.n, .int .i64 o.m, .slice o.la o.l.length o.lcap] t (0, 0))) : OpAt w b 0 o :=
  ⟨by simp [World.cell?, h], by simp [World.cell?, h], by simp [World.cell?, h], by simp [World.cell?, h]⟩

/-- What a call leaves. -/
def DoesPost (w : World) (t m r b : Nat) (e : Ending) (w' : World) : Prop :=
  ∃ r' b' N' f', e = .returned (.tuple #[.pointer (some ⟨r', 0, none⟩), .bool true]) ∧ TabsAt w' t m N' f' ∧ RefAt w' r' b' N' f' ∧ Kept (fun k => k = t ∨ k = m ∨ k = b) w w' ∧
    (r' = r ∨ w.heap.size ≤ r') ∧ (b' = b ∨ w.heap.size ≤ b')

set_option maxRecDepth 100000 in
set_option maxHeartbeats 4000000 in
theorem does_put (w : World) (t m r b N : Nat) (f : Nat → Bool) (o : OpV) (hT : TabsAt w t m N f) (hR : RefAt w r b N f) (hl : IntsIn w o.la o.l) (hok : o.Ok) (hab : ∀ (k : Nat) (x : Int), o.l[k]? = some x → ∀ bl off, o.la = some ⟨bl, off, none⟩ → bl ≠ b) (hask : o.ask = 0 ∨ o.ask = 1) :
    Calls Try.prog 12 #[.pointer (some ⟨t, 0, none⟩), .pointer (some ⟨r, 0, none⟩), .agg #[.int .i64 o.ask, .int .i64 o.n, .int .i64 o.m, .slice o.la o.l.length o.lcap]] w (DoesPost w t m r b) := by
  obtain ⟨n1, n2, n3, n4⟩ := apart hT hR
  have HN := Lib.hid hok.l
  have HAB := Lib.hid hab
  have htl := hT.lt
  have hml := hT.set.lt
  have hrl := hR.lt
  have hbl := hR.ltb
  clear hok hab
  have hl1 := hl
  rcases hask with hask | hask
  case' inl => have d0 : (o.ask == 0) = true := by rw [hask]; rfl
  case' inr => have d0 : (o.ask == 0) = false := by rw [hask]; rfl
  case' inr => have d1 : (o.ask == 1) = true := by rw [hask]; rfl
  all_goals
    clear hask
    go_enter Try.func12, Try.ntmps12
    go_wp2_with fail
    obtain ⟨w1, hw1⟩ : ∃ w1, w1 = w.alloc (.cells #[.int .i64 o.ask, .int .i64 o.n, .int .i64 o.m, .slice o.la o.l.length o.lcap] 35) := ⟨_, rfl⟩
    have hO : OpAt w1 w.heap.size 0 o := by rw [hw1]; exact one_op (heap_new _ _)
    have hk1 : Kept0 w w1 := by rw [hw1]; exact (Kept.refl _ w).alloc _
    have hs1 : w.heap.size < w1.heap.size := by rw [hw1]; simp
    rw [← hw1]
    clear hw1
    have HT1 := Lib.hid (hT.kept0 hk1)
    have HR1 := Lib.hid (hR.kept0 hk1)
    have HL1 := Lib.hid (hl.kept0 hk1)
    have a0 := hO.ask
    have a3 := hO.l
    simp only [Nat.zero_add] at a0 a3
    have hne : ¬ (w.heap.size = m ∨ w.heap.size = b) := by omega
    clear hl hl1
    go_region_held3 (fun w' => Kept (fun k => k = m ∨ k = b) w1 w' ∧ w'.cell? ⟨w.heap.size, 0, none⟩ = some (.int .i64 o.ask) ∧ w'.cell? ⟨w.heap.size, 3, none⟩ = some (.slice o.la o.l.length o.lcap))
      (first | exact ⟨(Kept.refl _ w1).drew, a0, a3⟩ | exact ⟨kx, (kx.cell hs1 hne).trans a0, (kx.cell hs1 hne).trans a3⟩)
      (first
        | (go_at_call 18; refine (put_u t m N f _ _ _ _ _ (HT1.out.kept0 (Kept.refl _ w1).drew) (HL1.out.kept0 (Kept.refl _ w1).drew) HN.out).mono ?_; rintro e w5 ⟨rfl, hT5, hk5⟩; have kx : Kept (fun k => k = m ∨ k = b) w1 w5 := (Kept.refl _ w1).drew.later hk5 (fun _ _ e => Or.inl e))
        | (go_at_call 25; refine (refPut_u r b N f _ _ _ _ _ (HR1.out.kept ((Kept.refl (fun k => k = m) w1).drew.trans hk5) (fun e => n3 e.symm) (fun e => n4 e.symm)) (HL1.out.keptM HT1.out.set ((Kept.refl (fun k => k = m) w1).drew.trans hk5)) HAB.out HN.out).mono ?_; rintro e w6 ⟨rfl, hR6, hk6⟩; have kx : Kept (fun k => k = m ∨ k = b) w1 w6 := kx.later hk6 (fun _ _ e => Or.inr e)))
    go_wp2_with fail
    go_ret2
    have kw : Kept (fun k => k = m ∨ k = b) w w6 := (Kept0.to hk1).trans kx
    exact ⟨r, b, N, _, rfl, hT5.kept hk6 n2 n4, hR6, kw.mono (fun _ _ e => Or.inr e), Or.inl rfl, Or.inl rfl⟩
end Go.Proofs.Ytkfphgcbpphbnaa
