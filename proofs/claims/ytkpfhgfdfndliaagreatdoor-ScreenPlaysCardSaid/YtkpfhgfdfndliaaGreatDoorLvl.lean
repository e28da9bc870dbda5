/-
  Screens, one, two or three of them, and what a call leaves of all.
-/
import Derived.Test.YtkpfhgfdfndliaaGreatDoorDoesD
namespace Go.Proofs.YtkpfhgfdfndliaaGreatDoor
open Go.RowKit

/-- A screen that is made greater or smaller. -/
def resZ (z : St) (R' C' : Nat) : St := { R := R', C := C', F := resF z.F z.R z.C C' blk (z.R * z.C), S := Tb.resF z.C z.S, r := nr z.r R', c := nr z.c C', b := false }
def moveZ (z : St) (p q : Int) : St := { z with r := nr p z.R, c := nr q z.C, b := false }
def feedZ (z : St) (n : Int) : St := { z with F := upF z.R z.C z.F (feedD z.R z.r n) blk, r := feedR z.R z.r n, b := false }
def putZ (z : St) (x : Cel) (k : Int) (v : Bool) : St := { z with F := sputF z.R z.C z.F z.r z.c z.b x k v, r := sputR z.R z.C z.F z.r z.c z.b x k v, c := sputC z.R z.C z.F z.r z.c z.b x k v, b := sputB z.R z.C z.F z.r z.c z.b k v }

theorem post_same {s g t cap tb m : Nat} {z : St} {w1 w2 : World} (h2 : ScrIn w2 s g t cap tb m z.R z.C z.F z.S z.r z.c z.b) (k2 : Kept (Own s g t tb m) w1 w2) : Post (Own s g t tb m) s z w1 w2 :=
  ⟨_, ⟨g, t, cap, tb, m, h2, rfl⟩, fun _ hi => Or.inl hi, k2⟩

section
variable {B : Nat → Prop} {s : Nat} {z : St} {w : World}
theorem cur_scr (h : Scr w B s z) : Calls Tryz.prog 19 #[ptr s] w fun e w' => e = .returned (.tuple #[pos z.r z.c, .bool z.b]) ∧ Kept0 w w' := by
  obtain ⟨g, t, cap, tb, m, hi, rfl⟩ := h
  exact cursor_any w hi
theorem size_scr (h : Scr w B s z) : Calls Tryz.prog 20 #[ptr s] w fun e w' => e = .returned (pos z.R z.C) ∧ Kept0 w w' := by
  obtain ⟨g, t, cap, tb, m, hi, rfl⟩ := h
  exact ssize_any w hi
theorem at_scr (p q : Int) (h : Scr w B s z) : Calls Tryz.prog 22 #[ptr s, pos p q] w fun e w' => e = .returned (.tuple #[(atX z.R z.C z.F p q).v, .int .i64 (atE z.R z.C p q)]) ∧ Kept0 w w' := by
  obtain ⟨g, t, cap, tb, m, hi, rfl⟩ := h
  exact sat_core (some ⟨g, 0, none⟩) s p q _ _ w hi.c3 (fun w2 k2 => at_any g t cap z.R z.C z.F p q w2 (hi.kept0 k2).grid)
theorem bounds_scr (h : Scr w B s z) : 1 ≤ z.R ∧ z.R ≤ 255 ∧ 1 ≤ z.C ∧ z.C ≤ 255 ∧ There z.R z.C z.r z.c := by
  obtain ⟨g, t, cap, tb, m, hi, rfl⟩ := h
  exact ⟨hi.grid.R1, hi.grid.R2, hi.grid.C1, hi.grid.C2, hi.there⟩
theorem move_scr (p q : Int) (h : Scr w B s z) : Calls Tryz.prog 23 #[ptr s, pos p q] w fun e w' => e = .returned (.tuple #[]) ∧ Post B s (moveZ z p q) w w' := by
  obtain ⟨g, t, cap, tb, m, hi, rfl⟩ := h
  refine (smove_any p q w hi).mono ?_
  rintro e w' ⟨rfl, h1, k⟩
  exact ⟨rfl, post_same h1 (k.mono (fun i _ e => by subst e; simp [Own]))⟩
theorem feed_scr (n : Int) (h : Scr w B s z) (hb : Blank w) (h0 : ¬ B 0) (hn : -9223372036854775808 ≤ n ∧ n ≤ 9223372036854775807) : Calls Tryz.prog 21 #[ptr s, .int .i64 n] w fun e w' => e = .returned (.tuple #[]) ∧ Post B s (feedZ z n) w w' := by
  obtain ⟨g, t, cap, tb, m, hi, rfl⟩ := h
  refine (sfeed_any n w hi hb (fun e => h0 (by rw [← e]; exact Or.inr (Or.inr (Or.inl rfl)))) hn).mono ?_
  rintro e w' ⟨rfl, h1, k⟩
  exact ⟨rfl, post_same h1 (k.mono (fun i _ e => by rcases e with rfl | rfl <;> simp [Own]))⟩
theorem put_scr (x : Cel) (k : Int) (v : Bool) (h : Scr w B s z) (hb : Blank w) (h0 : ¬ B 0) : Calls Tryz.prog 27 #[ptr s, x.v, .int .i64 k, .bool v] w fun e w' => e = .returned (.tuple #[]) ∧ Post B s (putZ z x k v) w w' := by
  obtain ⟨g, t, cap, tb, m, hi, rfl⟩ := h
  refine (sput_any x k v w hi hb (fun e => h0 (by rw [← e]; exact Or.inr (Or.inr (Or.inl rfl))))).mono ?_
  rintro e w' ⟨rfl, h1, k⟩
  exact ⟨rfl, post_same h1 (k.mono (fun i _ e => by rcases e with rfl | rfl <;> simp [Own]))⟩
theorem resize_scr (R' C' : Nat) (h : Scr w B s z) (hb : Blank w) (hy : 1 ≤ R' ∧ R' ≤ 255 ∧ 1 ≤ C' ∧ C' ≤ 255) : Calls Tryz.prog 26 #[ptr s, pos R' C'] w fun e w' => e = .returned (.int .i64 0) ∧ Post B s (resZ z R' C') w w' := by
  obtain ⟨g, t, cap, tb, m, hi, rfl⟩ := h
  refine (sresize_yes R' C' w hi hb hy).mono ?_
  rintro e w2 ⟨rfl, t', ht', h2, k2⟩
  refine ⟨rfl, Own s g t' tb m, ⟨g, t', R' * C', tb, m, h2, rfl⟩, ?_, k2.mono (fun i _ e => by rcases e with rfl | rfl | rfl | rfl <;> simp [Own])⟩
  rintro i (rfl | rfl | rfl | rfl | rfl)
  · exact Or.inl (by simp [Own])
  · exact Or.inl (by simp [Own])
  · exact Or.inr ht'
  · exact Or.inl (by simp [Own])
  · exact Or.inl (by simp [Own])
theorem copy_scr (h : Scr w B s z) : Calls Tryz.prog 17 #[ptr s] w fun e w' => ∃ s' B', e = .returned (ptr s') ∧ Scr w' B' s' z ∧ (∀ i, B' i → w.heap.size ≤ i) ∧ Kept0 w w' := by
  obtain ⟨g, t, cap, tb, m, hi, rfl⟩ := h
  refine (scopy_any w hi).mono ?_
  rintro e w' ⟨s', g', t', cap', tb', m', rfl, h1, h2, k⟩
  exact ⟨s', _, rfl, ⟨g', t', cap', tb', m', h2, rfl⟩, h1, k⟩
theorem rows_scr (h : Scr w B s z) : Calls Tryz.prog 24 #[ptr s] w fun e w' => ∃ l, e = .returned (.slice (some ⟨l, 0, none⟩) z.R z.R) ∧ w.heap.size ≤ l ∧ RowsAt w' w.heap.size l z.R z.C (fun i k => z.F (i * z.C + k)) ∧ Kept0 w w' := by
  obtain ⟨g, t, cap, tb, m, hi, rfl⟩ := h
  exact srows_any w hi
theorem listed_scr (h : Scr w B s z) : Calls Tryz.prog 25 #[ptr s] w fun e w' => ∃ a cap, e = .returned (.slice a (Tb.listN z.C z.S).length cap) ∧ Tb.IntsIn w' a (Tb.listN z.C z.S) ∧ (∀ b off, a = some ⟨b, off, none⟩ → w.heap.size ≤ b) ∧ Kept0 w w' := by
  obtain ⟨g, t, cap, tb, m, hi, rfl⟩ := h
  exact slisted_any w hi
theorem new_scr (R C : Nat) (w : World) (hb : Blank w) (h : 1 ≤ R ∧ R ≤ 255 ∧ 1 ≤ C ∧ C ≤ 255) :
    Calls Tryz.prog 11 #[pos R C] w fun e w' => ∃ s B, e = .returned (.tuple #[ptr s, .int .i64 0]) ∧ Scr w' B s ⟨R, C, fun _ => blk, fun _ => false, 0, 0, false⟩ ∧ (∀ i, B i → w.heap.size ≤ i) ∧ Kept0 w w' := by
  refine (snew_yes R C w hb h).mono ?_
  rintro e w' ⟨s, g, t, cap, tb, m, rfl, h1, h2, k⟩
  exact ⟨s, _, rfl, ⟨g, t, cap, tb, m, h2, rfl⟩, h1, k⟩
end

/-- One screen, in blocks that are newer than a world, and not those of X. -/
def Uno (X : Nat → Prop) (w0 w : World) (s : Nat) (z : St) : Prop := ∃ B, Scr w B s z ∧ (∀ i, B i → w0.heap.size ≤ i ∧ ¬ X i) ∧ (∀ i, X i → i < w.heap.size) ∧ Kept0 w0 w
/-- Two screens apart. -/
def Duo (X : Nat → Prop) (w0 w : World) (s : Nat) (z : St) (c : Nat) (y : St) : Prop :=
  ∃ B1 B2, Scr w B1 s z ∧ Scr w B2 c y ∧ (∀ i, B1 i → ¬ B2 i) ∧ (∀ i, B1 i → w0.heap.size ≤ i ∧ ¬ X i) ∧ (∀ i, B2 i → w0.heap.size ≤ i ∧ ¬ X i) ∧ (∀ i, X i → i < w.heap.size) ∧ Kept0 w0 w
/-- Three screens apart. -/
def Trio (X : Nat → Prop) (w0 w : World) (s : Nat) (z : St) (c : Nat) (y : St) (d : Nat) (x : St) : Prop :=
  ∃ B1 B2 B3, Scr w B1 s z ∧ Scr w B2 c y ∧ Scr w B3 d x ∧ (∀ i, B1 i → ¬ B2 i) ∧ (∀ i, B1 i → ¬ B3 i) ∧ (∀ i, B2 i → ¬ B3 i) ∧ (∀ i, B1 i → w0.heap.size ≤ i ∧ ¬ X i) ∧ (∀ i, B2 i → w0.heap.size ≤ i ∧ ¬ X i) ∧ (∀ i, B3 i → w0.heap.size ≤ i ∧ ¬ X i) ∧ (∀ i, X i → i < w.heap.size) ∧ Kept0 w0 w

/-- What a call may turn. -/
abbrev Turned (X : Nat → Prop) (w0 : World) : Nat → Prop := fun i => w0.heap.size ≤ i ∧ ¬ X i

section
variable {X : Nat → Prop} {w0 w w' : World} {s c d : Nat} {z z' y y' x x' : St}
theorem Uno.keep (h : Uno X w0 w s z) (k : Kept0 w w') : Uno X w0 w' s z := by
  obtain ⟨B, h1, h2, h3, h4⟩ := h
  exact ⟨B, h1.kept0 k, h2, fun i hi => Nat.lt_of_lt_of_le (h3 i hi) k.size, h4.trans k⟩
theorem Duo.keep (h : Duo X w0 w s z c y) (k : Kept0 w w') : Duo X w0 w' s z c y := by
  obtain ⟨B1, B2, h1, h2, h3, h4, h5, h6, h7⟩ := h
  exact ⟨B1, B2, h1.kept0 k, h2.kept0 k, h3, h4, h5, fun i hi => Nat.lt_of_lt_of_le (h6 i hi) k.size, h7.trans k⟩
theorem Trio.keep (h : Trio X w0 w s z c y d x) (k : Kept0 w w') : Trio X w0 w' s z c y d x := by
  obtain ⟨B1, B2, B3, h1, h2, h3, a1, a2, a3, b1, b2, b3, h6, h7⟩ := h
  exact ⟨B1, B2, B3, h1.kept0 k, h2.kept0 k, h3.kept0 k, a1, a2, a3, b1, b2, b3, fun i hi => Nat.lt_of_lt_of_le (h6 i hi) k.size, h7.trans k⟩
/-- A block that is new is set aside. -/
theorem Uno.aside (h : Uno X w0 w s z) (o : Obj) : Uno (fun i => X i ∨ i = w.heap.size) w0 (w.alloc o) s z := by
  obtain ⟨B, h1, h2, h3, h4⟩ := h
  have hlt := h1.lt
  refine ⟨B, h1.kept0 ((Kept.refl _ w).alloc o), fun i hi => ⟨(h2 i hi).1, ?_⟩, ?_, h4.alloc o⟩
  · rintro (e | e)
    · exact (h2 i hi).2 e
    · have := hlt i hi; omega
  · rintro i (e | e)
    · have := h3 i e; simp; omega
    · simp; omega
theorem Duo.aside (h : Duo X w0 w s z c y) (o : Obj) : Duo (fun i => X i ∨ i = w.heap.size) w0 (w.alloc o) s z c y := by
  obtain ⟨B1, B2, h1, h2, h3, h4, h5, h6, h7⟩ := h
  have l1 := h1.lt
  have l2 := h2.lt
  refine ⟨B1, B2, h1.kept0 ((Kept.refl _ w).alloc o), h2.kept0 ((Kept.refl _ w).alloc o), h3, fun i hi => ⟨(h4 i hi).1, ?_⟩, fun i hi => ⟨(h5 i hi).1, ?_⟩, ?_, h7.alloc o⟩
  · rintro (e | e)
    · exact (h4 i hi).2 e
    · have := l1 i hi; omega
  · rintro (e | e)
    · exact (h5 i hi).2 e
    · have := l2 i hi; omega
  · rintro i (e | e)
    · have := h6 i e; simp; omega
    · simp; omega
theorem Uno.old (h : Uno X w0 w s z) : Kept0 w0 w := by obtain ⟨_, _, _, _, h⟩ := h; exact h
theorem Duo.old (h : Duo X w0 w s z c y) : Kept0 w0 w := by obtain ⟨_, _, _, _, _, _, _, _, h⟩ := h; exact h
theorem Duo.swap (h : Duo X w0 w s z c y) : Duo X w0 w c y s z := by
  obtain ⟨B1, B2, h1, h2, h3, h4, h5, h6, h7⟩ := h
  exact ⟨B2, B1, h2, h1, fun i a b => h3 i b a, h5, h4, h6, h7⟩
theorem Duo.one (h : Duo X w0 w s z c y) : Uno X w0 w s z := by
  obtain ⟨B1, B2, h1, h2, h3, h4, h5, h6, h7⟩ := h
  exact ⟨B1, h1, h4, h6, h7⟩
theorem Trio.old (h : Trio X w0 w s z c y d x) : Kept0 w0 w := by obtain ⟨_, _, _, _, _, _, _, _, _, _, _, _, _, h⟩ := h; exact h
theorem Trio.first (h : Trio X w0 w s z c y d x) : Duo X w0 w s z c y := by
  obtain ⟨B1, B2, B3, h1, h2, h3, a1, a2, a3, b1, b2, b3, h6, h7⟩ := h
  exact ⟨B1, B2, h1, h2, a1, b1, b2, h6, h7⟩
theorem Trio.turn (h : Trio X w0 w s z c y d x) : Trio X w0 w c y d x s z := by
  obtain ⟨B1, B2, B3, h1, h2, h3, a1, a2, a3, b1, b2, b3, h6, h7⟩ := h
  exact ⟨B2, B3, B1, h2, h3, h1, a3, fun i p q => a1 i q p, fun i p q => a2 i q p, b2, b3, b1, h6, h7⟩
theorem Uno.scr (h : Uno X w0 w s z) : ∃ B, Scr w B s z := ⟨_, h.choose_spec.1⟩

theorem uno_call {f : FuncId} {args : Array Value} {V : Ending} (h : Uno X w0 w s z) (h0 : 0 < w0.heap.size) (hc : ∀ B, Scr w B s z → ¬ B 0 → Calls Tryz.prog f args w fun e w' => e = V ∧ Post B s z' w w') :
    Calls Tryz.prog f args w fun e w' => e = V ∧ Uno X w0 w' s z' ∧ Kept (Turned X w0) w w' := by
  obtain ⟨B, h1, h2, h3, h4⟩ := h
  refine (hc B h1 (fun e => by have := (h2 0 e).1; omega)).mono ?_
  rintro e w' ⟨rfl, B', p1, p2, p3⟩
  have hz := h4.size
  refine ⟨rfl, ⟨B', p1, fun i hi => ?_, fun i hi => Nat.lt_of_lt_of_le (h3 i hi) p3.size, h4.later p3 (fun i hi e => by have := (h2 i e).1; omega)⟩, p3.mono (fun i _ e => h2 i e)⟩
  rcases p2 i hi with h | h
  · exact h2 i h
  · exact ⟨by omega, fun e => by have := h3 i e; omega⟩
theorem duo_call {f : FuncId} {args : Array Value} {V : Ending} (h : Duo X w0 w s z c y) (h0 : 0 < w0.heap.size) (hc : ∀ B, Scr w B s z → ¬ B 0 → Calls Tryz.prog f args w fun e w' => e = V ∧ Post B s z' w w') :
    Calls Tryz.prog f args w fun e w' => e = V ∧ Duo X w0 w' s z' c y ∧ Kept (Turned X w0) w w' := by
  obtain ⟨B1, B2, h1, h2, h3, h4, h5, h6, h7⟩ := h
  refine (hc B1 h1 (fun e => by have := (h4 0 e).1; omega)).mono ?_
  rintro e w' ⟨rfl, B', p1, p2, p3⟩
  have hz := h7.size
  refine ⟨rfl, ⟨B', B2, p1, h2.kept p3 (fun i hi e => h3 i e hi), fun i hi e => ?_, fun i hi => ?_, h5, fun i hi => Nat.lt_of_lt_of_le (h6 i hi) p3.size, h7.later p3 (fun i hi e => by have := (h4 i e).1; omega)⟩, p3.mono (fun i _ e => h4 i e)⟩
  · rcases p2 i hi with h | h
    · exact h3 i h e
    · have := h2.lt i e; omega
  · rcases p2 i hi with h | h
    · exact h4 i h
    · exact ⟨by omega, fun e => by have := h6 i e; omega⟩
theorem trio_call {f : FuncId} {args : Array Value} {V : Ending} (h : Trio X w0 w s z c y d x) (h0 : 0 < w0.heap.size) (hc : ∀ B, Scr w B s z → ¬ B 0 → Calls Tryz.prog f args w fun e w' => e = V ∧ Post B s z' w w') :
    Calls Tryz.prog f args w fun e w' => e = V ∧ Trio X w0 w' s z' c y d x := by
  obtain ⟨B1, B2, B3, h1, h2, h3, a1, a2, a3, b1, b2, b3, h6, h7⟩ := h
  refine (hc B1 h1 (fun e => by have := (b1 0 e).1; omega)).mono ?_
  rintro e w' ⟨rfl, B', p1, p2, p3⟩
  have hz := h7.size
  refine ⟨rfl, B', B2, B3, p1, h2.kept p3 (fun i hi e => a1 i e hi), h3.kept p3 (fun i hi e => a2 i e hi), fun i hi e => ?_, fun i hi e => ?_, a3, fun i hi => ?_, b2, b3, fun i hi => Nat.lt_of_lt_of_le (h6 i hi) p3.size, h7.later p3 (fun i hi e => by have := (b1 i e).1; omega)⟩
  · rcases p2 i hi with h | h
    · exact a1 i h e
    · have := h2.lt i e; omega
  · rcases p2 i hi with h | h
    · exact a2 i h e
    · have := h3.lt i e; omega
  · rcases p2 i hi with h | h
    · exact b1 i h
    · exact ⟨by omega, fun e => by have := h6 i e; omega⟩
theorem uno_copy (h : Uno X w0 w s z) : Calls Tryz.prog 17 #[ptr s] w fun e w' => ∃ c, e = .returned (ptr c) ∧ Duo X w0 w' s z c z ∧ Kept0 w w' := by
  obtain ⟨B, h1, h2, h3, h4⟩ := h
  refine (copy_scr h1).mono ?_
  rintro e w' ⟨c, B', rfl, p1, p2, p3⟩
  have hz := h4.size
  exact ⟨c, rfl, ⟨B, B', h1.kept0 p3, p1, fun i a b => by have := h1.lt i a; have := p2 i b; omega, h2, fun i hi => ⟨by have := p2 i hi; omega, fun e => by have := p2 i hi; have := h3 i e; omega⟩, fun i hi => Nat.lt_of_lt_of_le (h3 i hi) p3.size, h4.trans p3⟩, p3⟩
theorem duo_copy (h : Duo X w0 w s z c y) : Calls Tryz.prog 17 #[ptr s] w fun e w' => ∃ d, e = .returned (ptr d) ∧ Trio X w0 w' s z c y d z := by
  obtain ⟨B1, B2, h1, h2, h3, h4, h5, h6, h7⟩ := h
  refine (copy_scr h1).mono ?_
  rintro e w' ⟨d, B', rfl, p1, p2, p3⟩
  have hz := h7.size
  exact ⟨d, rfl, B1, B2, B', h1.kept0 p3, h2.kept0 p3, p1, h3, fun i a b => by have := h1.lt i a; have := p2 i b; omega, fun i a b => by have := h2.lt i a; have := p2 i b; omega, h4, h5, fun i hi => ⟨by have := p2 i hi; omega, fun e => by have := p2 i hi; have := h6 i e; omega⟩, fun i hi => Nat.lt_of_lt_of_le (h6 i hi) p3.size, h7.trans p3⟩
end

/-- Nothing is set aside. -/
abbrev no : Nat → Prop := fun _ => False
end Go.Proofs.YtkpfhgfdfndliaaGreatDoor
