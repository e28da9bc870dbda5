/-
  A screen as plain data, and what a call makes of it.
-/
import Derived.Test.YtkpfhgfdfndliaaGreatDoorDoesC
namespace Go.Proofs.YtkpfhgfdfndliaaGreatDoor
open Go.RowKit

/-- A screen as plain data. -/
structure St where
  R : Nat
  C : Nat
  F : Nat → Cel
  S : Nat → Bool
  r : Int
  c : Int
  b : Bool

/-- A screen at block s, of whose blocks B says which they are. -/
def Scr (w : World) (B : Nat → Prop) (s : Nat) (z : St) : Prop :=
  ∃ g t cap tb m, ScrIn w s g t cap tb m z.R z.C z.F z.S z.r z.c z.b ∧ B = Own s g t tb m

theorem Scr.lt {w : World} {B : Nat → Prop} {s : Nat} {z : St} (h : Scr w B s z) : ∀ i, B i → i < w.heap.size := by
  obtain ⟨g, t, cap, tb, m, h1, rfl⟩ := h
  exact h1.all_lt
theorem Scr.own {w : World} {B : Nat → Prop} {s : Nat} {z : St} (h : Scr w B s z) : B s := by
  obtain ⟨g, t, cap, tb, m, h1, rfl⟩ := h
  exact Or.inl rfl
theorem Scr.kept {w w' : World} {B : Nat → Prop} {s : Nat} {z : St} (h : Scr w B s z) {T : Nat → Prop} (k : Kept T w w') (hT : ∀ i, B i → ¬ T i) : Scr w' B s z := by
  obtain ⟨g, t, cap, tb, m, h1, rfl⟩ := h
  exact ⟨g, t, cap, tb, m, h1.kept k hT, rfl⟩
theorem Scr.kept0 {w w' : World} {B : Nat → Prop} {s : Nat} {z : St} (h : Scr w B s z) (k : Kept0 w w') : Scr w' B s z := h.kept k (fun _ _ e => e)

/-- A screen stands behind a call: in its own blocks, and in new ones. -/
def Post (B : Nat → Prop) (s : Nat) (z : St) (w w' : World) : Prop :=
  ∃ B', Scr w' B' s z ∧ (∀ i, B' i → B i ∨ w.heap.size ≤ i) ∧ Kept B w w'

theorem post_later {B : Nat → Prop} {s : Nat} {z : St} {w : World} (hB : ∀ i, B i → i < w.heap.size) : Later w (Post B s z) := by
  refine ⟨fun w1 w2 w3 k1 hp k3 => ?_, fun w1 w2 hp => ?_⟩
  · obtain ⟨B', h1, h2, h3⟩ := hp
    have hz := k1.size
    refine ⟨B', h1.kept k3 (fun i hi e => ?_), fun i hi => ?_, ((Kept0.to k1 : Kept B w w1).trans h3).later k3 (fun i hi e => by omega)⟩
    · rcases h2 i hi with h | h
      · have := hB i h; omega
      · omega
    · rcases h2 i hi with h | h
      · exact Or.inl h
      · exact Or.inr (by omega)
  · obtain ⟨B', h1, h2, h3⟩ := hp
    exact h3.mono (fun i _ e => hB i e)
theorem kept_later {w : World} : Later w Kept0 :=
  ⟨fun w1 w2 w3 k1 k2 k3 => (k1.trans k2).later k3 (fun i hi e => by omega), fun w1 w2 k => k.to⟩

/-- What a call that draws leaves. -/
def drawF (o : Op) (z : St) : St :=
  if o.ask = 0 then { z with F := sputF z.R z.C z.F z.r z.c z.b o.x o.wr o.gd, r := sputR z.R z.C z.F z.r z.c z.b o.x o.wr o.gd, c := sputC z.R z.C z.F z.r z.c z.b o.x o.wr o.gd, b := sputB z.R z.C z.F z.r z.c z.b o.wr o.gd }
  else if o.ask = 7 then { z with F := swipeF z.R z.C z.F o.a1 o.a2 o.b1 o.b2 o.x o.gd }
  else if o.ask = 8 then { z with F := spartF z.R z.C z.F z.r z.c o.n o.x o.gd }
  else if o.ask = 9 then { z with F := Sh.linesF z.R z.C z.F z.r o.n o.x o.gd }
  else if o.ask = 10 then { z with F := Sh.charsF z.R z.C z.F z.r z.c o.n o.x o.gd }
  else z
def mayB (p q : Int) : Bool := decide (1 ≤ p ∧ p ≤ 255 ∧ 1 ≤ q ∧ q ≤ 255)
/-- What a call leaves. -/
def doF (o : Op) (z : St) : St :=
  if o.ask = 1 then { z with r := nr o.a1 z.R, c := nr o.a2 z.C, b := false }
  else if o.ask = 2 then { z with r := nr (z.r + cut o.a1 255) z.R, c := nr (z.c + cut o.a2 255) z.C, b := false }
  else if o.ask = 3 then { z with F := upF z.R z.C z.F (feedD z.R z.r o.n) blk, r := feedR z.R z.r o.n, b := false }
  else if o.ask = 4 then (if o.n = 0 then z else { z with c := Tb.goN z.C z.S z.c o.n, b := false })
  else if o.ask = 5 then { z with S := stopF z.C z.S o.n (!o.gd) }
  else if o.ask = 6 then { z with S := stopsF z.S o.n }
  else if o.ask = 11 then { z with r := frR z.R z.C z.F z.r z.c o.gd, c := frC z.R z.C z.F z.r z.c o.gd, b := frB z.R z.C z.F z.r z.c z.b o.gd }
  else if o.ask = 12 then (if mayB o.a1 o.a2 = true then { R := o.a1.toNat, C := o.a2.toNat, F := resF z.F z.R z.C o.a2.toNat blk (z.R * z.C), S := Tb.resF z.C z.S, r := nr z.r o.a1, c := nr z.c o.a2, b := false } else z)
  else if o.ask = 13 then { z with F := setF z.R z.C z.F o.a1 o.a2 o.x }
  else drawF o z
/-- What it answers. -/
def doX (o : Op) (z : St) : Cel :=
  if o.ask = 11 then (if (freeO z.R z.C z.F z.r z.c o.gd).isSome = true then ⟨0, 0, false, 1⟩ else zc)
  else if 0 ≤ o.ask ∧ o.ask ≤ 13 then zc else atX z.R z.C z.F o.a1 o.a2
def doE (o : Op) (z : St) : Int :=
  if o.ask = 12 then (if mayB o.a1 o.a2 = true then 0 else 10)
  else if 0 ≤ o.ask ∧ o.ask ≤ 12 then 0 else atE z.R z.C o.a1 o.a2

/-- Numbers that an int holds. -/
def OpOk (o : Op) : Prop := -9223372036854775808 ≤ o.n ∧ o.n ≤ 9223372036854775807

theorem spart_any {s g t cap tb m R C : Nat} {F : Nat → Cel} {S : Nat → Bool} {r c : Int} {b : Bool} (k : Int) (x : Cel) (v : Bool) (w : World) (h : ScrIn w s g t cap tb m R C F S r c b) :
    Calls Tryz.prog 72 #[ptr s, .int .i64 k, x.v, .bool v] w fun e w' => e = .returned (.tuple #[]) ∧ ScrIn w' s g t cap tb m R C (spartF R C F r c k x v) S r c b ∧ Kept (· = t) w w' := by
  have h1 : 1 ≤ (R : Int) ∧ (R : Int) ≤ 255 ∧ 1 ≤ (C : Int) ∧ (C : Int) ≤ 255 := by
    have a1 := h.grid.R1; have a2 := h.grid.R2; have a3 := h.grid.C1; have a4 := h.grid.C2
    omega
  by_cases hk : 1 ≤ k ∧ k ≤ 6
  · rw [show spartF R C F r c k x v = Wp.wipeF R C F (Wp.one v (fun _ => x)) (Wp.fromR r k) (Wp.fromC c k) (Wp.toR R r k) (Wp.toC C c k) from if_pos hk]
    exact spart_core k x v _ _ _ _ 0 w h (fun w' => Wp.part_ok R C r c k w' h1 h.there hk)
      (fun _ w' kk => (Wp.wipe_any g t cap R C F _ _ _ _ x v w' (h.grid.kept kk (fun e => e) (fun e => e))).mono (by rintro e w2 ⟨rfl, h2, h3⟩; exact ⟨⟨_, rfl⟩, h2, h3⟩)) (fun e => absurd rfl e)
  · rw [show spartF R C F r c k x v = F from if_neg hk]
    exact spart_core k x v _ _ _ _ 12 w h (fun w' => Wp.part_kind R C r c k w' h1 h.there hk) (fun e => by omega) (fun _ => rfl)

theorem draws_any {B : Nat → Prop} {s : Nat} {z : St} (o : Op) (w : World) (h : Scr w B s z) (hb : Blank w) (h0 : ¬ B 0) (ho : OpOk o) :
    Calls Tryz.prog 36 #[ptr s, o.v] w fun e w' => e = .returned (.tuple #[]) ∧ Post B s (drawF o z) w w' := by
  have hL := fun z' => post_later (s := s) (z := z') h.lt
  have hlt := h.lt
  obtain ⟨g, t, cap, tb, m, hi, rfl⟩ := h
  have ht0 : ¬ t = 0 := fun e => h0 (by rw [← e]; exact Or.inr (Or.inr (Or.inl rfl)))
  have up : ∀ {w1 w2 : World} {z' : St}, Kept0 w w1 → ScrIn w2 s g t cap tb m z'.R z'.C z'.F z'.S z'.r z'.c z'.b → Kept (Own s g t tb m) w1 w2 → Post (Own s g t tb m) s z' w1 w2 := fun _ h2 k2 => ⟨_, ⟨g, t, cap, tb, m, h2, rfl⟩, fun i hi => Or.inl hi, k2⟩
  obtain ⟨ask, a1, a2, b1, b2, n, x, wr, gd⟩ := o
  unfold drawF
  simp only [Op.v]
  by_cases n0 : ask = 0
  · subst n0
    rw [if_pos rfl]
    refine draws_c0 _ a1 a2 b1 b2 n wr x gd w _ (.tuple #[]) (hL _) (fun w' k => (sput_any x wr gd w' (hi.kept0 k) (hb.kept0 k) ht0).mono ?_)
    rintro e w2 ⟨rfl, h2, k2⟩
    exact ⟨rfl, up k h2 (k2.mono (fun i _ e => by rcases e with rfl | rfl <;> simp [Own]))⟩
  rw [if_neg n0]
  by_cases n7 : ask = 7
  · subst n7
    rw [if_pos rfl]
    refine draws_c7 _ a1 a2 b1 b2 n wr x gd w _ (.tuple #[]) (hL _) (fun w' k => (swipe_any a1 a2 b1 b2 x gd w' (hi.kept0 k)).mono ?_)
    rintro e w2 ⟨rfl, h2, k2⟩
    exact ⟨rfl, up k h2 (k2.mono (fun i _ e => by subst e; simp [Own]))⟩
  rw [if_neg n7]
  by_cases n8 : ask = 8
  · subst n8
    rw [if_pos rfl]
    refine draws_c8 _ a1 a2 b1 b2 n wr x gd w _ (.tuple #[]) (hL _) (fun w' k => (spart_any n x gd w' (hi.kept0 k)).mono ?_)
    rintro e w2 ⟨rfl, h2, k2⟩
    exact ⟨rfl, up k h2 (k2.mono (fun i _ e => by subst e; simp [Own]))⟩
  rw [if_neg n8]
  by_cases n9 : ask = 9
  · subst n9
    rw [if_pos rfl]
    refine draws_c9 _ a1 a2 b1 b2 n wr x gd w _ (.tuple #[]) (hL _) (fun w' k => (slines_any n x gd w' (hi.kept0 k) ho.2).mono ?_)
    rintro e w2 ⟨rfl, h2, k2⟩
    exact ⟨rfl, up k h2 (k2.mono (fun i _ e => by subst e; simp [Own]))⟩
  rw [if_neg n9]
  by_cases n10 : ask = 10
  · subst n10
    rw [if_pos rfl]
    refine draws_c10 _ a1 a2 b1 b2 n wr x gd w _ (.tuple #[]) (hL _) (fun w' k => (schars_any n x gd w' (hi.kept0 k) ho.2).mono ?_)
    rintro e w2 ⟨rfl, h2, k2⟩
    exact ⟨rfl, up k h2 (k2.mono (fun i _ e => by subst e; simp [Own]))⟩
  rw [if_neg n10]
  refine (draws_none _ ask a1 a2 b1 b2 n wr x gd w n0 n7 n8 n9 n10).mono ?_
  rintro e w' ⟨rfl, k⟩
  exact ⟨rfl, _, ⟨g, t, cap, tb, m, hi.kept0 k, rfl⟩, fun i hi => Or.inl hi, k.to⟩

theorem does_any {B : Nat → Prop} {s : Nat} {z : St} (o : Op) (w : World) (h : Scr w B s z) (hb : Blank w) (h0 : ¬ B 0) (ho : OpOk o) :
    Calls Tryz.prog 14 #[ptr s, o.v] w fun e w' => e = .returned (.tuple #[(doX o z).v, .int .i64 (doE o z)]) ∧ Post B s (doF o z) w w' := by
  have hD := fun w' (k : Kept0 w w') => draws_any o w' (h.kept0 k) (hb.kept0 k) h0 ho
  have hL := fun z' => post_later (s := s) (z := z') h.lt
  have hlt := h.lt
  obtain ⟨g, t, cap, tb, m, hi, rfl⟩ := h
  have ht0 : ¬ t = 0 := fun e => h0 (by rw [← e]; exact Or.inr (Or.inr (Or.inl rfl)))
  have up : ∀ {w1 w2 : World} {z' : St}, Kept0 w w1 → ScrIn w2 s g t cap tb m z'.R z'.C z'.F z'.S z'.r z'.c z'.b → Kept (Own s g t tb m) w1 w2 → Post (Own s g t tb m) s z' w1 w2 := fun _ h2 k2 => ⟨_, ⟨g, t, cap, tb, m, h2, rfl⟩, fun i hi => Or.inl hi, k2⟩
  have same : ∀ {w1 w2 : World}, Kept0 w w1 → Kept0 w1 w2 → Post (Own s g t tb m) s z w1 w2 := fun k1 k2 => ⟨_, ⟨g, t, cap, tb, m, (hi.kept0 k1).kept0 k2, rfl⟩, fun i hi => Or.inl hi, k2.to⟩
  obtain ⟨ask, a1, a2, b1, b2, n, x, wr, gd⟩ := o
  simp only [Op.v]

  by_cases n0 : ask = 0
  · subst n0
    rw [show doF ⟨0, a1, a2, b1, b2, n, x, wr, gd⟩ z = drawF ⟨0, a1, a2, b1, b2, n, x, wr, gd⟩ z by simp [doF], show doX ⟨0, a1, a2, b1, b2, n, x, wr, gd⟩ z = zc by simp [doX], show doE ⟨0, a1, a2, b1, b2, n, x, wr, gd⟩ z = 0 by simp [doE]]
    exact does_d0 _ a1 a2 b1 b2 n wr x gd w _ (.tuple #[]) (hL _) hD
  by_cases n7 : ask = 7
  · subst n7
    rw [show doF ⟨7, a1, a2, b1, b2, n, x, wr, gd⟩ z = drawF ⟨7, a1, a2, b1, b2, n, x, wr, gd⟩ z by simp [doF], show doX ⟨7, a1, a2, b1, b2, n, x, wr, gd⟩ z = zc by simp [doX], show doE ⟨7, a1, a2, b1, b2, n, x, wr, gd⟩ z = 0 by simp [doE]]
    exact does_d7 _ a1 a2 b1 b2 n wr x gd w _ (.tuple #[]) (hL _) hD
  by_cases n8 : ask = 8
  · subst n8
    rw [show doF ⟨8, a1, a2, b1, b2, n, x, wr, gd⟩ z = drawF ⟨8, a1, a2, b1, b2, n, x, wr, gd⟩ z by simp [doF], show doX ⟨8, a1, a2, b1, b2, n, x, wr, gd⟩ z = zc by simp [doX], show doE ⟨8, a1, a2, b1, b2, n, x, wr, gd⟩ z = 0 by simp [doE]]
    exact does_d8 _ a1 a2 b1 b2 n wr x gd w _ (.tuple #[]) (hL _) hD
  by_cases n9 : ask = 9
  · subst n9
    rw [show doF ⟨9, a1, a2, b1, b2, n, x, wr, gd⟩ z = drawF ⟨9, a1, a2, b1, b2, n, x, wr, gd⟩ z by simp [doF], show doX ⟨9, a1, a2, b1, b2, n, x, wr, gd⟩ z = zc by simp [doX], show doE ⟨9, a1, a2, b1, b2, n, x, wr, gd⟩ z = 0 by simp [doE]]
    exact does_d9 _ a1 a2 b1 b2 n wr x gd w _ (.tuple #[]) (hL _) hD
  by_cases n10 : ask = 10
  · subst n10
    rw [show doF ⟨10, a1, a2, b1, b2, n, x, wr, gd⟩ z = drawF ⟨10, a1, a2, b1, b2, n, x, wr, gd⟩ z by simp [doF], show doX ⟨10, a1, a2, b1, b2, n, x, wr, gd⟩ z = zc by simp [doX], show doE ⟨10, a1, a2, b1, b2, n, x, wr, gd⟩ z = 0 by simp [doE]]
    exact does_d10 _ a1 a2 b1 b2 n wr x gd w _ (.tuple #[]) (hL _) hD
  by_cases n1 : ask = 1
  · subst n1
    rw [show doX ⟨1, a1, a2, b1, b2, n, x, wr, gd⟩ z = zc by simp [doX], show doE ⟨1, a1, a2, b1, b2, n, x, wr, gd⟩ z = 0 by simp [doE]]
    refine does_c1 _ a1 a2 b1 b2 n wr x gd w _ (.tuple #[]) (hL _) (fun w' k => (smove_any a1 a2 w' (hi.kept0 k)).mono ?_)
    rintro e w2 ⟨rfl, h2, k2⟩
    exact ⟨rfl, up k (by simpa [doF] using h2) (k2.mono (fun i _ e => by subst e; simp [Own]))⟩
  by_cases n2 : ask = 2
  · subst n2
    rw [show doX ⟨2, a1, a2, b1, b2, n, x, wr, gd⟩ z = zc by simp [doX], show doE ⟨2, a1, a2, b1, b2, n, x, wr, gd⟩ z = 0 by simp [doE]]
    refine does_c2 _ a1 a2 b1 b2 n wr x gd w _ (.tuple #[]) (hL _) (fun w' k => (sstep_any a1 a2 w' (hi.kept0 k)).mono ?_)
    rintro e w2 ⟨rfl, h2, k2⟩
    exact ⟨rfl, up k (by simpa [doF] using h2) (k2.mono (fun i _ e => by subst e; simp [Own]))⟩
  by_cases n3 : ask = 3
  · subst n3
    rw [show doX ⟨3, a1, a2, b1, b2, n, x, wr, gd⟩ z = zc by simp [doX], show doE ⟨3, a1, a2, b1, b2, n, x, wr, gd⟩ z = 0 by simp [doE]]
    refine does_c3 _ a1 a2 b1 b2 n wr x gd w _ (.tuple #[]) (hL _) (fun w' k => (sfeed_any n w' (hi.kept0 k) (hb.kept0 k) ht0 ho).mono ?_)
    rintro e w2 ⟨rfl, h2, k2⟩
    exact ⟨rfl, up k (by simpa [doF] using h2) (k2.mono (fun i _ e => by rcases e with rfl | rfl <;> simp [Own]))⟩
  by_cases n4 : ask = 4
  · subst n4
    rw [show doX ⟨4, a1, a2, b1, b2, n, x, wr, gd⟩ z = zc by simp [doX], show doE ⟨4, a1, a2, b1, b2, n, x, wr, gd⟩ z = 0 by simp [doE]]
    by_cases hn : n = 0
    · subst hn
      rw [show doF ⟨4, a1, a2, b1, b2, 0, x, wr, gd⟩ z = z by simp [doF]]
      refine does_c4 _ a1 a2 b1 b2 0 wr x gd w _ (.tuple #[]) (hL _) (fun w' k => (stab_zero s w').mono ?_)
      rintro e w2 ⟨rfl, k2⟩
      exact ⟨rfl, same k k2⟩
    · refine does_c4 _ a1 a2 b1 b2 n wr x gd w _ (.tuple #[]) (hL _) (fun w' k => (stab_any n w' (hi.kept0 k) ho hn).mono ?_)
      rintro e w2 ⟨rfl, h2, k2⟩
      exact ⟨rfl, up k (by simpa [doF, hn] using h2) (k2.mono (fun i _ e => by subst e; simp [Own]))⟩
  by_cases n5 : ask = 5
  · subst n5
    rw [show doX ⟨5, a1, a2, b1, b2, n, x, wr, gd⟩ z = zc by simp [doX], show doE ⟨5, a1, a2, b1, b2, n, x, wr, gd⟩ z = 0 by simp [doE]]
    refine does_c5 _ a1 a2 b1 b2 n wr x gd w _ (.tuple #[]) (hL _) (fun w' k => (sstop_any n (!gd) w' (hi.kept0 k)).mono ?_)
    rintro e w2 ⟨rfl, h2, k2⟩
    exact ⟨rfl, up k (by simpa [doF] using h2) (k2.mono (fun i _ e => by subst e; simp [Own]))⟩
  by_cases n6 : ask = 6
  · subst n6
    rw [show doX ⟨6, a1, a2, b1, b2, n, x, wr, gd⟩ z = zc by simp [doX], show doE ⟨6, a1, a2, b1, b2, n, x, wr, gd⟩ z = 0 by simp [doE]]
    refine does_c6 _ a1 a2 b1 b2 n wr x gd w _ (.tuple #[]) (hL _) (fun w' k => (sstops_any n w' (hi.kept0 k)).mono ?_)
    rintro e w2 ⟨rfl, h2, k2⟩
    exact ⟨rfl, up k (by simpa [doF] using h2) (k2.mono (fun i _ e => by subst e; simp [Own]))⟩
  by_cases n11 : ask = 11
  · subst n11
    rw [show doE ⟨11, a1, a2, b1, b2, n, x, wr, gd⟩ z = 0 by simp [doE]]
    cases hf : (freeO z.R z.C z.F z.r z.c gd).isSome
    · rw [show doX ⟨11, a1, a2, b1, b2, n, x, wr, gd⟩ z = zc by simp [doX, hf]]
      refine does_c11f _ a1 a2 b1 b2 n wr x gd w _ (hL _) (fun w' k => (sfree_any gd w' (hi.kept0 k)).mono ?_)
      rintro e w2 ⟨rfl, h2, k2⟩
      exact ⟨by rw [hf], up k (by simpa [doF] using h2) (k2.mono (fun i _ e => by subst e; simp [Own]))⟩
    · rw [show doX ⟨11, a1, a2, b1, b2, n, x, wr, gd⟩ z = ⟨0, 0, false, 1⟩ by simp [doX, hf]]
      refine does_c11t _ a1 a2 b1 b2 n wr x gd w _ (hL _) (fun w' k => (sfree_any gd w' (hi.kept0 k)).mono ?_)
      rintro e w2 ⟨rfl, h2, k2⟩
      exact ⟨by rw [hf], up k (by simpa [doF] using h2) (k2.mono (fun i _ e => by subst e; simp [Own]))⟩
  by_cases n12 : ask = 12
  · subst n12
    rw [show doX ⟨12, a1, a2, b1, b2, n, x, wr, gd⟩ z = zc by simp [doX]]
    by_cases hm : 1 ≤ a1 ∧ a1 ≤ 255 ∧ 1 ≤ a2 ∧ a2 ≤ 255
    · have hmB : mayB a1 a2 = true := decide_eq_true hm
      rw [show doE ⟨12, a1, a2, b1, b2, n, x, wr, gd⟩ z = 0 by simp [doE, hmB]]
      obtain ⟨R', hR⟩ : ∃ R' : Nat, a1 = (R' : Int) := ⟨a1.toNat, by omega⟩
      obtain ⟨C', hC⟩ : ∃ C' : Nat, a2 = (C' : Int) := ⟨a2.toNat, by omega⟩
      subst hR hC
      refine does_c12 _ _ _ b1 b2 n wr x gd w _ 0 (hL _) (fun w' k => (sresize_yes R' C' w' (hi.kept0 k) (hb.kept0 k) (by omega)).mono ?_)
      rintro e w2 ⟨rfl, t', ht', h2, k2⟩
      refine ⟨rfl, Own s g t' tb m, ⟨g, t', R' * C', tb, m, ?_, rfl⟩, ?_, k2.mono (fun i _ e => by rcases e with rfl | rfl | rfl | rfl <;> simp [Own])⟩
      · simpa [doF, hmB] using h2
      · rintro i (rfl | rfl | rfl | rfl | rfl)
        · exact Or.inl (by simp [Own])
        · exact Or.inl (by simp [Own])
        · exact Or.inr ht'
        · exact Or.inl (by simp [Own])
        · exact Or.inl (by simp [Own])
    · have hmB : mayB a1 a2 = false := decide_eq_false hm
      rw [show doE ⟨12, a1, a2, b1, b2, n, x, wr, gd⟩ z = 10 by simp [doE, hmB], show doF ⟨12, a1, a2, b1, b2, n, x, wr, gd⟩ z = z by simp [doF, hmB]]
      refine does_c12 _ a1 a2 b1 b2 n wr x gd w _ 10 (hL _) (fun w' k => (sresize_no s a1 a2 w' hm).mono ?_)
      rintro e w2 ⟨rfl, k2⟩
      exact ⟨rfl, same k k2⟩
  by_cases n13 : ask = 13
  · subst n13
    rw [show doX ⟨13, a1, a2, b1, b2, n, x, wr, gd⟩ z = zc by simp [doX], show doE ⟨13, a1, a2, b1, b2, n, x, wr, gd⟩ z = atE z.R z.C a1 a2 by simp [doE]]
    refine does_c13 _ a1 a2 b1 b2 n wr x gd w _ _ (hL _) (fun w' k => (sset_any a1 a2 x w' (hi.kept0 k)).mono ?_)
    rintro e w2 ⟨rfl, h2, k2⟩
    exact ⟨rfl, up k (by simpa [doF] using h2) (k2.mono (fun i _ e => by subst e; simp [Own]))⟩
  have hr : ¬ (0 ≤ ask ∧ ask ≤ 13) := by omega
  have hr2 : ¬ (0 ≤ ask ∧ ask ≤ 12) := by omega
  rw [show doF ⟨ask, a1, a2, b1, b2, n, x, wr, gd⟩ z = z by unfold doF drawF; simp only [if_neg n0, if_neg n1, if_neg n2, if_neg n3, if_neg n4, if_neg n5, if_neg n6, if_neg n7, if_neg n8, if_neg n9, if_neg n10, if_neg n11, if_neg n12, if_neg n13], show doX ⟨ask, a1, a2, b1, b2, n, x, wr, gd⟩ z = atX z.R z.C z.F a1 a2 by unfold doX; simp only [if_neg n11, if_neg hr], show doE ⟨ask, a1, a2, b1, b2, n, x, wr, gd⟩ z = atE z.R z.C a1 a2 by unfold doE; simp only [if_neg n12, if_neg hr2]]
  refine does_at _ ask a1 a2 b1 b2 n wr x gd w _ _ _ (hL _) n0 n7 n8 n9 n10 n1 n2 n3 n4 n5 n6 n11 n12 n13 (fun w' k => (sat_core (some ⟨g, 0, none⟩) s a1 a2 _ _ w' (hi.kept0 k).c3 (fun w2 k2 => at_any g t cap z.R z.C z.F a1 a2 w2 ((hi.kept0 k).kept0 k2).grid)).mono ?_)
  rintro e w2 ⟨rfl, k2⟩
  exact ⟨rfl, same k k2⟩

end Go.Proofs.YtkpfhgfdfndliaaGreatDoor
