/-
  What a call of the statements' does to the document's screen: the same as to the program's.
-/
import Derived.Test.YtkpfhgfdfndliaaGreatDoorRDoB
namespace Go.Proofs.YtkpfhgfdfndliaaGreatDoor
open Go.RowKit

theorem drawn_any {B : Nat → Prop} {s : Nat} {z : St} (o : Op) (w : World) (h : RScr w B s z) (ho : OpOk o) :
    Calls Tryz.prog 43 #[ptr s, o.v] w fun e w' => e = .returned (.tuple #[]) ∧ RPost B s (drawF o z) w w' := by
  have hL := fun z' => rpost_later (s := s) (z := z') h.lt
  obtain ⟨g, t, cap, tb, m, hi, rfl⟩ := h
  have up : ∀ {w1 w2 : World} {z' : St}, RIn w2 s g t cap tb m z'.R z'.C z'.F z'.S z'.r z'.c z'.b → Kept (Own s g t tb m) w1 w2 → RPost (Own s g t tb m) s z' w1 w2 := fun h2 k2 => ⟨_, ⟨g, t, cap, tb, m, h2, rfl⟩, fun i hi => Or.inl hi, k2⟩
  obtain ⟨ask, a1, a2, b1, b2, n, x, wr, gd⟩ := o
  unfold drawF
  simp only [Op.v]
  by_cases n0 : ask = 0
  · subst n0
    rw [if_pos rfl]
    refine rdrawn_c0 _ a1 a2 b1 b2 n wr x gd w _ (.tuple #[]) (hL _) (fun w' k => (rput_any x wr gd w' (hi.kept0 k)).mono ?_)
    rintro e w2 ⟨rfl, h2, k2⟩
    exact ⟨rfl, up h2 (k2.mono (fun i _ e => by rcases e with rfl | rfl <;> simp [Own]))⟩
  rw [if_neg n0]
  by_cases n7 : ask = 7
  · subst n7
    rw [if_pos rfl]
    refine rdrawn_c7 _ a1 a2 b1 b2 n wr x gd w _ (.tuple #[]) (hL _) (fun w' k => (rwipe_any a1 a2 b1 b2 x gd w' (hi.kept0 k)).mono ?_)
    rintro e w2 ⟨rfl, h2, k2⟩
    exact ⟨rfl, up h2 (k2.mono (fun i _ e => by subst e; simp [Own]))⟩
  rw [if_neg n7]
  by_cases n8 : ask = 8
  · subst n8
    rw [if_pos rfl]
    refine rdrawn_c8 _ a1 a2 b1 b2 n wr x gd w _ (.tuple #[]) (hL _) (fun w' k => (rpart_any n x gd w' (hi.kept0 k)).mono ?_)
    rintro e w2 ⟨rfl, h2, k2⟩
    exact ⟨rfl, up h2 (k2.mono (fun i _ e => by subst e; simp [Own]))⟩
  rw [if_neg n8]
  by_cases n9 : ask = 9
  · subst n9
    rw [if_pos rfl]
    refine (rdrawn_c9 a1 a2 b1 b2 n wr x gd w hi ho).mono ?_
    rintro e w2 ⟨rfl, h2, k2⟩
    exact ⟨rfl, up h2 (k2.mono (fun i _ e => by subst e; simp [Own]))⟩
  rw [if_neg n9]
  by_cases n10 : ask = 10
  · subst n10
    rw [if_pos rfl]
    refine (rdrawn_c10 a1 a2 b1 b2 n wr x gd w hi ho).mono ?_
    rintro e w2 ⟨rfl, h2, k2⟩
    exact ⟨rfl, up h2 (k2.mono (fun i _ e => by subst e; simp [Own]))⟩
  rw [if_neg n10]
  refine (rdrawn_none _ ask a1 a2 b1 b2 n wr x gd w n0 n7 n8 n9 n10).mono ?_
  rintro e w' ⟨rfl, k⟩
  exact ⟨rfl, _, ⟨g, t, cap, tb, m, hi.kept0 k, rfl⟩, fun i hi => Or.inl hi, Kept0.to k⟩

/-- The document's screen behind a call: at which block. -/
def APost (B : Nat → Prop) (z : St) (X : Cel) (E : Int) (w : World) (e : Ending) (w' : World) : Prop :=
  ∃ s', e = .returned (.tuple #[ptr s', X.v, .int .i64 E]) ∧ RPost B s' z w w'
theorem asked_any {B : Nat → Prop} {s : Nat} {z : St} (o : Op) (w : World) (h : RScr w B s z) (ho : OpOk o) :
    Calls Tryz.prog 15 #[ptr s, o.v] w fun e w' => APost B (doF o z) (doX o z) (doE o z) w e w' := by
  have hD := fun w' (k : Kept0 w w') => drawn_any o w' (h.kept0 k) ho
  have hL := fun z' => rpost_later (s := s) (z := z') h.lt
  obtain ⟨g, t, cap, tb, m, hi, rfl⟩ := h
  have up : ∀ {w1 w2 : World} {z' : St}, RIn w2 s g t cap tb m z'.R z'.C z'.F z'.S z'.r z'.c z'.b → Kept (Own s g t tb m) w1 w2 → RPost (Own s g t tb m) s z' w1 w2 := fun h2 k2 => ⟨_, ⟨g, t, cap, tb, m, h2, rfl⟩, fun i hi => Or.inl hi, k2⟩
  have same : ∀ {w1 w2 : World}, Kept0 w w1 → Kept0 w1 w2 → RPost (Own s g t tb m) s z w1 w2 := fun k1 k2 => ⟨_, ⟨g, t, cap, tb, m, (hi.kept0 k1).kept0 k2, rfl⟩, fun i hi => Or.inl hi, Kept0.to k2⟩
  have at_ : ∀ {X : Cel} {E : Int} {z' : St} {e : Ending} {w' : World}, e = .returned (.tuple #[ptr s, X.v, .int .i64 E]) ∧ RPost (Own s g t tb m) s z' w w' → APost (Own s g t tb m) z' X E w e w' := fun ⟨h1, h2⟩ => ⟨s, h1, h2⟩
  obtain ⟨ask, a1, a2, b1, b2, n, x, wr, gd⟩ := o
  simp only [Op.v]

  by_cases n0 : ask = 0
  · subst n0
    rw [show doF ⟨0, a1, a2, b1, b2, n, x, wr, gd⟩ z = drawF ⟨0, a1, a2, b1, b2, n, x, wr, gd⟩ z by simp [doF], show doX ⟨0, a1, a2, b1, b2, n, x, wr, gd⟩ z = zc by simp [doX], show doE ⟨0, a1, a2, b1, b2, n, x, wr, gd⟩ z = 0 by simp [doE]]
    exact (rasked_d0 _ a1 a2 b1 b2 n wr x gd w _ (.tuple #[]) (hL _) hD).mono (fun e w' h => at_ h)

  by_cases n7 : ask = 7
  · subst n7
    rw [show doF ⟨7, a1, a2, b1, b2, n, x, wr, gd⟩ z = drawF ⟨7, a1, a2, b1, b2, n, x, wr, gd⟩ z by simp [doF], show doX ⟨7, a1, a2, b1, b2, n, x, wr, gd⟩ z = zc by simp [doX], show doE ⟨7, a1, a2, b1, b2, n, x, wr, gd⟩ z = 0 by simp [doE]]
    exact (rasked_d7 _ a1 a2 b1 b2 n wr x gd w _ (.tuple #[]) (hL _) hD).mono (fun e w' h => at_ h)

  by_cases n8 : ask = 8
  · subst n8
    rw [show doF ⟨8, a1, a2, b1, b2, n, x, wr, gd⟩ z = drawF ⟨8, a1, a2, b1, b2, n, x, wr, gd⟩ z by simp [doF], show doX ⟨8, a1, a2, b1, b2, n, x, wr, gd⟩ z = zc by simp [doX], show doE ⟨8, a1, a2, b1, b2, n, x, wr, gd⟩ z = 0 by simp [doE]]
    exact (rasked_d8 _ a1 a2 b1 b2 n wr x gd w _ (.tuple #[]) (hL _) hD).mono (fun e w' h => at_ h)

  by_cases n9 : ask = 9
  · subst n9
    rw [show doF ⟨9, a1, a2, b1, b2, n, x, wr, gd⟩ z = drawF ⟨9, a1, a2, b1, b2, n, x, wr, gd⟩ z by simp [doF], show doX ⟨9, a1, a2, b1, b2, n, x, wr, gd⟩ z = zc by simp [doX], show doE ⟨9, a1, a2, b1, b2, n, x, wr, gd⟩ z = 0 by simp [doE]]
    exact (rasked_d9 _ a1 a2 b1 b2 n wr x gd w _ (.tuple #[]) (hL _) hD).mono (fun e w' h => at_ h)

  by_cases n10 : ask = 10
  · subst n10
    rw [show doF ⟨10, a1, a2, b1, b2, n, x, wr, gd⟩ z = drawF ⟨10, a1, a2, b1, b2, n, x, wr, gd⟩ z by simp [doF], show doX ⟨10, a1, a2, b1, b2, n, x, wr, gd⟩ z = zc by simp [doX], show doE ⟨10, a1, a2, b1, b2, n, x, wr, gd⟩ z = 0 by simp [doE]]
    exact (rasked_d10 _ a1 a2 b1 b2 n wr x gd w _ (.tuple #[]) (hL _) hD).mono (fun e w' h => at_ h)

  by_cases n1 : ask = 1
  · subst n1
    rw [show doX ⟨1, a1, a2, b1, b2, n, x, wr, gd⟩ z = zc by simp [doX], show doE ⟨1, a1, a2, b1, b2, n, x, wr, gd⟩ z = 0 by simp [doE]]
    refine (rasked_c1 _ a1 a2 b1 b2 n wr x gd w _ (.tuple #[]) (hL _) (fun w' k => (rmove_any a1 a2 w' (hi.kept0 k)).mono ?_)).mono (fun e w' h => at_ h)
    rintro e w2 ⟨rfl, h2, k2⟩
    exact ⟨rfl, up (by simpa [doF] using h2) (k2.mono (fun i _ e => by subst e; simp [Own]))⟩

  by_cases n2 : ask = 2
  · subst n2
    rw [show doX ⟨2, a1, a2, b1, b2, n, x, wr, gd⟩ z = zc by simp [doX], show doE ⟨2, a1, a2, b1, b2, n, x, wr, gd⟩ z = 0 by simp [doE]]
    refine (rasked_c2 _ a1 a2 b1 b2 n wr x gd w _ (.tuple #[]) (hL _) (fun w' k => (rstep_any a1 a2 w' (hi.kept0 k)).mono ?_)).mono (fun e w' h => at_ h)
    rintro e w2 ⟨rfl, h2, k2⟩
    exact ⟨rfl, up (by simpa [doF] using h2) (k2.mono (fun i _ e => by subst e; simp [Own]))⟩

  by_cases n3 : ask = 3
  · subst n3
    rw [show doX ⟨3, a1, a2, b1, b2, n, x, wr, gd⟩ z = zc by simp [doX], show doE ⟨3, a1, a2, b1, b2, n, x, wr, gd⟩ z = 0 by simp [doE]]
    refine (rasked_c3 _ a1 a2 b1 b2 n wr x gd w _ (.tuple #[]) (hL _) (fun w' k => (rfeed_any n w' (hi.kept0 k)).mono ?_)).mono (fun e w' h => at_ h)
    rintro e w2 ⟨rfl, h2, k2⟩
    exact ⟨rfl, up (by simpa [doF] using h2) (k2.mono (fun i _ e => by rcases e with rfl | rfl <;> simp [Own]))⟩

  by_cases n4 : ask = 4
  · subst n4
    rw [show doX ⟨4, a1, a2, b1, b2, n, x, wr, gd⟩ z = zc by simp [doX], show doE ⟨4, a1, a2, b1, b2, n, x, wr, gd⟩ z = 0 by simp [doE]]
    by_cases hn : n = 0
    · subst hn
      rw [show doF ⟨4, a1, a2, b1, b2, 0, x, wr, gd⟩ z = z by simp [doF]]
      refine (rasked_c4 _ a1 a2 b1 b2 0 wr x gd w _ (.tuple #[]) (hL _) (fun w' k => (rtab_zero s w').mono ?_)).mono (fun e w' h => at_ h)
      rintro e w2 ⟨rfl, k2⟩
      exact ⟨rfl, same k k2⟩
    · refine (rasked_c4 _ a1 a2 b1 b2 n wr x gd w _ (.tuple #[]) (hL _) (fun w' k => (rtab_any n w' (hi.kept0 k) hn).mono ?_)).mono (fun e w' h => at_ h)
      rintro e w2 ⟨rfl, h2, k2⟩
      exact ⟨rfl, up (by simpa [doF, hn] using h2) (k2.mono (fun i _ e => by subst e; simp [Own]))⟩
  by_cases n5 : ask = 5
  · subst n5
    rw [show doX ⟨5, a1, a2, b1, b2, n, x, wr, gd⟩ z = zc by simp [doX], show doE ⟨5, a1, a2, b1, b2, n, x, wr, gd⟩ z = 0 by simp [doE]]
    refine (rasked_c5 a1 a2 b1 b2 n wr x gd w hi).mono ?_
    rintro e w2 ⟨rfl, h2, k2⟩
    exact ⟨s, rfl, up (by simpa [doF] using h2) (k2.mono (fun i _ e => by subst e; simp [Own]))⟩
  by_cases n6 : ask = 6
  · subst n6
    rw [show doX ⟨6, a1, a2, b1, b2, n, x, wr, gd⟩ z = zc by simp [doX], show doE ⟨6, a1, a2, b1, b2, n, x, wr, gd⟩ z = 0 by simp [doE]]
    refine (rasked_c6 a1 a2 b1 b2 n wr x gd w hi).mono ?_
    rintro e w2 ⟨rfl, h2, k2⟩
    exact ⟨s, rfl, up (by simpa [doF] using h2) (k2.mono (fun i _ e => by subst e; simp [Own]))⟩
  by_cases n11 : ask = 11
  · subst n11
    rw [show doE ⟨11, a1, a2, b1, b2, n, x, wr, gd⟩ z = 0 by simp [doE]]
    cases hf : (freeO z.R z.C z.F z.r z.c gd).isSome
    · rw [show doX ⟨11, a1, a2, b1, b2, n, x, wr, gd⟩ z = zc by simp [doX, hf]]
      refine (rasked_c11f _ a1 a2 b1 b2 n wr x gd w _ (hL _) (fun w' k => (rfree_any gd w' (hi.kept0 k)).mono ?_)).mono (fun e w' h => at_ h)
      rintro e w2 ⟨rfl, h2, k2⟩
      exact ⟨by rw [hf], up (by simpa [doF] using h2) (k2.mono (fun i _ e => by subst e; simp [Own]))⟩
    · rw [show doX ⟨11, a1, a2, b1, b2, n, x, wr, gd⟩ z = ⟨0, 0, false, 1⟩ by simp [doX, hf]]
      refine (rasked_c11t _ a1 a2 b1 b2 n wr x gd w _ (hL _) (fun w' k => (rfree_any gd w' (hi.kept0 k)).mono ?_)).mono (fun e w' h => at_ h)
      rintro e w2 ⟨rfl, h2, k2⟩
      exact ⟨by rw [hf], up (by simpa [doF] using h2) (k2.mono (fun i _ e => by subst e; simp [Own]))⟩
  by_cases n12 : ask = 12
  · subst n12
    rw [show doX ⟨12, a1, a2, b1, b2, n, x, wr, gd⟩ z = zc by simp [doX]]
    by_cases hm : 1 ≤ a1 ∧ a1 ≤ 255 ∧ 1 ≤ a2 ∧ a2 ≤ 255
    · have hmB : mayB a1 a2 = true := decide_eq_true hm
      rw [show doE ⟨12, a1, a2, b1, b2, n, x, wr, gd⟩ z = 0 by simp [doE, hmB]]
      obtain ⟨R', hR⟩ : ∃ R' : Nat, a1 = (R' : Int) := ⟨a1.toNat, by omega⟩
      obtain ⟨C', hC⟩ : ∃ C' : Nat, a2 = (C' : Int) := ⟨a2.toNat, by omega⟩
      subst hR hC
      refine (rasked_c12y R' C' b1 b2 n wr x gd w hi (by omega)).mono ?_
      rintro e w2 ⟨s', g', t', cap', tb', m', rfl, hnew, h2, k2⟩
      refine ⟨s', rfl, Own s' g' t' tb' m', ⟨g', t', cap', tb', m', ?_, rfl⟩, fun i hi => Or.inr (hnew i hi), Kept0.to k2⟩
      simpa [doF, hmB] using h2
    · have hmB : mayB a1 a2 = false := decide_eq_false hm
      rw [show doE ⟨12, a1, a2, b1, b2, n, x, wr, gd⟩ z = 10 by simp [doE, hmB], show doF ⟨12, a1, a2, b1, b2, n, x, wr, gd⟩ z = z by simp [doF, hmB]]
      refine (rasked_c12n a1 a2 b1 b2 n wr x gd w hi hmB).mono ?_
      rintro e w2 ⟨rfl, k2⟩
      exact ⟨s, rfl, same (Kept.refl _ _) k2⟩
  by_cases hth : There z.R z.C a1 a2
  · have hE : atE z.R z.C a1 a2 = 0 := if_pos hth
    by_cases n13 : ask = 13
    · subst n13
      rw [show doX ⟨13, a1, a2, b1, b2, n, x, wr, gd⟩ z = zc by simp [doX], show doE ⟨13, a1, a2, b1, b2, n, x, wr, gd⟩ z = 0 by simp [doE, hE]]
      refine (rasked_c13y a1 a2 b1 b2 n wr x gd w hi hth).mono ?_
      rintro e w2 ⟨rfl, h2, k2⟩
      refine ⟨s, rfl, up ?_ (k2.mono (fun i _ e => by subst e; simp [Own]))⟩
      have hs : setF z.R z.C z.F a1 a2 x = upd z.F (idx z.C a1 a2) x := if_pos hth
      simpa [doF, hs] using h2
    · have hr : ¬ (0 ≤ ask ∧ ask ≤ 13) := by omega
      have hr2 : ¬ (0 ≤ ask ∧ ask ≤ 12) := by omega
      rw [show doF ⟨ask, a1, a2, b1, b2, n, x, wr, gd⟩ z = z by unfold doF drawF; simp only [if_neg n0, if_neg n1, if_neg n2, if_neg n3, if_neg n4, if_neg n5, if_neg n6, if_neg n7, if_neg n8, if_neg n9, if_neg n10, if_neg n11, if_neg n12, if_neg n13], show doX ⟨ask, a1, a2, b1, b2, n, x, wr, gd⟩ z = z.F (idx z.C a1 a2) by unfold doX; simp only [if_neg n11, if_neg hr]; exact if_pos hth, show doE ⟨ask, a1, a2, b1, b2, n, x, wr, gd⟩ z = 0 by unfold doE; simp only [if_neg n12, if_neg hr2]; exact hE]
      refine (rasked_aty ask a1 a2 b1 b2 n wr x gd w hi n0 n7 n8 n9 n10 n1 n2 n3 n4 n5 n6 n11 n12 n13 hth).mono ?_
      rintro e w2 ⟨rfl, k2⟩
      exact ⟨s, rfl, same (Kept.refl _ _) k2⟩
  · have hE : atE z.R z.C a1 a2 = 11 := if_neg hth
    by_cases n13 : ask = 13
    · subst n13
      rw [show doX ⟨13, a1, a2, b1, b2, n, x, wr, gd⟩ z = zc by simp [doX], show doE ⟨13, a1, a2, b1, b2, n, x, wr, gd⟩ z = 11 by simp [doE, hE]]
      refine (rasked_c13n a1 a2 b1 b2 n wr x gd w hi hth).mono ?_
      rintro e w2 ⟨rfl, k2⟩
      refine ⟨s, rfl, ?_⟩
      have hs : setF z.R z.C z.F a1 a2 x = z.F := if_neg hth
      rw [show doF ⟨13, a1, a2, b1, b2, n, x, wr, gd⟩ z = z by simp [doF, hs]]
      exact same (Kept.refl _ _) k2
    · have hr : ¬ (0 ≤ ask ∧ ask ≤ 13) := by omega
      have hr2 : ¬ (0 ≤ ask ∧ ask ≤ 12) := by omega
      rw [show doF ⟨ask, a1, a2, b1, b2, n, x, wr, gd⟩ z = z by unfold doF drawF; simp only [if_neg n0, if_neg n1, if_neg n2, if_neg n3, if_neg n4, if_neg n5, if_neg n6, if_neg n7, if_neg n8, if_neg n9, if_neg n10, if_neg n11, if_neg n12, if_neg n13], show doX ⟨ask, a1, a2, b1, b2, n, x, wr, gd⟩ z = zc by unfold doX; simp only [if_neg n11, if_neg hr]; exact if_neg hth, show doE ⟨ask, a1, a2, b1, b2, n, x, wr, gd⟩ z = 11 by unfold doE; simp only [if_neg n12, if_neg hr2]; exact hE]
      refine (rasked_atn ask a1 a2 b1 b2 n wr x gd w hi n0 n7 n8 n9 n10 n1 n2 n3 n4 n5 n6 n11 n12 hth).mono ?_
      rintro e w2 ⟨rfl, k2⟩
      exact ⟨s, rfl, same (Kept.refl _ _) k2⟩
end Go.Proofs.YtkpfhgfdfndliaaGreatDoor
