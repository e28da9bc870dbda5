/-
  How many places there are of a kind; what Guard turns; a function's end behind ranges in a loop.
-/
import Derived.Test.YtkdnjkcebfckiaaGuard
import Derived.Test.YtkdnjkcebfckiaaAwake
namespace Go.Proofs.Ytkdnjkcebfckiaa
open Go.RowKit

def cntP (p : Nat → Bool) : Nat → Nat
  | 0 => 0
  | k + 1 => cntP p k + if p k = true then 1 else 0
theorem cntP_le (p : Nat → Bool) : ∀ k, cntP p k ≤ k
  | 0 => Nat.le_refl _
  | k + 1 => by
    have := cntP_le p k
    simp only [cntP]
    split <;> omega
theorem cntP_zero {p : Nat → Bool} : ∀ {k : Nat}, (∀ j, j < k → p j = false) → cntP p k = 0
  | 0, _ => rfl
  | k + 1, h => by
    simp only [cntP]
    rw [cntP_zero (fun j hj => h j (by omega)), h k (by omega)]
    simp
theorem cntP_one {p : Nat → Bool} {a : Nat} : ∀ {k : Nat}, (∀ j, j < k → p j = true → j = a) → cntP p k ≤ 1
  | 0, _ => by simp [cntP]
  | k + 1, h => by
    simp only [cntP]
    by_cases hp : p k = true
    · have hka := h k (by omega) hp
      rw [cntP_zero (fun j hj => by
        cases hj2 : p j
        · rfl
        · have := h j (by omega) hj2
          omega)]
      split <;> omega
    · rw [if_neg hp]
      have := cntP_one (p := p) (a := a) (k := k) (fun j hj => h j (by omega))
      omega
theorem cntP_pos {p : Nat → Bool} {k : Nat} (h : 0 < cntP p k) : ∃ j, j < k ∧ p j = true := by
  refine Classical.byContradiction fun hn => ?_
  have : cntP p k = 0 := cntP_zero (fun j hj => by
    cases hp : p j
    · rfl
    · exact absurd ⟨j, hj, hp⟩ hn)
  omega

/-- Cells that are not the same. -/
def neP (F G : Nat → Cel) (k : Nat) : Bool := !decide (F k = G k)
/-- Cells that are not guarded. -/
def opP (G : Nat → Cel) (k : Nat) : Bool := !(G k).b

theorem gd_keeps {N k0 : Nat} {F : Nat → Cel} {y : Cel} {o : Option Nat} (ho : o = freeK N false k0 F) (k : Nat) (h : ¬ F k = gdF F y o k) : (F k).b = false := by
  cases o with
  | none => exact absurd rfl h
  | some a =>
    have h1 := (freeK_some ho.symm).2
    by_cases e : k = a
    · rw [e]; exact h1
    · exact absurd (by simp [gdF, upd, e]) h
theorem gd_one {N k0 : Nat} {F : Nat → Cel} {y : Cel} {o : Option Nat} (ho : o = freeK N false k0 F) : cntP (neP F (gdF F y o)) N ≤ 1 := by
  cases o with
  | none => rw [cntP_zero (fun j _ => by simp [neP, gdF])]; omega
  | some a =>
    refine cntP_one (a := a) (fun j _ hj => ?_)
    by_cases e : j = a
    · exact e
    · simp [neP, gdF, upd, e] at hj
theorem gd_none {N k0 : Nat} {F : Nat → Cel} {y : Cel} (hk : k0 < N) (ho : freeK N false k0 F = none) : cntP (neP F (gdF F y none)) N = 0 ∧ cntP (opP (gdF F y none)) N = 0 :=
  ⟨cntP_zero (fun j _ => by simp [neP, gdF]), cntP_zero (fun j hj => by have := freeK_none hk ho j hj; simp [opP, gdF, this])⟩
theorem gd_rests {R C a k0 : Nat} {F : Nat → Cel} {y : Cel} {r c : Int} (hC : 1 ≤ C) (ho : freeK (R * C) false k0 F = some a) (h : 0 < cntP (opP (gdF F y (some a))) (R * C)) :
    There R C (gdR R C F y r (some a)) (gdC R C F y c (some a)) ∧ (gdF F y (some a) (idx C (gdR R C F y r (some a)) (gdC R C F y c (some a)))).b = false := by
  obtain ⟨j, hj, hp⟩ := cntP_pos h
  have ha := (freeK_some ho).1
  have hs : stp (R * C) false a 1 < R * C := stp_lt (by omega)
  cases hg : gdO (R * C) F y a with
  | none =>
    have := freeK_none hs hg j hj
    simp [opP, gdF, this] at hp
  | some b =>
    obtain ⟨hb, hb2⟩ := freeK_some (show freeK (R * C) false (stp (R * C) false a 1) (upd F a y) = some b from hg)
    have e1 : gdR R C F y r (some a) = (rowOf C b : Int) := by simp [gdR, hg, oR]
    have e2 : gdC R C F y c (some a) = (colOf C b : Int) := by simp [gdC, hg, oC]
    rw [e1, e2, idx_row_col]
    exact ⟨there_row_col hb hC, hb2⟩

/-- Blocks that hold what ranges left to be called: nothing. -/
structure Coll (B : Nat) (Ds : List Nat) (w : World) : Prop where
  all : ∀ D ∈ Ds, B ≤ D ∧ w.heap[D]? = some (.deferred (some []))
  nodup : Ds.Nodup
theorem Coll.kept {B : Nat} {Ds : List Nat} {w w' : World} {S : Nat → Prop} (h : Coll B Ds w) (k : Kept S w w') (hs : ∀ D, B ≤ D → D < w.heap.size → S D → False) : Coll B Ds w' :=
  ⟨fun D hD => by
    obtain ⟨h1, h2⟩ := h.all D hD
    have hl := (Array.getElem?_eq_some_iff.1 h2).1
    exact ⟨h1, (k.block D hl (fun e => hs D h1 hl e)).trans h2⟩, h.nodup⟩
theorem Coll.kept0 {B : Nat} {Ds : List Nat} {w w' : World} (h : Coll B Ds w) (k : Kept0 w w') : Coll B Ds w' := h.kept k (fun _ _ _ e => e)
theorem Coll.more {B D : Nat} {Ds : List Nat} {w w' : World} (h : Coll B Ds w) (hw' : Coll B Ds w') (hD : w.heap.size ≤ D) (hB : B ≤ D) (hd : w'.heap[D]? = some (.deferred (some []))) : Coll B (D :: Ds) w' := by
  refine ⟨fun E hE => ?_, List.nodup_cons.2 ⟨fun hm => ?_, h.nodup⟩⟩
  · rcases List.mem_cons.1 hE with rfl | hE
    · exact ⟨hB, hd⟩
    · exact hw'.all E hE
  · have := (Array.getElem?_eq_some_iff.1 (h.all D hm).2).1
    omega

/-- The mark that a range leaves. -/
abbrev mark (D : Nat) : Deferred := { target := .collected D, args := #[] }

theorem leaves_marks {fn : Func} {tmps : Array Value} {Q : Ending → World → Prop} {B : Nat} : ∀ (Ds : List Nat) (w : World), Coll B Ds w →
    (∀ w', Kept (B ≤ ·) w w' → LeavesInM Fence.wide 0 Try.prog fn tmps Q [] .returning w') → LeavesInM Fence.wide 0 Try.prog fn tmps Q (Ds.map mark) .returning w
  | [], w, _, h => h w (Kept.refl _ w)
  | D :: Ds, w, hc, h => by
    obtain ⟨hB, hD⟩ := hc.all D (List.mem_cons_self ..)
    have hk : Kept (B ≤ ·) w (w.putObj D (.deferred none)) := (kept_putObj D w _).mono (fun i _ e => by rw [e]; exact hB)
    refine ⟨by simp, .inl ⟨D, w.putObj D (.deferred none), rfl, run_takeDeferred hD, ?_⟩⟩
    refine leaves_marks Ds _ ⟨fun E hE => ?_, (List.nodup_cons.1 hc.nodup).2⟩ (fun w' k' => h w' (hk.trans k'))
    obtain ⟨h1, h2⟩ := hc.all E (List.mem_cons_of_mem _ hE)
    have hne : E ≠ D := fun e => (List.nodup_cons.1 hc.nodup).1 (e ▸ hE)
    exact ⟨h1, (World.putObj_heap_other hne).trans h2⟩

end Go.Proofs.Ytkdnjkcebfckiaa
