/-
  A range over a function whose rounds and whose iterator write the same cells: one law for the caller, over what the iterator comes to if each round does what it should. No program.
-/
import Derived.Test.YtlhajbcabpfbkaaGreatDoorMIt
namespace Go.Proofs.YtlhajbcabpfbkaaGreatDoor
open Go.RowKit

/-- How a round's body may be left. -/
def roundEndX {ι : Type} (B : Nat) (I : ι → World → Prop) (i : ι) (W : World) : Exit → Act → World → Prop
  | .normal, _, W' => Kept (· < B) W W' ∧ I i W'
  | .ret, _, _ => False
  | .exit _, _, _ => False
  | .goto _, _, _ => False
  | .panic _, _, _ => False
  | .outgrown, _, _ => False

theorem wp_rangeX {P : Program} {n : Nat} {g : Operand} {ps : Array Tmp} {assign body : Code} {Q : Exit → Act → World → Prop} {a : Act} {w : World}
    {gf : Nat} {lb : Array Value} (hg : a.eval g = .func (.func gf) #[] lb) (eg : ∀ args w, (callFunc gf args).run P w = .ok (.enter gf args) w)
    {ι : Type} (Y : ι → Array Value → World → Prop) (I : ι → World → Prop) (F : World → Prop)
    (hI : ∀ i W W', I i W → Below w.heap.size W W' → I i W') (hF : ∀ W W', F W → Below w.heap.size W W' → F W') (hps : ∀ i args W, Y i args W → args.size = ps.size)
    (hit : ∀ (n l : Nat) (X : World → Prop) (W : World), Below w.heap.size w W → W.heap.size = w.heap.size + 2 →
      (∀ W1 W2, X W1 → Kept (fun i => i < w.heap.size ∨ w.heap.size + 2 ≤ i) W1 W2 → X W2) → X W →
      (∀ i args W1, Y i args W1 → X W1 → YieldAt Fence.wide n P l args W1 fun e W' => e = .returned (.bool true) ∧ I i W' ∧ X W' ∧ Kept (· < w.heap.size + 2) W1 W') →
      CallsIn Fence.wide n P gf (#[.func (.yield l) #[] #[]] ++ lb) W fun e W' => (∃ v, e = .returned v) ∧ F W' ∧ X W')
    (hround : ∀ (i : ι) (args : Array Value) (W : World) (lo : Loop), Y i args W → W.heap[w.heap.size]? = some (.deferred (some [])) → W.heap[w.heap.size + 1]? = some (.loop lo) →
      assign.wpIn (Fence.wide.inRound (w.heap.size + 1)) n P (Exit.then (fun a₁ W₁ => Kept (· < w.heap.size) W W₁ ∧
          ∀ W₂, Kept (· = w.heap.size + 1) W₁ W₂ → body.wpIn (Fence.wide.inRound (w.heap.size + 1)) n P (roundEndX w.heap.size I i W₂) a₁ W₂) (fun _ _ _ => False))
        { tmps := (ps.zip args).foldl (fun t (p, v) => t.setIfInBounds p v) a.tmps, defers := [] } W)
    (hdone : ∀ (W : World), F W → W.heap[w.heap.size]? = some (.deferred (some [])) → Q .normal { a with defers := { target := .collected w.heap.size, args := #[] } :: a.defers } W) :
    (Code.rangeFunc g ps assign body).wpIn Fence.wide n P Q a w := by
  refine wpIn_rangeFunc ?_
  intro fn hfn
  obtain ⟨rec, hrec⟩ : ∃ rec : LoopState → Option Code → Loop, rec = fun st pe => { state := st, pending := pe, fn, tmps := a.tmps, params := ps, assign, body, defers := w.heap.size } := ⟨_, rfl⟩
  obtain ⟨W1, hW1⟩ : ∃ W1, (w.alloc (.deferred (some []))).alloc (.loop (rec .ready none)) = W1 := ⟨_, rfl⟩
  have hsz : W1.heap.size = w.heap.size + 2 := by rw [← hW1]; simp
  have hL1 : W1.heap[w.heap.size + 1]? = some (.loop (rec .ready none)) := by rw [← hW1]; exact heap_new2 w _ _
  have hK1 : W1.heap[w.heap.size]? = some (.deferred (some [])) := by
    rw [← hW1]; exact (Below.heap_alloc _ _ _ (by simp)).trans (heap_new w _)
  have hb1 : Below w.heap.size w W1 := by
    rw [← hW1]; exact ((Below.refl _ w).alloc (Nat.le_refl _) _).alloc (by simp) _
  refine ⟨w.heap.size + 1, [{ target := .collected w.heap.size, args := #[] }], W1, { target := .fn (.func gf) lb, args := #[.func (.yield (w.heap.size + 1)) #[] #[]] }, W1, gf,
    #[.func (.yield (w.heap.size + 1)) #[] #[]] ++ lb, W1, ?_, ?_, ?_, ?_, ?_, ?_⟩
  · rw [← hW1, hrec]; exact run_enterLoop_outer _ _ _ _ _
  · simp only [resolve, hg]
    simp [go_sem]
  · intro f' _; trivial
  · simp [invoke, go_sem, eg]
  · intro h; simp [Fence.wide] at h
  · refine (hit (n - 1) (w.heap.size + 1)
      (fun W => W.heap[w.heap.size + 1]? = some (.loop (rec .ready none)) ∧ W.heap[w.heap.size]? = some (.deferred (some [])))
      W1 hb1 hsz ?_ ⟨hL1, hK1⟩ ?_).mono ?_
    · rintro W W' ⟨h2, h3⟩ hb
      exact ⟨(hb.block _ (Array.getElem?_eq_some_iff.1 h2).1 (by omega)).trans h2, (hb.block _ (Array.getElem?_eq_some_iff.1 h3).1 (by omega)).trans h3⟩
    · rintro i args W hY ⟨hl, hd⟩
      have hlt : w.heap.size + 1 < W.heap.size := (Array.getElem?_eq_some_iff.1 hl).1
      have hy := run_yield (P := P) (args := args) hl (by rw [hrec]; exact hps i args W hY)
      rw [hrec] at hy
      refine ⟨fn, _, assign, body, hy, roundIn_any (m := n) (roundIn_of_wpIn hfn (wpIn_mono (hround i args W _ hY hd hl) ?_))⟩
      rintro e a1 Wa hp
      cases e with
      | normal =>
        obtain ⟨hka, hbody⟩ := hp
        have hla : Wa.heap[w.heap.size + 1]? = some (.loop (rec .ready none)) := (hka.block _ (by omega) (by simp)).trans hl
        have hda : Wa.heap[w.heap.size]? = some (.deferred (some [])) := (hka.block _ (by omega) (by simp)).trans hd
        have hlta : w.heap.size + 1 < Wa.heap.size := (Array.getElem?_eq_some_iff.1 hla).1
        refine ⟨_, run_beginRound hla (by rw [hrec]), ?_⟩
        obtain ⟨Wb, hWb⟩ : ∃ Wb, Wa.putObj (w.heap.size + 1) (.loop { rec .ready none with state := .busy }) = Wb := ⟨_, rfl⟩
        rw [hWb]
        have hlb : Wb.heap[w.heap.size + 1]? = some (.loop { rec .ready none with state := .busy }) := by rw [← hWb]; exact World.putObj_heap_same hlta
        have hkb : Kept (· = w.heap.size + 1) Wa Wb := by rw [← hWb]; exact kept_putObj _ _ _
        have hdb : Wb.heap[w.heap.size]? = some (.deferred (some [])) := (hkb.block _ (by omega) (by omega)).trans hda
        refine wpIn_mono (hbody Wb hkb) ?_
        have fin : ∀ (jump : Option Code) (W3 : World), Kept (· < w.heap.size) Wb W3 →
            (Instr.endRound (w.heap.size + 1) jump).run P W3 = .ok (.bool jump.isNone) (W3.putObj (w.heap.size + 1) (.loop (rec (if jump.isNone then .ready else .done) jump))) ∧
            (W3.putObj (w.heap.size + 1) (.loop (rec (if jump.isNone then .ready else .done) jump))).heap[w.heap.size + 1]? = some (.loop (rec (if jump.isNone then .ready else .done) jump)) ∧
            (W3.putObj (w.heap.size + 1) (.loop (rec (if jump.isNone then .ready else .done) jump))).heap[w.heap.size]? = some (.deferred (some [])) := fun jump W3 hk3 => by
          have hl3 := (hk3.block (w.heap.size + 1) (Array.getElem?_eq_some_iff.1 hlb).1 (by omega)).trans hlb
          have hd3 := (hk3.block w.heap.size (Array.getElem?_eq_some_iff.1 hdb).1 (by omega)).trans hdb
          have := run_endRound (P := P) jump hl3
          rw [hrec] at this ⊢
          exact ⟨this, World.putObj_heap_same (Array.getElem?_eq_some_iff.1 hl3).1, (World.putObj_heap_other (by omega)).trans hd3⟩
        rintro e3 a3 W3 hp3
        cases e3 with
        | normal =>
          obtain ⟨hk3, hi3⟩ := hp3
          obtain ⟨hr, hl4, hd4⟩ := fin none W3 hk3
          refine ⟨_, _, hr, rfl, hI _ _ _ hi3 (below_putObj _ (by omega)), ⟨hl4, hd4⟩, ?_⟩
          have q1 : Kept (· < w.heap.size + 2) W Wa := hka.mono (fun _ _ e => by omega)
          have q2 : Kept (· < w.heap.size + 2) Wa Wb := hkb.mono (fun _ _ e => by omega)
          have q3 : Kept (· < w.heap.size + 2) Wb W3 := hk3.mono (fun _ _ e => by omega)
          have q4 : Kept (· < w.heap.size + 2) W3 (W3.putObj (w.heap.size + 1) (.loop (rec (if (none : Option Code).isNone then .ready else .done) none))) := (kept_putObj (w.heap.size + 1) W3 (.loop (rec (if (none : Option Code).isNone then .ready else .done) none))).mono (fun _ _ e => by omega)
          exact ((q1.trans q2).trans q3).trans q4
        | ret => exact hp3.elim
        | exit id => exact hp3.elim
        | goto t => exact hp3.elim
        | panic ch => exact hp3.elim
        | outgrown => exact hp3.elim
      | ret => exact hp.elim
      | exit id => exact hp.elim
      | goto t => exact hp.elim
      | panic ch => exact hp.elim
      | outgrown => exact hp.elim
    · rintro e W2 ⟨⟨v, rfl⟩, hf, ⟨hl, hd⟩⟩
      exact ⟨none, _, by have := run_endLoop (P := P) hl (by rw [hrec]; simp); rw [hrec] at this; exact this, hdone _ (hF _ _ hf (below_putObj _ (by omega))) ((World.putObj_heap_other (by omega)).trans hd)⟩
end Go.Proofs.YtlhajbcabpfbkaaGreatDoor
