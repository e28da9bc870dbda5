/-
  A range over a function whose iterator writes blocks that were there before it was called, and of which it is told what they hold at its end: one law for the caller, whose rounds never leave the loop. No program.
-/
import Derived.Test.YtlhajbcabpfbkaaGreatDoorMIt
import Derived.RangeFuncNested
import Derived.RangeFuncBound
import Derived.RangeFuncCalls
import Derived.RangeFuncLeaves
import Derived.OwnWalkIn
import Derived.TacticsInMore
import Derived.LoopNIn
import Derived.LoopIn
namespace Go.Proofs.YtlhajbcabpfbkaaGreatDoor.Qu
open Go.RowKit

/-- What speaks of no block of S. -/
def DeepT (S : Nat → Prop) (I : Nat → World → Prop) : Prop := ∀ k W W', I k W → Kept S W W' → I k W'

/-- An iterator that comes to N rounds, at whose k-th it hands over 'encs k'; S: all that it writes, and reads; G: what it wants where it begins; F: what holds of S where it ends. -/
def IterU (P : Program) (gf : Nat) (lb : Array Value) (encs : Nat → Array Value) (N : Nat) (S : Nat → Prop) (G F : World → Prop) : Prop :=
  ∀ (n l : Nat) (J : Nat → World → Prop) (W : World), DeepT S J → G W →
    (∀ k W1, k < N → J k W1 → YieldAt Fence.wide n P l (encs k) W1 fun e W' => e = .returned (.bool true) ∧ J (k + 1) W' ∧ Kept (fun b => ¬ S b) W1 W') →
    J 0 W →
    CallsIn Fence.wide n P gf (#[.func (.yield l) #[] #[]] ++ lb) W fun e W' => (∃ v, e = .returned v) ∧ J N W' ∧ F W'

/-- What the loop itself writes. -/
abbrev badT (D : Nat) (S : Nat → Prop) : Nat → Prop := fun b => S b ∨ b = D ∨ b = D + 1

/-- A round's body is walked to its end. -/
def roundEndU (D : Nat) (S : Nat → Prop) (I : Nat → World → Prop) (k : Nat) (W : World) : Exit → Act → World → Prop
  | .normal, _, W' => Kept (fun b => ¬ badT D S b) W W' ∧ I (k + 1) W'
  | .ret, _, _ => False
  | .exit _, _, _ => False
  | .goto _, _, _ => False
  | .panic _, _, _ => False
  | .outgrown, _, _ => False

theorem wp_rangeU {P : Program} {n : Nat} {g : Operand} {ps : Array Tmp} {assign body : Code} {Q : Exit → Act → World → Prop} {a : Act} {w : World}
    {gf : Nat} {lb : Array Value} (hg : a.eval g = .func (.func gf) #[] lb) (eg : ∀ args w, (callFunc gf args).run P w = .ok (.enter gf args) w)
    {encs : Nat → Array Value} {N : Nat} {S : Nat → Prop} {G F : World → Prop} (hit : IterU P gf lb encs N S G F) (hF : ∀ W W', F W → Kept (fun b => ¬ S b) W W' → F W') (hS : ∀ b, S b → b < w.heap.size) (hps : ∀ k, (encs k).size = ps.size)
    (I : Nat → World → Prop) (hI : DeepT (badT w.heap.size S) I) (hG : ∀ W, Below w.heap.size w W → G W) (h0 : ∀ W, Below w.heap.size w W → I 0 W)
    (hround : ∀ (k : Nat) (W : World) (lo : Loop), k < N → I k W → W.heap[w.heap.size]? = some (.deferred (some [])) → W.heap[w.heap.size + 1]? = some (.loop lo) →
      assign.wpIn (Fence.wide.inRound (w.heap.size + 1)) n P (Exit.then (fun a₁ W₁ => Kept (fun b => ¬ badT w.heap.size S b) W W₁ ∧
          ∀ (W₂ : World) (lo : Loop), Kept (· = w.heap.size + 1) W₁ W₂ → W₂.heap[w.heap.size]? = some (.deferred (some [])) → W₂.heap[w.heap.size + 1]? = some (.loop lo) →
            body.wpIn (Fence.wide.inRound (w.heap.size + 1)) n P (roundEndU w.heap.size S I k W₂) a₁ W₂) (fun _ _ _ => False))
        { tmps := (ps.zip (encs k)).foldl (fun t (p, v) => t.setIfInBounds p v) a.tmps, defers := [] } W)
    (hdone : ∀ (W : World), I N W → F W → W.heap[w.heap.size]? = some (.deferred (some [])) → Q .normal { a with defers := { target := .collected w.heap.size, args := #[] } :: a.defers } W) :
    (Code.rangeFunc g ps assign body).wpIn Fence.wide n P Q a w := by
  refine wpIn_rangeFunc ?_
  intro fn hfn
  obtain ⟨rec, hrec⟩ : ∃ rec : LoopState → Option Code → Loop, rec = fun st pe => { state := st, pending := pe, fn, tmps := a.tmps, params := ps, assign, body, defers := w.heap.size } := ⟨_, rfl⟩
  obtain ⟨W1, hW1⟩ : ∃ W1, (w.alloc (.deferred (some []))).alloc (.loop (rec .ready none)) = W1 := ⟨_, rfl⟩
  have hsz : W1.heap.size = w.heap.size + 2 := by rw [← hW1]; simp
  have hL1 : W1.heap[w.heap.size + 1]? = some (.loop (rec .ready none)) := by rw [← hW1]; exact heap_new2 w _ _
  have hK1 : W1.heap[w.heap.size]? = some (.deferred (some [])) := by
    rw [← hW1]; exact (Below.heap_alloc _ _ _ (by simp)).trans (heap_new w _)
  have hb1 : Below w.heap.size w W1 := by
    rw [← hW1]; exact ((Below.refl _ w).alloc (Nat.le_refl _) _).alloc (by simp) _
  refine ⟨w.heap.size + 1, [{ target := .collected w.heap.size, args := #[] }], W1, { target := .fn (.func gf) lb, args := #[.func (.yield (w.heap.size + 1)) #[] #[]] }, W1, gf,
    #[.func (.yield (w.heap.size + 1)) #[] #[]] ++ lb, W1, ?_, ?_, ?_, ?_, ?_, ?_⟩
  · rw [← hW1, hrec]; exact run_enterLoop_outer _ _ _ _ _
  · simp only [resolve, hg]
    simp [go_sem]
  · intro f' _; trivial
  · simp [invoke, go_sem, eg]
  · intro h; simp [Fence.wide] at h
  · have toBad : ∀ {W W' : World}, Kept S W W' → Kept (badT w.heap.size S) W W' := fun k => k.mono (fun _ _ e => Or.inl e)
    have putBad : ∀ (W : World) (o : Obj), Kept (badT w.heap.size S) W (W.putObj (w.heap.size + 1) o) := fun W o => (kept_putObj _ _ _).mono (fun _ _ e => Or.inr (Or.inr e))
    refine (hit (n - 1) (w.heap.size + 1)
      (fun k W => I k W ∧ W.heap[w.heap.size + 1]? = some (.loop (rec .ready none)) ∧ W.heap[w.heap.size]? = some (.deferred (some [])))
      W1 ?_ (hG W1 hb1) ?_ ⟨h0 _ hb1, hL1, hK1⟩).mono ?_
    · rintro k W W' ⟨h1, h2, h3⟩ hb
      exact ⟨hI _ _ _ h1 (toBad hb), (hb.block _ (Array.getElem?_eq_some_iff.1 h2).1 (fun h => by have := hS _ h; omega)).trans h2, (hb.block _ (Array.getElem?_eq_some_iff.1 h3).1 (fun h => by have := hS _ h; omega)).trans h3⟩
    · rintro k W hk ⟨hi, hl, hd⟩
      have hlt : w.heap.size + 1 < W.heap.size := (Array.getElem?_eq_some_iff.1 hl).1
      have hy := run_yield (P := P) (args := encs k) hl (by rw [hrec]; exact hps k)
      rw [hrec] at hy
      refine ⟨fn, _, assign, body, hy, roundIn_any (m := n) (roundIn_of_wpIn hfn (wpIn_mono (hround k W _ hk hi hd hl) ?_))⟩
      rintro e a1 Wa hp
      cases e with
      | normal =>
        obtain ⟨hka, hbody⟩ := hp
        have hla : Wa.heap[w.heap.size + 1]? = some (.loop (rec .ready none)) := (hka.block _ (by omega) (fun e => e (Or.inr (Or.inr rfl)))).trans hl
        have hda : Wa.heap[w.heap.size]? = some (.deferred (some [])) := (hka.block _ (by omega) (fun e => e (Or.inr (Or.inl rfl)))).trans hd
        have hlta : w.heap.size + 1 < Wa.heap.size := (Array.getElem?_eq_some_iff.1 hla).1
        refine ⟨_, run_beginRound hla (by rw [hrec]), ?_⟩
        obtain ⟨Wb, hWb⟩ : ∃ Wb, Wa.putObj (w.heap.size + 1) (.loop { rec .ready none with state := .busy }) = Wb := ⟨_, rfl⟩
        rw [hWb]
        have hlb : Wb.heap[w.heap.size + 1]? = some (.loop { rec .ready none with state := .busy }) := by rw [← hWb]; exact World.putObj_heap_same hlta
        have hkb : Kept (· = w.heap.size + 1) Wa Wb := by rw [← hWb]; exact kept_putObj _ _ _
        have hdb : Wb.heap[w.heap.size]? = some (.deferred (some [])) := (hkb.block _ (by omega) (by omega)).trans hda
        refine wpIn_mono (hbody Wb _ hkb hdb hlb) ?_
        have fin : ∀ (jump : Option Code) (W3 : World), Kept (fun b => ¬ badT w.heap.size S b) Wb W3 →
            (Instr.endRound (w.heap.size + 1) jump).run P W3 = .ok (.bool jump.isNone) (W3.putObj (w.heap.size + 1) (.loop (rec (if jump.isNone then .ready else .done) jump))) ∧
            (W3.putObj (w.heap.size + 1) (.loop (rec (if jump.isNone then .ready else .done) jump))).heap[w.heap.size + 1]? = some (.loop (rec (if jump.isNone then .ready else .done) jump)) ∧
            (W3.putObj (w.heap.size + 1) (.loop (rec (if jump.isNone then .ready else .done) jump))).heap[w.heap.size]? = some (.deferred (some [])) := fun jump W3 hk3 => by
          have hl3 := (hk3.block (w.heap.size + 1) (Array.getElem?_eq_some_iff.1 hlb).1 (fun e => e (Or.inr (Or.inr rfl)))).trans hlb
          have hd3 := (hk3.block w.heap.size (Array.getElem?_eq_some_iff.1 hdb).1 (fun e => e (Or.inr (Or.inl rfl)))).trans hdb
          have := run_endRound (P := P) jump hl3
          rw [hrec] at this ⊢
          exact ⟨this, World.putObj_heap_same (Array.getElem?_eq_some_iff.1 hl3).1, (World.putObj_heap_other (by omega)).trans hd3⟩
        rintro e3 a3 W3 hp3
        cases e3 with
        | normal =>
          obtain ⟨hk3, hi3⟩ := hp3
          obtain ⟨hr, hl4, hd4⟩ := fin none W3 hk3
          refine ⟨_, _, hr, rfl, ⟨hI _ _ _ hi3 (putBad _ _), hl4, hd4⟩, ?_⟩
          have q1 : Kept (fun b => ¬ S b) W Wa := hka.mono (fun _ _ e h => e (Or.inl h))
          have q2 : Kept (fun b => ¬ S b) Wa Wb := hkb.mono (fun _ _ e h => by have := hS _ h; omega)
          have q3 : Kept (fun b => ¬ S b) Wb W3 := hk3.mono (fun _ _ e h => e (Or.inl h))
          have q4 : Kept (fun b => ¬ S b) W3 (W3.putObj (w.heap.size + 1) (.loop (rec (if (none : Option Code).isNone then .ready else .done) none))) := (kept_putObj (w.heap.size + 1) W3 (.loop (rec (if (none : Option Code).isNone then .ready else .done) none))).mono (fun _ _ e h => by have := hS _ h; omega)
          exact ((q1.trans q2).trans q3).trans q4
        | ret => exact hp3.elim
        | exit id => exact hp3.elim
        | goto t => exact hp3.elim
        | panic ch => exact hp3.elim
        | outgrown => exact hp3.elim
      | ret => exact hp.elim
      | exit id => exact hp.elim
      | goto t => exact hp.elim
      | panic ch => exact hp.elim
      | outgrown => exact hp.elim
    · rintro e W2 ⟨⟨v, rfl⟩, ⟨hi, hl, hd⟩, hf⟩
      exact ⟨none, _, by have := run_endLoop (P := P) hl (by rw [hrec]; simp); rw [hrec] at this; exact this, hdone _ (hI _ _ _ hi (putBad _ _)) (hF _ _ hf ((kept_putObj _ _ _).mono (fun _ _ e h => by have := hS _ h; omega))) ((World.putObj_heap_other (by omega)).trans hd)⟩

#print axioms wp_rangeU
end Go.Proofs.YtlhajbcabpfbkaaGreatDoor.Qu
