/-
  How calls are walked: a function that ranges over another one, and a region that draws its order whose callee makes memory.
-/
import Derived.Test.YtlhajbcabpfbkaaGreatDoorMIt
import Derived.Test.YtlhajbcabpfbkaaGreatDoorMIt
import Derived.Test.YtlhajbcabpfbkaaGreatDoorMIt
import Derived.Test.YtlhajbcabpfbkaaGreatDoorGlTab
import Derived.Test.YtlhajbcabpfbkaaGreatDoorRows
import Derived.Shelf.Abstract
namespace Go.Proofs.YtlhajbcabpfbkaaGreatDoor.Gl
open Go.RowKit

theorem wide_call {n : Nat} {f : FuncId} {args : Array Value} {w : World} {R : Ending → World → Prop} (h : Calls Tryz.prog f args w R) :
    Fence.wide.fn f ∧ (Fence.wide.depth.isSome = true → 1 ≤ n) ∧ CallsIn Fence.wide (n - 1) Tryz.prog f args w R :=
  ⟨trivial, fun h => by simp [Fence.wide] at h, callsIn_wide.2 h⟩

/-- A function that holds a range over a function, walked by the plain walk. -/
theorem calls_marks {f : FuncId} {fn : Func} {c : Code} {args : Array Value} {w : World} {R : Ending → World → Prop} (hf : Tryz.prog.funcs[f]? = some fn) (hb : fn.body = some c)
    (h : c.wp Tryz.prog (bodyPostM Fence.wide 0 Tryz.prog fn R) { tmps := args ++ Array.replicate (fn.ntmps - args.size) undef, defers := [] } w) : Calls Tryz.prog f args w R :=
  callsIn_wide.1 (callsIn_of_wp_marks hf hb trivial (wpIn_wide.2 h))

theorem wpIn_round_calm {P : Program} {n l id : Nat} {Q : Exit → Act → World → Prop} {a : Act} {w : World} {ops : List Oper} (C : World → Prop) (hC : C w.drew) (hd : noDefer ops = true) (hm : P.follows .mixedOrders = true) (hB : Region.lexB .any ops.toArray = true) (hQ : ¬ LetsOut Q)
    (h : wpQuiet P ops.toArray C (fun a' => ∀ w', C w' → Q .normal a' w') ops a) : (Code.region id ops.toArray true).wpIn (Fence.wide.inRound l) n P Q a w := by
  simp only [Region.lexB, Bool.and_eq_true] at hB
  refine wpIn_region_any hm (wpAnyIn_round hd hQ _ _ _ _ (wpAny_of_quiet (C := C) (Q := fun a' => ∀ w', C w' → Q .normal a' w') (fun _ w' hw' h => h w' hw') _ _ _ _ hC ?_))
  have := wpAnyQ_lex (C := C) (md := .any) hB.1 ops 0 (Array.replicate ops.toArray.size false) a (by simp) (by simpa using hB.2) (by simpa using h)
  simpa using this

/-- The same, outside a round. -/
theorem wp_calm {P : Program} {id : Nat} {Q : Exit → Act → World → Prop} {a : Act} {w : World} {ops : List Oper} (C : World → Prop) (hC : C w.drew) (hm : P.follows .mixedOrders = true) (hB : Region.lexB .any ops.toArray = true)
    (h : wpQuiet P ops.toArray C (fun a' => ∀ w', C w' → Q .normal a' w') ops a) : (Code.region id ops.toArray true).wp P Q a w := by
  simp only [Region.lexB, Bool.and_eq_true] at hB
  refine wp_region_any hm (wpAny_of_quiet (C := C) (Q := fun a' => ∀ w', C w' → Q .normal a' w') (fun _ w' hw' h => h w' hw') _ _ _ _ hC ?_)
  have := wpAnyQ_lex (C := C) (md := .any) hB.1 ops 0 (Array.replicate ops.toArray.size false) a (by simp) (by simpa using hB.2) (by simpa using h)
  simpa using this

/-- One operation: its value, and why it is that in every world. -/
theorem calm_op {P : Program} {ops : Array Oper} {C : World → Prop} {Q : Act → Prop} {a : Act} {o : Oper} {rest : List Oper} (v : Value) (hw : Region.wanted o (yielded ops a.tmps) = true)
    (h : ∀ w, C w → o.quietAt P a C w v) (hk : wpQuiet P ops C Q rest (a.put o.dst v)) : wpQuiet P ops C Q (o :: rest) a :=
  wpQuiet_step fun K hK => by rw [if_pos hw]; exact ⟨v, h, hK _ hk⟩

theorem kcell {w w' : World} (h : Kept0 w w') {b o : Nat} {v : Value} (hc : w.cell? ⟨b, o, none⟩ = some v) : w'.cell? ⟨b, o, none⟩ = some v :=
  (h.cell (World.block_lt_of_cell? w _ hc) (fun e => e)).trans hc
theorem Kept.thenBelow {S : Nat → Prop} {a b c : World} (h : Kept S a b) {B : Nat} (k : Below B b c) (hB : a.heap.size ≤ B) : Kept S a c :=
  ⟨k.os.trans h.os, k.tape.trans h.tape, k.output.trans h.output, Nat.le_trans h.size k.size, fun i hi hs => (k.block i (by omega)).trans (h.block i hi hs)⟩
theorem BoolAt.below {w w' : World} {b B : Nat} {v : Bool} (h : BoolAt w b v) (k : Below B w w') (hs : b < B) : BoolAt w' b v :=
  ⟨(k.cell (p := ⟨b, 0, none⟩) hs).trans h.c, (k.frozen (p := ⟨b, 0, none⟩) hs).trans h.f⟩

end Go.Proofs.YtlhajbcabpfbkaaGreatDoor.Gl
