/-
  All of a nil grid; how a function that ranges over one is walked.
-/
import Derived.Test.YtekjjnfbahmjcaaRange
import Derived.Test.YtekjjnfbahmjcaaFew
import Derived.Shelf.Abstract
namespace Go.Proofs.Ytekjjnfbahmjcaa
open Go.RowKit

attribute [local go_sem] Oper.semAt_some

theorem wide_call {n : Nat} {f : FuncId} {args : Array Value} {w : World} {R : Ending → World → Prop} (h : Calls Try.prog f args w R) :
    Fence.wide.fn f ∧ (Fence.wide.depth.isSome = true → 1 ≤ n) ∧ CallsIn Fence.wide (n - 1) Try.prog f args w R :=
  ⟨trivial, fun h => by simp [Fence.wide] at h, callsIn_wide.2 h⟩

/-- All of a nil grid comes to nothing. -/
theorem all1_nil (bx : Nat) : IterAt Try.prog 45 #[.pointer (some ⟨bx, 0, none⟩)] (fun _ => #[undef, undef]) 0 (fun W => W.cell? ⟨bx, 0, none⟩ = some (.pointer none)) := by
  intro n l J Jx W hJ hJx hG hY h0
  have hb := hG _ _ h0
  have hbl := World.block_lt_of_cell? W _ hb
  have Y := Lib.hid hY
  have HJ := Lib.hid hJ
  have HG := Lib.hid hG
  clear hY hJ hG hJx
  refine callsIn_of_wp Try.func45 rfl trivial ?_
  simp only [Try.ntmps45, List.size_toArray, List.length_cons, List.length_nil, Nat.reduceAdd, Nat.reduceSub, Array.replicate_succ, Array.replicate_zero, List.push_toArray, List.append_toArray, List.nil_append, List.cons_append]
  gi_wp2_with fail
  refine wide_call ((at_nil _ _ _).mono ?_)
  rintro e w1 ⟨rfl, hk1⟩
  have hJ1 : J 0 w1 := HJ.out _ _ _ h0 (((Below.refl _ W).alloc (Nat.le_refl _) _).trans (hk1.below.mono (by simp)))
  gi_wp2_with fail
  gi_loopw [4, 5] (fun s4 s5 wr => s5 = .int .i64 2 ∧ J 0 wr) (fun _ _ _ => 0)
  case atStart => exact ⟨rfl, hJ1⟩
  case round =>
    obtain ⟨rfl, hJr⟩ := hrel
    gi_wp2_with fail
    go_end0
    exact ⟨⟨_, rfl⟩, Or.inl hJr⟩

theorem opsOne (w : World) (o : OpV) : OpsAt (w.alloc (.cells #[.int .i64 o.ask, .int .i64 o.ar, .int .i64 o.ac, .int .i64 o.br, .int .i64 o.bc, .int .i64 o.n, .int .i64 o.x] 41)) w.heap.size 0 [o] := by
  intro i o' h
  obtain ⟨hlt, rfl⟩ := List.getElem?_eq_some_iff.1 h
  simp at hlt
  subst hlt
  constructor <;> simp [go_sem]

theorem func_nil (bx : Nat) (w : World) : (binOp .eql 58 (.func (.func 45) #[] #[.pointer (some ⟨bx, 0, none⟩)]) .nilFunc).run Try.prog w = .ok (.bool false) w := by kernel_rfl

/-- A function that holds a range over a function, walked by the plain walk. -/
theorem calls_marks {f : FuncId} {fn : Func} {c : Code} {args : Array Value} {w : World} {R : Ending → World → Prop} (hf : Try.prog.funcs[f]? = some fn) (hb : fn.body = some c)
    (h : c.wp Try.prog (bodyPostM Fence.wide 0 Try.prog fn R) { tmps := args ++ Array.replicate (fn.ntmps - args.size) undef, defers := [] } w) : Calls Try.prog f args w R :=
  callsIn_wide.1 (callsIn_of_wp_marks hf hb trivial (wpIn_wide.2 h))

end Go.Proofs.Ytekjjnfbahmjcaa
