/-
  QueueNil: a nil queue has nothing.
-/
import Derived.Test.YtehbbninegidiaaRgH
namespace Go.Proofs.Ytehbbninegidiaa
open Go.RowKit Go.Maps

set_option maxRecDepth 100000 in
set_option maxHeartbeats 4000000 in
theorem nil_calls (o : OpV) (w : World) (hok : o.Ok) (hS : StrsIn w o.la o.l) : Calls Try.prog 6 #[.agg #[.int .i64 o.ask, .slice o.la o.l.length o.lcap, .int .i64 o.n]] w fun e w' => e = .returned (.bool true) ∧ Below w.heap.size w w' := by
  have HF := Lib.hid (fun (a : Option Addr) (w : World) (h : OpsIn w a [o]) => few_any a 1 [o] w h (fun i o' ho => by
    have : o' = o := by
      have := List.mem_of_getElem? ho
      simpa using this
    rw [this]; exact hok) (by simp))
  have HS := Lib.hid hS
  obtain ⟨F, hFB⟩ : ∃ F, F = fewB [o] := ⟨_, rfl⟩
  rw [← hFB] at HF
  rw [show ([o] : List OpV).length = 1 from rfl] at HF
  clear hFB hok hS
  have HO : Hid (∀ W : World, Kept0 w W → OpsIn (W.alloc (.cells #[.int .i64 o.ask, .slice o.la o.l.length o.lcap, .int .i64 o.n] 35)) (some ⟨W.heap.size, 0, none⟩) [o]) := fun W kW i o' ho => by
    have hi : i = 0 := by have := (List.getElem?_eq_some_iff.1 ho).1; simpa using this
    subst hi
    simp at ho
    subst ho
    refine ⟨_, _, rfl, ?_, HS.out.kept0 (kW.alloc _)⟩
    have := one_op (o := o) (heap_new W (.cells #[.int .i64 o.ask, .slice o.la o.l.length o.lcap, .int .i64 o.n] 35))
    simpa using this
  go_enter Try.func6, Try.ntmps6
  go_wp2_with fail
  have hops := HO.out (w.alloc (.cells #[.int .i64 o.ask, .slice o.la o.l.length o.lcap, .int .i64 o.n] 35)) ((Kept.refl _ w).alloc _)
  rw [World.size_alloc] at hops
  have HOP := Lib.hid hops
  have hh : ((w.alloc (.cells #[.int .i64 o.ask, .slice o.la o.l.length o.lcap, .int .i64 o.n] 35)).alloc (.cells #[.int .i64 o.ask, .slice o.la o.l.length o.lcap, .int .i64 o.n] 35)).heap[w.heap.size]? = some (.cells #[.int .i64 o.ask, .slice o.la o.l.length o.lcap, .int .i64 o.n] 35 (0, 0)) := (Below.heap_alloc _ _ _ (by simp)).trans (heap_new w _)
  have kW : Kept0 w ((w.alloc (.cells #[.int .i64 o.ask, .slice o.la o.l.length o.lcap, .int .i64 o.n] 35)).alloc (.cells #[.int .i64 o.ask, .slice o.la o.l.length o.lcap, .int .i64 o.n] 35)) := ((Kept.refl _ w).alloc _).alloc _
  obtain ⟨W, hW⟩ : ∃ W, W = (w.alloc (.cells #[.int .i64 o.ask, .slice o.la o.l.length o.lcap, .int .i64 o.n] 35)).alloc (.cells #[.int .i64 o.ask, .slice o.la o.l.length o.lcap, .int .i64 o.n] 35) := ⟨_, rfl⟩
  rw [← hW] at hh kW HOP ⊢
  have c1 : W.cell? ⟨w.heap.size, 1, none⟩ = some (.slice o.la o.l.length o.lcap) := by simp [World.cell?, hh]
  have c2 : W.cell? ⟨w.heap.size, 2, none⟩ = some (.int .i64 o.n) := by simp [World.cell?, hh]
  have HK := Lib.hid kW
  clear hops hh kW hW HO HS
  refine (HF.out _ _ HOP.out).mono ?_
  rintro e w1 ⟨rfl, rfl⟩
  clear HF HOP
  obtain ⟨L, hL⟩ : ∃ L, L = o.l.length := ⟨_, rfl⟩
  rw [← hL] at c1
  clear hL
  cases F with
  | false =>
    go_wp2_with fail
    refine (awake_any _).mono ?_
    rintro e w4 ⟨rfl, hk4⟩
    go_wp2_with fail
    go_ret
    exact ⟨rfl, Kept0.below (HK.out.trans hk4)⟩
  | true =>
    go_wp2_with fail
    refine (push_nil _ _ _ _).mono ?_
    rintro e w4 ⟨rfl, rfl⟩
    go_wp2_with fail
    refine (some_nil _ _).mono ?_
    rintro e w5 ⟨rfl, rfl⟩
    go_wp2_with fail
    refine (clear_nil _).mono ?_
    rintro e w6 ⟨rfl, rfl⟩
    go_wp2_with fail
    refine (drain_nil _).mono ?_
    rintro e w7 ⟨rfl, rfl⟩
    go_wp2_with fail
    refine (len_nil _).mono ?_
    rintro e w8 ⟨rfl, rfl⟩
    go_wp2_with fail
    refine (over_nil _).mono ?_
    rintro e w9 ⟨rfl, rfl⟩
    go_wp2_with fail
    refine (copy_nil _).mono ?_
    rintro e w10 ⟨rfl, k10⟩
    go_wp2_with fail
    refine (awake_any _).mono ?_
    rintro e w11 ⟨rfl, k11⟩
    go_wp2_with fail
    go_ret
    exact ⟨rfl, Kept0.below (HK.out.trans (k10.trans k11))⟩
end Go.Proofs.Ytehbbninegidiaa
