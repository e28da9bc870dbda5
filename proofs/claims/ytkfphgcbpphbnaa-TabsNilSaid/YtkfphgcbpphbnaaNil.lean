/-
  TabsNil: what nil tabs answer.
-/
import Derived.Test.YtkfphgcbpphbnaaDoes
namespace Go.Proofs.Ytkfphgcbpphbnaa
open Go.RowKit Go.Maps Go.ChangeMaps Go.MapKept

theorem put_nil (on : Bool) (v : Value) (w : World) : Calls Try.prog 18 #[.pointer none, .bool on, v] w fun e w' => e = .returned (.int .i64 2) ∧ w = w' := by
  go_enter Try.func18, Try.ntmps18
  go_wp2_with fail
  go_ret
  exact ⟨rfl, rfl⟩
theorem every_nil (n : Int) (w : World) : Calls Try.prog 19 #[.pointer none, .int .i64 n] w fun e w' => e = .returned (.int .i64 2) ∧ w = w' := by
  go_enter Try.func19, Try.ntmps19
  go_wp2_with fail
  go_ret
  exact ⟨rfl, rfl⟩
theorem resize_nil (n : Int) (w : World) : Calls Try.prog 20 #[.pointer none, .int .i64 n] w fun e w' => e = .returned (.int .i64 2) ∧ w = w' := by
  go_enter Try.func20, Try.ntmps20
  go_wp2_with fail
  go_ret
  exact ⟨rfl, rfl⟩
theorem next_nil (n : Int) (w : World) : Calls Try.prog 21 #[.pointer none, .int .i64 n] w fun e w' => e = .returned (.int .i64 0) ∧ w = w' := by
  go_enter Try.func21, Try.ntmps21
  go_wp2_with fail
  go_ret
  exact ⟨rfl, rfl⟩
theorem prev_nil (n : Int) (w : World) : Calls Try.prog 22 #[.pointer none, .int .i64 n] w fun e w' => e = .returned (.int .i64 0) ∧ w = w' := by
  go_enter Try.func22, Try.ntmps22
  go_wp2_with fail
  go_ret
  exact ⟨rfl, rfl⟩
theorem go_nil (c n : Int) (w : World) : Calls Try.prog 23 #[.pointer none, .int .i64 c, .int .i64 n] w fun e w' => e = .returned (.int .i64 0) ∧ w = w' := by
  go_enter Try.func23, Try.ntmps23
  go_wp2_with fail
  go_ret
  exact ⟨rfl, rfl⟩
theorem list_nil (w : World) : Calls Try.prog 14 #[.pointer none] w fun e w' => e = .returned (.slice none 0 0) ∧ w = w' := by
  go_enter Try.func14, Try.ntmps14
  go_wp2_with fail
  go_ret
  exact ⟨rfl, rfl⟩
theorem cols_nil (w : World) : Calls Try.prog 16 #[.pointer none] w fun e w' => e = .returned (.int .i64 0) ∧ w = w' := by
  go_enter Try.func16, Try.ntmps16
  go_wp2_with fail
  go_ret
  exact ⟨rfl, rfl⟩
theorem copy_nil (w : World) : Calls Try.prog 17 #[.pointer none] w fun e w' => e = .returned (.pointer none) ∧ w = w' := by
  go_enter Try.func17, Try.ntmps17
  go_wp2_with fail
  go_ret
  exact ⟨rfl, rfl⟩

set_option maxRecDepth 100000 in
set_option maxHeartbeats 4000000 in
theorem nil_calls (o : OpV) (w : World) (hl : IntsIn w o.la o.l) (hok : o.Ok) :
    Calls Try.prog 6 #[.agg #[.int .i64 o.ask, .int .i64 o.n, .int .i64 o.m, .slice o.la o.l.length o.lcap]] w fun e w' => e = .returned (.bool true) ∧ Below w.heap.size w w' := by
  have HF : ∀ (b : Nat) (W : World), OpAt W b 0 o → Kept0 w W → Calls Try.prog 10 #[.slice (some ⟨b, 0, none⟩) 1 1] W fun e w' => e = .returned (.bool (fewB [o])) ∧ W = w' := fun b W hO hk =>
    few_any (some ⟨b, 0, none⟩) 1 [o] W (fun i o' ho => by
      match i, ho with
      | 0, ho => simp at ho; subst ho; exact ⟨b, 0, rfl, by simpa using hO, hl.kept0 hk⟩) (fun i o' ho => by
      match i, ho with
      | 0, ho => simp at ho; subst ho; exact hok) (by simp)
  have HF := Lib.hid HF
  clear hl hok
  go_enter Try.func6, Try.ntmps6
  go_wp2_with fail
  refine (HF.out _ _ (one_op (heap_new2 _ _ _)) (((Kept.refl _ w).alloc _).alloc _)).mono ?_
  have hO : OpAt ((w.alloc (.cells #[.int .i64 o.ask, .int .i64 o.n, .int .i64 o.m, .slice o.la o.l.length o.lcap] 35)).alloc (.cells #[.int .i64 o.ask, .int .i64 o.n, .int .i64 o.m, .slice o.la o.l.length o.lcap] 35)) w.heap.size 0 o := one_op (heap_old _ _ (heap_new _ _))
  have hk : Kept0 w ((w.alloc (.cells #[.int .i64 o.ask, .int .i64 o.n, .int .i64 o.m, .slice o.la o.l.length o.lcap] 35)).alloc (.cells #[.int .i64 o.ask, .int .i64 o.n, .int .i64 o.m, .slice o.la o.l.length o.lcap] 35)) := ((Kept.refl _ w).alloc _).alloc _
  rintro e w1 ⟨rfl, hw1⟩
  rw [← hw1]
  generalize ((w.alloc (.cells #[.int .i64 o.ask, .int .i64 o.n, .int .i64 o.m, .slice o.la o.l.length o.lcap] 35)).alloc (.cells #[.int .i64 o.ask, .int .i64 o.n, .int .i64 o.m, .slice o.la o.l.length o.lcap] 35)) = W at hO hk ⊢
  clear hw1
  have a1 := hO.n
  have a2 := hO.m
  have a3 := hO.l
  simp only [Nat.zero_add] at a1 a2 a3
  cases fewB [o] with
  | false =>
    go_wp2_with fail
    refine (awake_any _).mono ?_
    rintro e w4 ⟨rfl, hk4⟩
    go_wp2_with fail
    go_ret
    exact ⟨rfl, Kept0.below (hk.trans hk4)⟩
  | true =>
    go_wp2_with fail
    refine (put_nil _ _ _).mono ?_
    rintro e w4 ⟨rfl, rfl⟩
    go_wp2_with fail
    refine (every_nil _ _).mono ?_
    rintro e w4 ⟨rfl, rfl⟩
    go_wp2_with fail
    refine (resize_nil _ _).mono ?_
    rintro e w4 ⟨rfl, rfl⟩
    go_wp2_with fail
    refine (next_nil _ _).mono ?_
    rintro e w4 ⟨rfl, rfl⟩
    go_wp2_with fail
    refine (prev_nil _ _).mono ?_
    rintro e w4 ⟨rfl, rfl⟩
    go_wp2_with fail
    refine (go_nil _ _ _).mono ?_
    rintro e w4 ⟨rfl, rfl⟩
    go_wp2_with fail
    refine (list_nil _).mono ?_
    rintro e w4 ⟨rfl, rfl⟩
    go_wp2_with fail
    refine (cols_nil _).mono ?_
    rintro e w4 ⟨rfl, rfl⟩
    go_wp2_with fail
    refine (copy_nil _).mono ?_
    rintro e w4 ⟨rfl, rfl⟩
    go_wp2_with fail
    refine (awake_any _).mono ?_
    rintro e w4 ⟨rfl, hk4⟩
    go_wp2_with fail
    go_ret
    exact ⟨rfl, Kept0.below (hk.trans hk4)⟩
end Go.Proofs.Ytkfphgcbpphbnaa
