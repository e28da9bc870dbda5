/-
  What GridNil does: it returns true, and writes nothing that was there.
-/
import Derived.Test.YtekjjnfbahmjcaaIter
namespace Go.Proofs.Ytekjjnfbahmjcaa
open Go.RowKit

set_option maxHeartbeats 4000000 in
set_option maxRecDepth 100000 in
theorem nil_calls (o : OpV) (w : World) :
    Calls Try.prog 7 #[.agg #[.int .i64 o.ask, .int .i64 o.ar, .int .i64 o.ac, .int .i64 o.br, .int .i64 o.bc, .int .i64 o.n, .int .i64 o.x]] w fun e w' => e = .returned (.bool true) ∧ Below w.heap.size w w' := by
  refine calls_marks Try.func7 rfl ?_
  simp only [Try.ntmps7, List.size_toArray, List.length_cons, List.length_nil, Nat.reduceAdd, Nat.reduceSub, Array.replicate_succ, Array.replicate_zero, List.push_toArray, List.append_toArray, List.nil_append, List.cons_append]
  have hops := opsOne (w.alloc (.cells #[.int .i64 o.ask, .int .i64 o.ar, .int .i64 o.ac, .int .i64 o.br, .int .i64 o.bc, .int .i64 o.n, .int .i64 o.x] 41)) o
  rw [World.size_alloc] at hops
  go_wp2_with fail
  refine (few_any (w.heap.size + 1) 0 1 [o] _ hops (by simp)).mono ?_
  cases hf : fewB [o] with
  | false =>
    clear hf hops
    rintro e w1 ⟨rfl, hk1⟩
    go_wp2_with fail
    refine (awake_any _).mono ?_
    rintro e w2 ⟨rfl, hk2⟩
    go_wp2_with fail
    exact ⟨_, results_tmp rfl _ _ _, rfl, ((((Kept.refl _ w).alloc _).alloc _).later hk1 (fun _ _ e => e)).trans hk2 |> Kept0.below⟩
  | true =>
    clear hf hops
    rintro e w1 ⟨rfl, hk1⟩
    have kk : Kept0 w w1 := (((Kept.refl _ w).alloc _).alloc _).later hk1 (fun _ _ e => e)
    have c0 : w1.cell? ⟨w.heap.size, 0, none⟩ = some (.int .i64 o.ask) := kcell hk1 (by simp [go_sem])
    have c1 : w1.cell? ⟨w.heap.size, 1, none⟩ = some (.int .i64 o.ar) := kcell hk1 (by simp [go_sem])
    have c2 : w1.cell? ⟨w.heap.size, 2, none⟩ = some (.int .i64 o.ac) := kcell hk1 (by simp [go_sem])
    have c3 : w1.cell? ⟨w.heap.size, 3, none⟩ = some (.int .i64 o.br) := kcell hk1 (by simp [go_sem])
    have c4 : w1.cell? ⟨w.heap.size, 4, none⟩ = some (.int .i64 o.bc) := kcell hk1 (by simp [go_sem])
    have c5 : w1.cell? ⟨w.heap.size, 5, none⟩ = some (.int .i64 o.n) := kcell hk1 (by simp [go_sem])
    have c6 : w1.cell? ⟨w.heap.size, 6, none⟩ = some (.int .i64 o.x) := kcell hk1 (by simp [go_sem])
    have s1 : w.heap.size + 1 < w1.heap.size := by have := hk1.size; simp at this; omega
    clear hk1
    go_wp2_with fail
    refine (at_nil _ _ _).mono ?_
    rintro e w2 ⟨rfl, hk2⟩
    replace kk := kk.trans hk2
    replace c0 := kcell hk2 c0
    replace c1 := kcell hk2 c1
    replace c2 := kcell hk2 c2
    replace c3 := kcell hk2 c3
    replace c4 := kcell hk2 c4
    replace c5 := kcell hk2 c5
    replace c6 := kcell hk2 c6
    replace s1 : w.heap.size + 1 < w2.heap.size := by have := hk2.size; omega
    clear hk2
    go_wp2_with fail
    refine (all_any _ _).mono ?_
    rintro e w3 ⟨rfl, rfl⟩
    rw [World.size_alloc]
    have hfn := func_nil (w2.heap.size + 1)
    go_wp2_with fail
    clear hfn
    have hnc : ((w2.alloc (.cells #[.int .i64 0] 3)).alloc (.cells #[.pointer none] 28)).cell? ⟨w2.heap.size, 0, none⟩ = some (.int .i64 0) := by simp [go_sem]
    have hbc : ((w2.alloc (.cells #[.int .i64 0] 3)).alloc (.cells #[.pointer none] 28)).cell? ⟨w2.heap.size + 1, 0, none⟩ = some (.pointer none) := by simp [go_sem]
    have hkw : Kept0 w2 ((w2.alloc (.cells #[.int .i64 0] 3)).alloc (.cells #[.pointer none] 28)) := ((Kept.refl _ w2).alloc _).alloc _
    obtain ⟨w4, hw4⟩ : ∃ w4, w4 = (w2.alloc (.cells #[.int .i64 0] 3)).alloc (.cells #[.pointer none] 28) := ⟨_, rfl⟩
    have hs4 : w2.heap.size + 2 ≤ w4.heap.size := by rw [hw4]; simp
    rw [← hw4] at hnc hbc hkw ⊢
    clear hw4
    replace kk := kk.trans hkw
    replace c0 := kcell hkw c0
    replace c1 := kcell hkw c1
    replace c2 := kcell hkw c2
    replace c3 := kcell hkw c3
    replace c4 := kcell hkw c4
    replace c5 := kcell hkw c5
    replace c6 := kcell hkw c6
    clear hkw
    refine wpIn_wide.1 (wp_range (n := 0) (gf := 45) (lb := #[.pointer (some ⟨w2.heap.size + 1, 0, none⟩)]) rfl (enters_of Try.func45 (by kernel_rfl) rfl) (all1_nil (w2.heap.size + 1)) (fun _ => rfl)
      (fun _ W => Below w4.heap.size w4 W) (fun _ _ _ => False) (fun _ _ _ h k => h.trans k) (fun _ _ _ _ h _ => h) (fun _ W h => (h.cell (by simp; omega)).trans hbc) (Below.refl _ _) ?_ ?_ ?_)
    · intro l k W _ _ hk
      omega
    · intro D W hD hW hDc
      have hkW : Kept0 w4 W := Kept0.ofBelow hW
      clear hW
      replace kk := kk.trans hkW
      replace c0 := kcell hkW c0
      replace c1 := kcell hkW c1
      replace c2 := kcell hkW c2
      replace c3 := kcell hkW c3
      replace c4 := kcell hkW c4
      replace c5 := kcell hkW c5
      replace c6 := kcell hkW c6
      replace hnc := kcell hkW hnc
      replace hD : w.heap.size ≤ D := by omega
      have HD := Lib.hid hDc
      clear hDc hkW hbc
      go_wp2_with fail
      simp only [List.append_eq, List.cons_append, List.nil_append]
      go_region_held3 (fun w' => Kept0 W w' ∧ w'.cell? ⟨w.heap.size, 1, none⟩ = some (.int .i64 o.ar) ∧ w'.cell? ⟨w.heap.size, 2, none⟩ = some (.int .i64 o.ac) ∧ w'.cell? ⟨w.heap.size, 3, none⟩ = some (.int .i64 o.br) ∧ w'.cell? ⟨w.heap.size, 4, none⟩ = some (.int .i64 o.bc) ∧ w'.cell? ⟨w.heap.size, 5, none⟩ = some (.int .i64 o.n) ∧ w'.cell? ⟨w.heap.size, 6, none⟩ = some (.int .i64 o.x) ∧ w'.cell? ⟨w2.heap.size, 0, none⟩ = some (.int .i64 0))
        (first | exact ⟨(Kept.refl _ W).drew, c1, c2, c3, c4, c5, c6, hnc⟩ | exact ⟨by assumption, kcell (by assumption) c1, kcell (by assumption) c2, kcell (by assumption) c3, kcell (by assumption) c4, kcell (by assumption) c5, kcell (by assumption) c6, kcell (by assumption) hnc⟩)
        (first
          | (go_at_call 24; refine (set_nil _ _ _ _).mono ?_; rintro e w5 ⟨rfl, hk5⟩; have kx : Kept0 W w5 := Kept.trans (And.left (by assumption)) hk5)
          | (go_at_call 30; refine (fill_nil _ _ _ _ _ _).mono ?_; rintro e w5 ⟨rfl, hk5⟩; have kx : Kept0 W w5 := Kept.trans (And.left (by assumption)) hk5)
          | (go_at_call 29; refine (roll_nil _ _ _ _ _).mono ?_; rintro e w5 ⟨rfl, hk5⟩; have kx : Kept0 W w5 := Kept.trans (And.left (by assumption)) hk5)
          | (go_at_call 31; refine (slide_nil _ _ _ _ _ _).mono ?_; rintro e w5 ⟨rfl, hk5⟩; have kx : Kept0 W w5 := Kept.trans (And.left (by assumption)) hk5)
          | (go_at_call 32; refine (sizeOf_any _ _ _).mono ?_; rintro e w5 ⟨rfl, hk5⟩; have kx : Kept0 W w5 := Kept.trans (And.left (by assumption)) hk5)
          | (go_at_call 28; refine (resize_nil _ _ _ _).mono ?_; rintro e w5 ⟨rfl, hk5⟩; have kx : Kept0 W w5 := Kept.trans (And.left (by assumption)) hk5)
          | (go_at_call 25; refine (size_nil _).mono ?_; rintro e w5 ⟨rfl, hk5⟩; have kx : Kept0 W w5 := Kept.trans (And.left (by assumption)) hk5)
          | (go_at_call 20; refine (rows_nil _).mono ?_; rintro e w5 ⟨rfl, hk5⟩; have kx : Kept0 W w5 := Kept.trans (And.left (by assumption)) hk5)
          | (go_at_call 19; refine (copy_nil _).mono ?_; rintro e w5 ⟨rfl, hk5⟩; have kx : Kept0 W w5 := Kept.trans (And.left (by assumption)) hk5)
          | (go_at_call 12; refine (awake_any _).mono ?_; rintro e w5 ⟨rfl, hk5⟩; have kx : Kept0 W w5 := Kept.trans (And.left (by assumption)) hk5))
      go_wp2_with fail
      have hDl : D < W.heap.size := (Array.getElem?_eq_some_iff.1 HD.out).1
      have hD5 : w5.heap[D]? = some (.deferred (some [])) := (kx.block D hDl (fun e => e)).trans HD.out
      refine ⟨by simp, .inl ⟨_, _, rfl, run_takeDeferred hD5, ?_⟩⟩
      exact ⟨_, results_tmp rfl _ _ _, rfl, (Kept0.below (kk.trans kx)).trans (below_putObj _ hD)⟩
    · intro D c k W _ _ h
      exact h.elim
end Go.Proofs.Ytekjjnfbahmjcaa
