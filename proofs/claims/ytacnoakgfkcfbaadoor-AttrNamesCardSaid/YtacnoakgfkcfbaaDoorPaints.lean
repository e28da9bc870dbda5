/-
  The law AttrPaints: which attributes there are with other colours, and which colours are seen.
-/
import Derived.Test.YtacnoakgfkcfbaaDoorRef
import Derived.Test.YtacnoakgfkcfbaaDoorNames
namespace Go.Proofs.YtacnoakgfkcfbaaDoor
open Go.RowKit

/-- A call answers v wherever all of w is kept, and keeps it. -/
def Ans (w : World) (f : Nat) (args : Array Value) (v : Value) : Prop :=
  ∀ w', Kept0 w w' → Calls Tryd.prog f args w' fun e w'' => e = .returned v ∧ Kept0 w w''
theorem Ans.words {w : World} (hw : WordsAt w) {f : Nat} {args : Array Value} {v : Value} (h : ∀ w', WordsAt w' → Calls Tryd.prog f args w' fun e w'' => e = .returned v ∧ Kept0 w' w'') : Hid (Ans w f args v) :=
  fun w' hk => (h w' (hw.kept hk)).mono fun _ _ ⟨he, hk2⟩ => ⟨he, hk.trans hk2⟩
theorem Ans.pure {w : World} {f : Nat} {args : Array Value} {v : Value} (h : ∀ w', Calls Tryd.prog f args w' fun e w'' => e = .returned v ∧ w'' = w') : Hid (Ans w f args v) :=
  fun w' hk => (h w').mono fun _ _ ⟨he, hk2⟩ => ⟨he, by rw [hk2]; exact hk⟩

set_option maxRecDepth 100000 in
theorem paints_bad (a f b : Int) (g c : Nat) (w : World) (H15 : Hid (Ans w 15 #[.int .i64 a, .int .i64 f, .int .i64 b] (.tuple #[.int .i64 0, .int .i64 1])))
    (H16 : Hid (Ans w 16 #[.int .i64 a] (.tuple #[.int .i64 (g : Int), .int .i64 (c : Int)]))) (H17 : Hid (Ans w 17 #[.int .i64 a] (.tuple #[.int .i64 (g : Int), .int .i64 (c : Int)])))
    (H8 : Hid (Ans w 8 #[.int .i64 a] (.bool false))) (H14 : Hid (Ans w 14 #[] (.bool true))) :
    Calls Tryd.prog 4 #[.int .i64 a, .int .i64 f, .int .i64 b] w fun e w' => e = .returned (.bool true) ∧ Below w.heap.size w w' := by
  go_enter Tryd.func4, Tryd.ntmps4
  go_wp2_with fail
  refine (H15.out _ (Kept.refl _ w)).mono ?_
  rintro e w1 ⟨rfl, hk⟩
  go_wp2_with fail
  refine (H16.out _ hk).mono ?_
  rintro e w2 ⟨rfl, hk⟩
  go_wp2_with fail
  refine (H17.out _ hk).mono ?_
  rintro e w3 ⟨rfl, hk⟩
  go_wp2_with fail
  refine (H8.out _ hk).mono ?_
  rintro e w3 ⟨rfl, hk⟩
  go_wp2_with fail
  refine (H14.out _ hk).mono ?_
  rintro e w3 ⟨rfl, hk⟩
  go_wp2_with fail
  go_ret
  exact ⟨rfl, Kept0.below hk⟩

set_option maxRecDepth 100000 in
theorem paints_range (a f b : Int) (g c : Nat) (hr : (paintsB f && paintsB b) = false) (w : World) (H15 : Hid (Ans w 15 #[.int .i64 a, .int .i64 f, .int .i64 b] (.tuple #[.int .i64 0, .int .i64 11])))
    (H16 : Hid (Ans w 16 #[.int .i64 a] (.tuple #[.int .i64 (g : Int), .int .i64 (c : Int)]))) (H17 : Hid (Ans w 17 #[.int .i64 a] (.tuple #[.int .i64 (g : Int), .int .i64 (c : Int)])))
    (H8 : Hid (Ans w 8 #[.int .i64 a] (.bool true))) (H14 : Hid (Ans w 14 #[] (.bool true))) :
    Calls Tryd.prog 4 #[.int .i64 a, .int .i64 f, .int .i64 b] w fun e w' => e = .returned (.bool true) ∧ Below w.heap.size w w' := by
  have hc : f < -1 ∨ (-1 ≤ f ∧ 7 < f) ∨ (-1 ≤ f ∧ f ≤ 7 ∧ b < -1) ∨ (-1 ≤ f ∧ f ≤ 7 ∧ -1 ≤ b ∧ 7 < b) := by
    simp only [paintsB, Bool.and_eq_false_iff, decide_eq_false_iff_not] at hr
    omega
  clear hr
  rcases hc with h1 | ⟨h1, h2⟩ | ⟨h1, h2, h3⟩ | ⟨h1, h2, h3, h4⟩
  all_goals
    go_enter Tryd.func4, Tryd.ntmps4
    go_wp2_with fail
    refine (H15.out _ (Kept.refl _ w)).mono ?_
    rintro e w1 ⟨rfl, hk⟩
    go_wp2_with fail
    refine (H16.out _ hk).mono ?_
    rintro e w2 ⟨rfl, hk⟩
    go_wp2_with fail
    refine (H17.out _ hk).mono ?_
    rintro e w3 ⟨rfl, hk⟩
    go_wp2_with fail
    refine (H8.out _ hk).mono ?_
    rintro e w3 ⟨rfl, hk⟩
    go_wp2_with fail
    refine (H14.out _ hk).mono ?_
    rintro e w3 ⟨rfl, hk⟩
    go_wp2_with fail
    go_ret
    exact ⟨rfl, Kept0.below hk⟩

set_option maxRecDepth 100000 in
theorem paints_good (a f b : Int) (g c x : Nat) (h1 : -1 ≤ f) (h2 : f ≤ 7) (h3 : -1 ≤ b) (h4 : b ≤ 7) (w : World) (H15 : Hid (Ans w 15 #[.int .i64 a, .int .i64 f, .int .i64 b] (.tuple #[.int .i64 (x : Int), .int .i64 0])))
    (H16 : Hid (Ans w 16 #[.int .i64 a] (.tuple #[.int .i64 (g : Int), .int .i64 (c : Int)]))) (H17 : Hid (Ans w 17 #[.int .i64 a] (.tuple #[.int .i64 (g : Int), .int .i64 (c : Int)])))
    (H8 : Hid (Ans w 8 #[.int .i64 a] (.bool true))) (H18 : Hid (Ans w 18 #[.int .i64 a, .int .i64 f, .int .i64 b] (.int .i64 (x : Int)))) (H14 : Hid (Ans w 14 #[] (.bool true))) :
    Calls Tryd.prog 4 #[.int .i64 a, .int .i64 f, .int .i64 b] w fun e w' => e = .returned (.bool true) ∧ Below w.heap.size w w' := by
  go_enter Tryd.func4, Tryd.ntmps4
  go_wp2_with fail
  refine (H15.out _ (Kept.refl _ w)).mono ?_
  rintro e w1 ⟨rfl, hk⟩
  go_wp2_with fail
  refine (H16.out _ hk).mono ?_
  rintro e w2 ⟨rfl, hk⟩
  go_wp2_with fail
  refine (H17.out _ hk).mono ?_
  rintro e w3 ⟨rfl, hk⟩
  go_wp2_with fail
  refine (H8.out _ hk).mono ?_
  rintro e w3 ⟨rfl, hk⟩
  go_wp2_with fail
  refine (H18.out _ hk).mono ?_
  rintro e w3 ⟨rfl, hk⟩
  go_wp2_with fail
  refine (H14.out _ hk).mono ?_
  rintro e w3 ⟨rfl, hk⟩
  go_wp2_with fail
  go_ret
  exact ⟨rfl, Kept0.below hk⟩

theorem paints_calls (a f b : Int) (h0 : -9223372036854775808 ≤ a) (h1 : a ≤ 9223372036854775807) (w : World) (hw : WordsAt w) :
    Calls Tryd.prog 4 #[.int .i64 a, .int .i64 f, .int .i64 b] w fun e w' => e = .returned (.bool true) ∧ Below w.heap.size w w' := by
  have H15 := Ans.words hw (fun w' => paint_any a f b h0 h1 w')
  have H16 := Ans.words hw (fun w' => colours_any a h0 h1 w')
  have H17 := Ans.pure (w := w) (refColours_any a h1)
  have H8 := Ans.pure (w := w) (refMay_any a h1)
  have H14 := Ans.words hw awake_any
  cases hm : mayB a
  · rw [show (paintN a f b : Int) = 0 by simp [paintN, hm], show paintE a f b = 1 by simp [paintE, hm]] at H15
    rw [hm] at H8
    exact paints_bad a f b _ _ w H15 H16 H17 H8 H14
  · rw [hm] at H8
    cases hr : (paintsB f && paintsB b)
    · rw [show (paintN a f b : Int) = 0 by simp only [paintN, hr]; simp, show paintE a f b = 11 by simp only [paintE, hm, hr]; simp] at H15
      exact paints_range a f b _ _ hr w H15 H16 H17 H8 H14
    · obtain ⟨n, rfl⟩ := Int.eq_ofNat_of_zero_le (mayB_lt hm).1
      have hn : n < 16384 := by have := (mayB_lt hm).2; omega
      rw [show paintN (n : Int) f b = mixN n f b by simp only [paintN, hm, hr]; simp, show paintE (n : Int) f b = 0 by simp only [paintE, hm, hr]; simp] at H15
      simp only [Bool.and_eq_true] at hr
      have H18 := Ans.pure (w := w) (refPaint_any n hn f b hr.1 hr.2)
      simp only [paintsB, Bool.and_eq_true, decide_eq_true_eq] at hr
      exact paints_good _ f b _ _ _ hr.1.1 hr.1.2 hr.2.1 hr.2.2 w H15 H16 H17 H8 H18 H14

#print axioms paints_calls
end Go.Proofs.YtacnoakgfkcfbaaDoor
