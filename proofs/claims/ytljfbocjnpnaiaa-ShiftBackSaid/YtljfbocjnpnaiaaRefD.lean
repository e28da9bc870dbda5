/-
  The answer of the document: Up, Lines, Chars.
-/
import Derived.Test.YtljfbocjnpnaiaaRefC
namespace Go.Proofs.Ytljfbocjnpnaiaa
open Go.RowKit

set_option maxHeartbeats 400000 in
theorem upR (g t cap R C : Nat) (f : Nat → Cel) (n : Int) (x : Cel) (w : World) (hg : RefAt w g t cap R C f) (hn : -9223372036854775808 ≤ n ∧ n ≤ 9223372036854775807) :
    Calls Try.prog 19 #[.pointer (some ⟨g, 0, none⟩), .int .i64 n, x.v] w fun e w' => e = .returned (.tuple #[]) ∧ RefAt w' g t cap R C (upF R C f n x) ∧ Kept (· = t) w w' := by
  have hR1 := hg.R1
  have HX : Hid (∀ w', Kept0 w w' → Calls Try.prog 36 #[.pointer (some ⟨g, 0, none⟩), .int .i64 0, .int .i64 n, x.v] w' fun e w'' =>
      e = .returned (.tuple #[]) ∧ RefAt w'' g t cap R C (upF R C f n x) ∧ Kept (· = t) w' w'') := fun w' k => by
    have := rowsR g t cap R C f 0 n x w' (hg.kept k (fun e => e) (fun e => e)) (by omega) hn
    simpa [upF] using this
  clear hn
  go_enter Try.func19, Try.ntmps19
  go_wp2_with fail
  refine (HX.out _ ((Kept.refl _ w).alloc _)).mono ?_
  rintro e w1 ⟨rfl, h1, k1⟩
  go_wp2_with fail
  go_end0
  exact ⟨rfl, h1, (Kept0.to ((Kept.refl _ w).alloc _)).trans k1⟩

theorem mns_opp {n : Int} {m : Nat} (h : m ≤ 255) (h1 : -9223372036854775808 ≤ n) : bnd (mns n) m = bnd (opp n) m := by
  unfold bnd mns opp
  split
  · omega
  · split <;> omega

theorem mns_in (n : Int) : -9223372036854775808 ≤ mns n ∧ mns n ≤ 9223372036854775807 := by
  unfold mns
  split
  · omega
  · split <;> omega

set_option maxHeartbeats 400000 in
theorem linesR (g t cap R C : Nat) (f : Nat → Cel) (r n : Int) (x : Cel) (b : Bool) (w : World) (hg : RefAt w g t cap R C f) (hn : -9223372036854775808 ≤ n ∧ n ≤ 9223372036854775807) :
    Calls Try.prog 16 #[.pointer (some ⟨g, 0, none⟩), .int .i64 r, .int .i64 n, x.v, .bool b] w fun e w' => e = .returned (.int .i64 (linesE R r)) ∧ RefAt w' g t cap R C (linesF R C f r n x b) ∧ Kept (· = t) w w' := by
  have c0 := hg.c0
  have hgl := hg.lt
  have htl := hg.row.lt
  have hx := CelAt.new w x 44
  by_cases hr : 0 ≤ r ∧ r < R
  · rw [show linesE R r = 0 from if_pos hr]
    obtain ⟨h1, h2⟩ := hr
    obtain ⟨a, rfl⟩ := Int.eq_ofNat_of_zero_le h1
    have hRW : Hid (∀ w', Kept0 w w' → Calls Try.prog 36 #[.pointer (some ⟨g, 0, none⟩), .int .i64 (a : Int), .int .i64 (mns n), x.v] w' fun e w'' =>
        e = .returned (.tuple #[]) ∧ RefAt w'' g t cap R C (moveF f (a * C) ((R - a) * C) (opp n * C) x) ∧ Kept (· = t) w' w'') := fun w' k => by
      refine (rowsR g t cap R C f a (mns n) x w' (hg.kept k (fun e => e) (fun e => e)) (by omega) (mns_in n)).mono ?_
      rintro e w2 ⟨rfl, hr2, k2⟩
      refine ⟨rfl, hr2.congr (fun j _ => ?_), k2⟩
      rw [← moveF_bndC _ _ _ _ _ _ _ hg.C1, mns_opp (by have := hg.R2; omega) hn.1, moveF_bndC _ _ _ _ _ _ _ hg.C1]
    have hGD : Hid (∀ w', Kept0 w w' → Calls Try.prog 13 #[.pointer (some ⟨g, 0, none⟩), .int .i64 (a : Int)] w' fun e w'' => e = .returned (.int .i64 (cnt f (a * C) ((R - a) * C) : Int)) ∧ Kept0 w' w'') := fun w' k =>
      guardedR g t cap R C f a w' (hg.kept k (fun e => e) (fun e => e)) (by omega)
    have k0 : Kept0 w (w.alloc (.cells #[.int .i32 x.g, .int .i64 x.a, .bool x.b, .int .i64 x.m] 44)) := (Kept.refl _ w).alloc _
    have d1 : decide ((a : Int) < 0) = false := by simp
    have d2 : decide ((R : Int) ≤ (a : Int)) = false := by simp; omega
    have hne : Hid (¬ w.heap.size = t) := (by omega : ¬ w.heap.size = t)
    cases b
    · rw [show linesF R C f (a : Int) n x false = moveF f (a * C) ((R - a) * C) (opp n * C) x from if_pos ⟨⟨h1, h2⟩, fun e => by cases e⟩]
      have HG := Lib.hid hg
      clear hg
      go_enter Try.func16, Try.ntmps16
      go_wp2_with fail
      obtain ⟨W, hW⟩ : ∃ W, W = w.alloc (.cells #[.int .i32 x.g, .int .i64 x.a, .bool x.b, .int .i64 x.m] 44) := ⟨_, rfl⟩
      rw [← hW] at hx k0 ⊢
      clear hW
      have KK := Lib.hid k0
      obtain ⟨z0, z1, z2, z3⟩ := hx
      have hx2 : Hid (CelAt W w.heap.size x) := ⟨z0, z1, z2, z3⟩
      go_region_held3 (fun w' => w'.cell? ⟨w.heap.size, 0, none⟩ = some (.int .i32 x.g) ∧ w'.cell? ⟨w.heap.size, 1, none⟩ = some (.int .i64 x.a) ∧ w'.cell? ⟨w.heap.size, 2, none⟩ = some (.bool x.b) ∧ w'.cell? ⟨w.heap.size, 3, none⟩ = some (.int .i64 x.m)) (go_keep)
        (first
          | (go_at_call 37; refine (minusR _ _).mono ?_; rintro e w5 ⟨rfl, rfl⟩)
          | (go_at_call 36; refine (hRW.out _ (Kept.drew KK.out)).mono ?_; rintro e w4 ⟨rfl, hP, hk4⟩; obtain ⟨v0, v1, v2, v3⟩ := (CelAt.drew hx2.out).kept hk4 hne.out))
      all_goals
        go_wp2
        go_ret
        exact ⟨rfl, hP, (Kept0.to (Kept.drew KK.out)).trans hk4⟩
    · obtain ⟨V, hV⟩ : ∃ V, V = cnt f (a * C) ((R - a) * C) := ⟨_, rfl⟩
      rw [← hV] at hGD
      by_cases h0 : V = 0
      · rw [show linesF R C f (a : Int) n x true = moveF f (a * C) ((R - a) * C) (opp n * C) x from if_pos ⟨⟨h1, h2⟩, fun _ => by rw [h0] at hV; simpa using hV.symm⟩]
        subst h0
        clear hV
        have HG := Lib.hid hg
        clear hg
        go_enter Try.func16, Try.ntmps16
        go_wp2_with fail
        refine (hGD.out _ k0).mono ?_
        rintro e w1 ⟨rfl, hk1⟩
        have k1 := k0.trans hk1
        replace hx := hx.kept hk1 (fun e => e)
        clear hk1 k0
        go_wp2_with fail
        obtain ⟨W, hW⟩ : ∃ W, W = w1 := ⟨_, rfl⟩
        rw [← hW] at hx k1 ⊢
        clear hW
        have KK := Lib.hid k1
        obtain ⟨z0, z1, z2, z3⟩ := hx
        have hx2 : Hid (CelAt W w.heap.size x) := ⟨z0, z1, z2, z3⟩
        go_region_held3 (fun w' => w'.cell? ⟨w.heap.size, 0, none⟩ = some (.int .i32 x.g) ∧ w'.cell? ⟨w.heap.size, 1, none⟩ = some (.int .i64 x.a) ∧ w'.cell? ⟨w.heap.size, 2, none⟩ = some (.bool x.b) ∧ w'.cell? ⟨w.heap.size, 3, none⟩ = some (.int .i64 x.m)) (go_keep)
          (first
            | (go_at_call 37; refine (minusR _ _).mono ?_; rintro e w5 ⟨rfl, rfl⟩)
            | (go_at_call 36; refine (hRW.out _ (Kept.drew KK.out)).mono ?_; rintro e w4 ⟨rfl, hP, hk4⟩; obtain ⟨v0, v1, v2, v3⟩ := (CelAt.drew hx2.out).kept hk4 hne.out))
        all_goals
          go_wp2
          go_ret
          exact ⟨rfl, hP, (Kept0.to (Kept.drew KK.out)).trans hk4⟩
      · rw [show linesF R C f (a : Int) n x true = f from if_neg (fun e => h0 (by have := e.2 rfl; rw [hV]; simpa using this))]
        have hVp : ¬ (V : Int) = 0 := by omega
        clear hV
        go_enter Try.func16, Try.ntmps16
        go_wp2_with fail
        refine (hGD.out _ k0).mono ?_
        rintro e w1 ⟨rfl, hk1⟩
        go_wp2_with fail
        go_ret
        exact ⟨rfl, hg.kept (k0.trans hk1) (fun e => e) (fun e => e), Kept0.to (k0.trans hk1)⟩
  · rw [show linesE R r = 11 from if_neg hr, show linesF R C f r n x b = f from if_neg (fun e => hr e.1)]
    have k0 : Kept0 w (w.alloc (.cells #[.int .i32 x.g, .int .i64 x.a, .bool x.b, .int .i64 x.m] 44)) := (Kept.refl _ w).alloc _
    by_cases h1 : r < 0
    · go_enter Try.func16, Try.ntmps16
      go_wp2_with fail
      go_ret
      exact ⟨rfl, hg.kept k0 (fun e => e) (fun e => e), Kept0.to k0⟩
    · have h2 : (R : Int) ≤ r := by omega
      go_enter Try.func16, Try.ntmps16
      go_wp2_with fail
      go_ret
      exact ⟨rfl, hg.kept k0 (fun e => e) (fun e => e), Kept0.to k0⟩
end Go.Proofs.Ytljfbocjnpnaiaa
