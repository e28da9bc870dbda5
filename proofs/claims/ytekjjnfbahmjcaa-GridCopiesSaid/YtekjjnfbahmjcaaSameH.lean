/-
  What Same does with grids of different sizes and with nil; what ints does.
-/
import Derived.Test.YtekjjnfbahmjcaaSets
namespace Go.Proofs.Ytekjjnfbahmjcaa
open Go.RowKit

theorem sameG_nil1 (g : Nat) (w : World) : Calls Try.prog 21 #[.pointer (some ⟨g, 0, none⟩), .pointer none] w fun e w' => e = .returned (.bool false) ∧ Kept0 w w' := by
  go_enter Try.func21, Try.ntmps21
  go_wp2
  go_ret
  exact ⟨rfl, Kept.refl _ _⟩
theorem sameG_nil2 (g : Nat) (w : World) : Calls Try.prog 21 #[.pointer none, .pointer (some ⟨g, 0, none⟩)] w fun e w' => e = .returned (.bool false) ∧ Kept0 w w' := by
  go_enter Try.func21, Try.ntmps21
  go_wp2
  go_ret
  exact ⟨rfl, Kept.refl _ _⟩
theorem sameG_nil3 (w : World) : Calls Try.prog 21 #[.pointer none, .pointer none] w fun e w' => e = .returned (.bool true) ∧ Kept0 w w' := by
  go_enter Try.func21, Try.ntmps21
  go_wp2
  go_ret
  exact ⟨rfl, Kept.refl _ _⟩

set_option maxHeartbeats 1000000 in
/-- Same of two grids of different sizes. -/
theorem sameG_ne (w : World) (g tg capg h th caph R C R' C' : Nat) (f f2 : Nat → Int) (hG : GridAt w g tg capg R C f) (hH : GridAt w h th caph R' C' f2) (hne : ¬ (R' = R ∧ C' = C)) :
    Calls Try.prog 21 #[.pointer (some ⟨g, 0, none⟩), .pointer (some ⟨h, 0, none⟩)] w fun e w' => e = .returned (.bool false) ∧ Kept0 w w' := by
  have g0 := hG.c0
  have g1 := hG.c1
  have h0 := hH.c0
  have h1 := hH.c1
  by_cases e1 : R' = R
  · have e2 : ¬ C = C' := fun e => hne ⟨e1, e.symm⟩
    subst e1
    clear hne
    go_enter Try.func21, Try.ntmps21
    go_wp2
    go_quiet (fail)
    go_wp2
    go_ret
    exact ⟨rfl, (Kept.refl _ w).drewN _⟩
  · have e2 : ¬ R = R' := fun e => e1 e.symm
    clear hne e1
    go_enter Try.func21, Try.ntmps21
    go_wp2
    go_quiet (fail)
    go_wp2
    go_ret
    exact ⟨rfl, (Kept.refl _ w).drewN _⟩

set_option maxHeartbeats 1000000 in
/-- Are two lists of one length the same? -/
theorem ints_q (ta ca tb cb N : Nat) (f f2 : Nat → Int) (w : World) (hN : N ≤ 65025) (ha : IntsAt w ta N f) (hb : IntsAt w tb N f2) :
    Calls Try.prog 23 #[.slice (some ⟨ta, 0, none⟩) N ca, .slice (some ⟨tb, 0, none⟩) N cb] w fun e w' => e = .returned (.bool (sameF f f2 N)) ∧ ∃ m, w' = w.drewN m := by
  go_enter Try.func23, Try.ntmps23
  go_wp2_with fail
  go_loopw [5] (fun s5 wr => ∃ i : Nat, i ≤ N ∧ s5 = .int .i64 i ∧ Hid (∀ j, j < i → f j = f2 j) ∧ ∃ m, wr = w.drewN m) (fun s5 _ => N - (intOf s5).toNat)
  case atStart => exact ⟨0, by omega, rfl, fun j hj => absurd hj (by omega), 0, rfl⟩
  case round =>
    obtain ⟨i, hi, rfl, hI, m, rfl⟩ := hrel
    by_cases hlt : i < N
    · have x1 := ha.cell hlt
      have x2 := hb.cell hlt
      by_cases he : f i = f2 i
      · have d1 : (f i != f2 i) = false := by simpa using he
        have HE := Lib.hid he
        clear he
        go_wp2_with fail
        go_quiet (fail)
        go_wp2_with fail
        go_roundw
        case rel =>
          refine ⟨i + 1, by omega, by go_num, fun j hj => ?_, _, rfl⟩
          rcases Nat.lt_succ_iff_lt_or_eq.1 hj with h1 | h1
          · exact hI j h1
          · subst h1; exact HE.out
        case measure => simp [intOf]; omega
      · have d1 : (f i != f2 i) = true := by simpa using he
        have HS : Hid (sameF f f2 N = false) := by unfold sameF; exact decide_eq_false (fun h => he (h i hlt))
        clear he
        go_wp2_with fail
        go_quiet (fail)
        go_wp2_with fail
        go_ret
        exact ⟨by rw [HS.out]; rfl, _, World.drewN_drewN _ _ _⟩
    · have HS : Hid (sameF f f2 N = true) := by unfold sameF; exact decide_eq_true (fun j hj => hI j (by omega))
      go_wp2_with fail
      go_ret
      exact ⟨by rw [HS.out]; rfl, _, rfl⟩
theorem sameF_symm (f f2 : Nat → Int) (N : Nat) : sameF f f2 N = sameF f2 f N := by
  unfold sameF
  by_cases h : ∀ k, k < N → f k = f2 k
  · rw [decide_eq_true h, decide_eq_true (fun k hk => (h k hk).symm)]
  · rw [decide_eq_false h, decide_eq_false (fun h2 => h (fun k hk => (h2 k hk).symm))]

/-- A thing of the rows is put. -/
theorem rows_set {w : World} {B l R C : Nat} {F : Nat → Nat → Int} (h : RowsAt w B l R C F) (t k : Nat) (v : Int) (ht : t ≠ l) :
    ∃ F', RowsAt (w.setCell ⟨t, k, none⟩ (.int .i64 v)) B l R C F' := by
  have kk := Kept.set1 w t k (.int .i64 v)
  have each : ∀ i, i < R → ∃ fi, ∃ t' cap, (w.setCell ⟨t, k, none⟩ (.int .i64 v)).cell? ⟨l, i, none⟩ = some (.slice (some ⟨t', 0, none⟩) C cap) ∧ B ≤ t' ∧ t' ≠ l ∧ IntsAt (w.setCell ⟨t, k, none⟩ (.int .i64 v)) t' C fi := fun i hi => by
    obtain ⟨t', cap, h1, h2, h3, h4⟩ := h.len i hi
    have h1' := (kk.cell (World.block_lt_of_cell? w _ h1) (fun e => ht e.symm)).trans h1
    by_cases e : t' = t
    · subst e
      exact ⟨upd (F i) k v, t', cap, h1', h2, h3, h4.set k v⟩
    · exact ⟨F i, t', cap, h1', h2, h3, h4.kept kk e⟩
  exact ⟨fun i => if hi : i < R then (each i hi).choose else fun _ => 0, ⟨fun i hi => by simp only [hi, dite_true]; exact (each i hi).choose_spec⟩⟩
end Go.Proofs.Ytekjjnfbahmjcaa
