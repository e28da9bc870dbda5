/-
  The law WipeMeets, where nothing is asked; what is known of a world.
-/
import Derived.Test.YtedgnjideemfbaaMeetF
import Derived.Test.YtedgnjideemfbaaAwake
namespace Go.Proofs.Ytedgnjideemfbaa
open Go.RowKit

/-- The size in block sb, the place in block pb, a cell in block cb, the numbers in block nb; all that was there is kept. -/
structure Pm (w : World) (sb pb cb nb R C : Nat) (r c : Int) (st : Cel) (f : Nat → Int) (w' : World) : Prop where
  s0 : w'.cell? ⟨sb, 0, none⟩ = some (.int .i64 (R : Int))
  s1 : w'.cell? ⟨sb, 1, none⟩ = some (.int .i64 (C : Int))
  p0 : w'.cell? ⟨pb, 0, none⟩ = some (.int .i64 r)
  p1 : w'.cell? ⟨pb, 1, none⟩ = some (.int .i64 c)
  cel : CelAt w' cb st
  num : ∀ j, j < 7 → w'.cell? ⟨nb, j, none⟩ = some (.int .i64 (f j)) ∧ w'.frozen? ⟨nb, j, none⟩ = false
  kept : Kept0 w w'

namespace Pm
variable {w : World} {sb pb cb nb R C : Nat} {r c : Int} {st : Cel} {f : Nat → Int} {w1 : World}
theorem keepS (H : Pm w sb pb cb nb R C r c st f w1) {S : Nat → Prop} {w2 : World} (k : Kept S w1 w2) (n1 : ¬ S sb) (n2 : ¬ S pb) (n3 : ¬ S cb) (n4 : ¬ S nb) (n5 : ∀ i, i < w.heap.size → ¬ S i) : Pm w sb pb cb nb R C r c st f w2 :=
  ⟨kcellS k H.s0 n1, kcellS k H.s1 n1, kcellS k H.p0 n2, kcellS k H.p1 n2, H.cel.kept k n3, fun j hj => ⟨kcellS k (H.num j hj).1 n4, (k.frozen (World.block_lt_of_cell? w1 _ (H.num j hj).1) n4).trans (H.num j hj).2⟩, H.kept.later k (fun i hi e => n5 i hi e)⟩
theorem keep (H : Pm w sb pb cb nb R C r c st f w1) {w2 : World} (k : Kept0 w1 w2) : Pm w sb pb cb nb R C r c st f w2 := H.keepS k (fun e => e) (fun e => e) (fun e => e) (fun e => e) (fun _ _ e => e)
theorem set (H : Pm w sb pb cb nb R C r c st f w1) (i : Nat) (x : Int) (n1 : sb ≠ nb) (n2 : pb ≠ nb) (n3 : cb ≠ nb) (n5 : w.heap.size ≤ nb) : Pm w sb pb cb nb R C r c st (fun j => if j = i then x else f j) (w1.setCell ⟨nb, i, none⟩ (.int .i64 x)) := by
  have k := Kept.set1 w1 nb i (.int .i64 x)
  refine ⟨kcellS k H.s0 n1, kcellS k H.s1 n1, kcellS k H.p0 n2, kcellS k H.p1 n2, H.cel.kept k n3, fun j hj => ?_, H.kept.later k (fun i hi e => by omega)⟩
  obtain ⟨h1, h2⟩ := H.num j hj
  by_cases e : j = i
  · subst e
    rw [if_pos rfl]
    exact ⟨by simp [go_sem, h1], by simp [go_sem, h2]⟩
  · rw [if_neg e]
    exact ⟨by simp [go_sem, h1], by simp [go_sem, h2]⟩
end Pm

set_option maxHeartbeats 8000000 in
set_option maxRecDepth 100000 in
theorem meets_no (a : Option Addr) (cap : Nat) (C : Int) (L : Nat) (r c : Int) (w : World) (hL : L ≤ 9223372036854775807) (hf : ¬ ((1 ≤ L ∧ L ≤ 8 ∧ 1 ≤ C ∧ C ≤ 12) ∧ 0 ≤ r ∧ r < L ∧ 0 ≤ c ∧ c < C)) :
    Calls Try.prog 6 #[.agg #[.slice a L cap, .int .i64 C], .agg #[.int .i64 r, .int .i64 c]] w fun e w' => e = .returned (.bool true) ∧ Kept0 w w' := by
  have HL := Lib.hid hL
  by_cases hf1 : 1 ≤ L ∧ L ≤ 8 ∧ 1 ≤ C ∧ C ≤ 12
  · have HB : Hid (fewB L C = true) := decide_eq_true hf1
    have hor : r < 0 ∨ (¬ r < 0 ∧ (L : Int) ≤ r) ∨ (¬ r < 0 ∧ ¬ (L : Int) ≤ r ∧ c < 0) ∨ (¬ r < 0 ∧ ¬ (L : Int) ≤ r ∧ ¬ c < 0 ∧ C ≤ c) := by omega
    have HOR := Lib.hid hor
    clear hf hf1 hor hL
    go_enter Try.func6, Try.ntmps6
    go_wp2_with fail
    refine (few_any a L cap C _ HL.out).mono ?_
    rw [HB.out]
    rintro e w1 ⟨rfl, k1⟩
    have kk : Kept0 w w1 := (((Kept.refl _ w).alloc _).alloc _).trans k1
    have s0 : w1.cell? ⟨w.heap.size, 0, none⟩ = some (.slice a L cap) := kcell k1 (by simp [go_sem])
    have s1 : w1.cell? ⟨w.heap.size, 1, none⟩ = some (.int .i64 C) := kcell k1 (by simp [go_sem])
    have p0 : w1.cell? ⟨w.heap.size + 1, 0, none⟩ = some (.int .i64 r) := kcell k1 (by simp [go_sem])
    have p1 : w1.cell? ⟨w.heap.size + 1, 1, none⟩ = some (.int .i64 c) := kcell k1 (by simp [go_sem])
    clear k1
    rcases HOR.out with h1 | ⟨h1, h2⟩ | ⟨h1, h2, h3⟩ | ⟨h1, h2, h3, h4⟩
    all_goals
      go_wp2_with fail
      refine (awake_any _).mono ?_
      rintro e w2 ⟨rfl, k2⟩
      go_wp2_with fail
      go_ret
      exact ⟨rfl, kk.trans k2⟩
  · have HB : Hid (fewB L C = false) := decide_eq_false hf1
    clear hf hf1 hL
    go_enter Try.func6, Try.ntmps6
    go_wp2_with fail
    refine (few_any a L cap C _ HL.out).mono ?_
    rw [HB.out]
    rintro e w1 ⟨rfl, k1⟩
    have kk : Kept0 w w1 := (((Kept.refl _ w).alloc _).alloc _).trans k1
    go_wp2_with fail
    refine (awake_any _).mono ?_
    rintro e w2 ⟨rfl, k2⟩
    go_wp2_with fail
    go_ret
    exact ⟨rfl, kk.trans k2⟩
end Go.Proofs.Ytedgnjideemfbaa
