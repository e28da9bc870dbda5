/-
  The calls of no screen.
-/
import Derived.Test.YtkpfhgfdfndliaaGreatDoorDoesD
namespace Go.Proofs.YtkpfhgfdfndliaaGreatDoor
open Go.RowKit

set_option maxRecDepth 100000

theorem nil23 (p q : Int) (w : World) : Calls Tryz.prog 23 #[.pointer none, pos p q] w fun e w' => e = .returned (.tuple #[]) ∧ Kept0 w w' := by
  go_enter Tryz.func23, Tryz.ntmps23
  go_wp2_with fail
  exact bodyPost_ret (v := .tuple #[]) (results_none rfl _ _ _) rfl ⟨rfl, (Kept.refl _ w).alloc _⟩
theorem nil37 (p q : Int) (w : World) : Calls Tryz.prog 37 #[.pointer none, .int .i64 p, .int .i64 q] w fun e w' => e = .returned (.tuple #[]) ∧ Kept0 w w' := by
  go_enter Tryz.func37, Tryz.ntmps37
  go_wp2_with fail
  exact bodyPost_ret (v := .tuple #[]) (results_none rfl _ _ _) rfl ⟨rfl, Kept.refl _ w⟩
theorem nil38 (p : Int) (w : World) : Calls Tryz.prog 38 #[.pointer none, .int .i64 p] w fun e w' => e = .returned (.tuple #[]) ∧ Kept0 w w' := by
  go_enter Tryz.func38, Tryz.ntmps38
  go_wp2_with fail
  exact bodyPost_ret (v := .tuple #[]) (results_none rfl _ _ _) rfl ⟨rfl, Kept.refl _ w⟩
theorem nil39 (p : Int) (b : Bool) (w : World) : Calls Tryz.prog 39 #[.pointer none, .int .i64 p, .bool b] w fun e w' => e = .returned (.tuple #[]) ∧ Kept0 w w' := by
  go_enter Tryz.func39, Tryz.ntmps39
  go_wp2_with fail
  exact bodyPost_ret (v := .tuple #[]) (results_none rfl _ _ _) rfl ⟨rfl, Kept.refl _ w⟩
theorem nil40 (p : Int) (w : World) : Calls Tryz.prog 40 #[.pointer none, .int .i64 p] w fun e w' => e = .returned (.tuple #[]) ∧ Kept0 w w' := by
  go_enter Tryz.func40, Tryz.ntmps40
  go_wp2_with fail
  exact bodyPost_ret (v := .tuple #[]) (results_none rfl _ _ _) rfl ⟨rfl, Kept.refl _ w⟩
theorem nil41 (b : Bool) (w : World) : Calls Tryz.prog 41 #[.pointer none, .bool b] w fun e w' => e = .returned (.bool false) ∧ Kept0 w w' := by
  go_enter Tryz.func41, Tryz.ntmps41
  go_wp2_with fail
  go_ret
  exact ⟨rfl, Kept.refl _ w⟩
theorem nil42 (p q : Int) (x : Cel) (w : World) : Calls Tryz.prog 42 #[.pointer none, pos p q, x.v] w fun e w' => e = .returned (.int .i64 2) ∧ Kept0 w w' := by
  go_enter Tryz.func42, Tryz.ntmps42
  go_wp2_with fail
  go_ret
  exact ⟨rfl, ((Kept.refl _ w).alloc _).alloc _⟩
theorem nil22 (p q : Int) (w : World) : Calls Tryz.prog 22 #[.pointer none, pos p q] w fun e w' => e = .returned (.tuple #[zc.v, .int .i64 2]) ∧ Kept0 w w' := by
  go_enter Tryz.func22, Tryz.ntmps22
  go_wp2_with fail
  exact bodyPost_ret (v := .tuple #[zc.v, .int .i64 2]) (by simp [results, Tryz.results22, go_sem, zc]) rfl ⟨rfl, ((Kept.refl _ w).alloc _).alloc _⟩
theorem nil71 (p q p' q' : Int) (x : Cel) (b : Bool) (w : World) : Calls Tryz.prog 71 #[.pointer none, pos p q, pos p' q', x.v, .bool b] w fun e w' => e = .returned (.tuple #[]) ∧ Kept0 w w' := by
  go_enter Tryz.func71, Tryz.ntmps71
  go_wp2_with fail
  exact bodyPost_ret (v := .tuple #[]) (results_none rfl _ _ _) rfl ⟨rfl, (((Kept.refl _ w).alloc _).alloc _).alloc _⟩
theorem nil72 (p : Int) (x : Cel) (b : Bool) (w : World) : Calls Tryz.prog 72 #[.pointer none, .int .i64 p, x.v, .bool b] w fun e w' => e = .returned (.tuple #[]) ∧ Kept0 w w' := by
  go_enter Tryz.func72, Tryz.ntmps72
  go_wp2_with fail
  exact bodyPost_ret (v := .tuple #[]) (results_none rfl _ _ _) rfl ⟨rfl, (Kept.refl _ w).alloc _⟩
theorem nil73 (p : Int) (x : Cel) (b : Bool) (w : World) : Calls Tryz.prog 73 #[.pointer none, .int .i64 p, x.v, .bool b] w fun e w' => e = .returned (.tuple #[]) ∧ Kept0 w w' := by
  go_enter Tryz.func73, Tryz.ntmps73
  go_wp2_with fail
  exact bodyPost_ret (v := .tuple #[]) (results_none rfl _ _ _) rfl ⟨rfl, (Kept.refl _ w).alloc _⟩
theorem nil74 (p : Int) (x : Cel) (b : Bool) (w : World) : Calls Tryz.prog 74 #[.pointer none, .int .i64 p, x.v, .bool b] w fun e w' => e = .returned (.tuple #[]) ∧ Kept0 w w' := by
  go_enter Tryz.func74, Tryz.ntmps74
  go_wp2_with fail
  exact bodyPost_ret (v := .tuple #[]) (results_none rfl _ _ _) rfl ⟨rfl, (Kept.refl _ w).alloc _⟩
theorem nil24 (w : World) : Calls Tryz.prog 24 #[.pointer none] w fun e w' => e = .returned (.slice none 0 0) ∧ Kept0 w w' := by
  go_enter Tryz.func24, Tryz.ntmps24
  go_wp2_with fail
  go_ret
  exact ⟨rfl, Kept.refl _ w⟩
theorem nil25 (w : World) : Calls Tryz.prog 25 #[.pointer none] w fun e w' => e = .returned (.slice none 0 0) ∧ Kept0 w w' := by
  go_enter Tryz.func25, Tryz.ntmps25
  go_wp2_with fail
  go_ret
  exact ⟨rfl, Kept.refl _ w⟩
theorem nil17 (w : World) : Calls Tryz.prog 17 #[.pointer none] w fun e w' => e = .returned (.pointer none) ∧ Kept0 w w' := by
  go_enter Tryz.func17, Tryz.ntmps17
  go_wp2_with fail
  go_ret
  exact ⟨rfl, Kept.refl _ w⟩
theorem nil27 (p : Int) (x : Cel) (b : Bool) (w : World) : Calls Tryz.prog 27 #[.pointer none, x.v, .int .i64 p, .bool b] w fun e w' => e = .returned (.tuple #[]) ∧ Kept0 w w' := by
  go_enter_defers Tryz.func27, Tryz.ntmps27
  go_wp2_with fail
  exact ⟨.tuple #[], results_none rfl _ _ _, rfl, ((Kept.refl _ w).alloc _).alloc _⟩
theorem nil21 (p : Int) (w : World) : Calls Tryz.prog 21 #[.pointer none, .int .i64 p] w fun e w' => e = .returned (.tuple #[]) ∧ Kept0 w w' := by
  go_enter_defers Tryz.func21, Tryz.ntmps21
  go_wp2_with fail
  exact ⟨.tuple #[], results_none rfl _ _ _, rfl, Kept.refl _ w⟩
theorem nil26 (p q : Int) (w : World) : Calls Tryz.prog 26 #[.pointer none, pos p q] w fun e w' => e = .returned (.int .i64 2) ∧ Kept0 w w' := by
  go_enter_defers Tryz.func26, Tryz.ntmps26
  go_wp2_with fail
  exact ⟨_, results_tmp rfl _ _ _, rfl, (Kept.refl _ w).alloc _⟩

theorem draws_nil (o : Op) (w : World) : Calls Tryz.prog 36 #[.pointer none, o.v] w fun e w' => e = .returned (.tuple #[]) ∧ Kept0 w w' := by
  obtain ⟨ask, a1, a2, b1, b2, n, x, wr, gd⟩ := o
  simp only [Op.v]
  by_cases n0 : ask = 0
  · subst n0
    exact draws_c0 _ a1 a2 b1 b2 n wr x gd w _ (.tuple #[]) kept_later (fun w' _ => nil27 wr x gd w')
  by_cases n7 : ask = 7
  · subst n7
    exact draws_c7 _ a1 a2 b1 b2 n wr x gd w _ (.tuple #[]) kept_later (fun w' _ => nil71 a1 a2 b1 b2 x gd w')
  by_cases n8 : ask = 8
  · subst n8
    exact draws_c8 _ a1 a2 b1 b2 n wr x gd w _ (.tuple #[]) kept_later (fun w' _ => nil72 n x gd w')
  by_cases n9 : ask = 9
  · subst n9
    exact draws_c9 _ a1 a2 b1 b2 n wr x gd w _ (.tuple #[]) kept_later (fun w' _ => nil73 n x gd w')
  by_cases n10 : ask = 10
  · subst n10
    exact draws_c10 _ a1 a2 b1 b2 n wr x gd w _ (.tuple #[]) kept_later (fun w' _ => nil74 n x gd w')
  exact draws_none _ ask a1 a2 b1 b2 n wr x gd w n0 n7 n8 n9 n10

/-- What a call of no screen answers. -/
def nilE (o : Op) : Int := if 0 ≤ o.ask ∧ o.ask ≤ 11 then 0 else 2

theorem does_nil (o : Op) (w : World) : Calls Tryz.prog 14 #[.pointer none, o.v] w fun e w' => e = .returned (.tuple #[zc.v, .int .i64 (nilE o)]) ∧ Kept0 w w' := by
  have hD := fun w' => draws_nil o w'
  obtain ⟨ask, a1, a2, b1, b2, n, x, wr, gd⟩ := o
  simp only [Op.v] at hD ⊢
  by_cases n0 : ask = 0
  · subst n0
    exact does_d0 _ a1 a2 b1 b2 n wr x gd w _ (.tuple #[]) kept_later (fun w' _ => hD w')
  by_cases n7 : ask = 7
  · subst n7
    exact does_d7 _ a1 a2 b1 b2 n wr x gd w _ (.tuple #[]) kept_later (fun w' _ => hD w')
  by_cases n8 : ask = 8
  · subst n8
    exact does_d8 _ a1 a2 b1 b2 n wr x gd w _ (.tuple #[]) kept_later (fun w' _ => hD w')
  by_cases n9 : ask = 9
  · subst n9
    exact does_d9 _ a1 a2 b1 b2 n wr x gd w _ (.tuple #[]) kept_later (fun w' _ => hD w')
  by_cases n10 : ask = 10
  · subst n10
    exact does_d10 _ a1 a2 b1 b2 n wr x gd w _ (.tuple #[]) kept_later (fun w' _ => hD w')
  by_cases n1 : ask = 1
  · subst n1
    exact does_c1 _ a1 a2 b1 b2 n wr x gd w _ (.tuple #[]) kept_later (fun w' _ => nil23 a1 a2 w')
  by_cases n2 : ask = 2
  · subst n2
    exact does_c2 _ a1 a2 b1 b2 n wr x gd w _ (.tuple #[]) kept_later (fun w' _ => nil37 a1 a2 w')
  by_cases n3 : ask = 3
  · subst n3
    exact does_c3 _ a1 a2 b1 b2 n wr x gd w _ (.tuple #[]) kept_later (fun w' _ => nil21 n w')
  by_cases n4 : ask = 4
  · subst n4
    exact does_c4 _ a1 a2 b1 b2 n wr x gd w _ (.tuple #[]) kept_later (fun w' _ => nil38 n w')
  by_cases n5 : ask = 5
  · subst n5
    exact does_c5 _ a1 a2 b1 b2 n wr x gd w _ (.tuple #[]) kept_later (fun w' _ => nil39 n (!gd) w')
  by_cases n6 : ask = 6
  · subst n6
    exact does_c6 _ a1 a2 b1 b2 n wr x gd w _ (.tuple #[]) kept_later (fun w' _ => nil40 n w')
  by_cases n11 : ask = 11
  · subst n11
    exact does_c11f _ a1 a2 b1 b2 n wr x gd w _ kept_later (fun w' _ => nil41 gd w')
  by_cases n12 : ask = 12
  · subst n12
    exact does_c12 _ a1 a2 b1 b2 n wr x gd w _ 2 kept_later (fun w' _ => nil26 a1 a2 w')
  by_cases n13 : ask = 13
  · subst n13
    exact does_c13 _ a1 a2 b1 b2 n wr x gd w _ 2 kept_later (fun w' _ => nil42 a1 a2 x w')
  rw [show nilE ⟨ask, a1, a2, b1, b2, n, x, wr, gd⟩ = 2 from if_neg (fun h => by simp only at h; omega)]
  exact does_at _ ask a1 a2 b1 b2 n wr x gd w _ _ _ kept_later n0 n7 n8 n9 n10 n1 n2 n3 n4 n5 n6 n11 n12 n13 (fun w' _ => nil22 a1 a2 w')
end Go.Proofs.YtkpfhgfdfndliaaGreatDoor
