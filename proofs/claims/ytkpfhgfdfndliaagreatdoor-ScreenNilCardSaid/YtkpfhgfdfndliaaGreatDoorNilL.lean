/-
  The law ScreenNil.
-/
import Derived.Test.YtkpfhgfdfndliaaGreatDoorNilC
import Derived.Test.YtkpfhgfdfndliaaGreatDoorAw
namespace Go.Proofs.YtkpfhgfdfndliaaGreatDoor
open Go.RowKit

theorem eqv_cel (x : Cel) (w : World) : (Op.equalIn 10000 36 x.v x.v).run Tryz.prog w = .ok true w := by
  rw [run_equalIn_agg w 9999 36 _ _ (by kernel_rfl) (by kernel_rfl)]
  simp [go_sem]
theorem eqv_pos (a b : Int) (w : World) : (Op.equalIn 10000 40 (pos a b) (pos a b)).run Tryz.prog w = .ok true w := by
  rw [run_equalIn_agg w 9999 40 _ _ (by kernel_rfl) (by kernel_rfl)]
  simp [go_sem]
theorem eqv_size (a b : Int) (w : World) : (Op.equalIn 10000 23 (pos a b) (pos a b)).run Tryz.prog w = .ok true w := by
  rw [run_equalIn_agg w 9999 23 _ _ (by kernel_rfl) (by kernel_rfl)]
  simp [go_sem]

set_option maxRecDepth 100000 in
set_option maxHeartbeats 4000000 in
theorem nil_core (ask a1 a2 b1 b2 n wr : Int) (x : Cel) (gd : Bool) (E : Int) (w : World) (hb : Blank w)
    (hE : (ask < 0 ∧ E = 2) ∨ (0 ≤ ask ∧ ask ≤ 11 ∧ E = 0) ∨ (11 < ask ∧ E = 2))
    (hD : ∀ w', Calls Tryz.prog 14 #[.pointer none, opV ask a1 a2 b1 b2 n x wr gd] w' fun e w'' => e = .returned (.tuple #[zc.v, .int .i64 E]) ∧ Kept0 w' w'') :
    Calls Tryz.prog 6 #[opV ask a1 a2 b1 b2 n x wr gd] w fun e w' => e = .returned (.bool true) ∧ Kept0 w w' := by
  have HD := Lib.hid hD
  have HB := Lib.hid hb
  clear hD hb
  have q1 : ∀ w, (Op.equalIn 10000 36 zc.v (.agg #[.int .i32 0, .int .i64 0, .bool false, .int .i64 0])).run Tryz.prog w = .ok true w := fun w => eqv_cel zc w
  have q2 := eqv_pos 0 0
  have q3 := eqv_size 0 0
  rcases hE with ⟨h1, rfl⟩ | ⟨h1, h2, rfl⟩ | ⟨h1, rfl⟩
  all_goals
    first
      | have d1 : decide (ask < 0) = true := by simp; omega
      | have d1 : decide (ask < 0) = false := by simp; omega
    first
      | have d2 : decide (11 < ask) = true := by simp; omega
      | have d2 : decide (11 < ask) = false := by simp; omega
    go_enter Tryz.func6, Tryz.ntmps6
    go_wp2_with fail
    obtain ⟨W, hW⟩ : ∃ W, W = w.alloc (.cells #[.int .i64 ask, .int .i64 a1, .int .i64 a2, .int .i64 b1, .int .i64 b2, .int .i64 n, .int .i32 x.g, .int .i64 x.a, .bool x.b, .int .i64 x.m, .int .i64 wr, .bool gd] 42) := ⟨_, rfl⟩
    have kW : Kept0 w W := by rw [hW]; exact (Kept.refl _ w).alloc _
    have oa : W.cell? ⟨w.heap.size, 0, none⟩ = some (.int .i64 ask) := by rw [hW]; simp [go_sem]
    rw [← hW]
    clear hW
    refine (HD.out W).mono ?_
    rintro e w1 ⟨rfl, k1⟩
    replace oa := kcell k1 oa
    replace kW := kW.trans k1
    clear k1
    go_wp2_with fail
    obtain ⟨V, hV⟩ : ∃ V, V = w1.alloc (.cells #[.int .i32 zc.g, .int .i64 zc.a, .bool zc.b, .int .i64 zc.m] 36) := ⟨_, rfl⟩
    have kV : Kept0 w1 V := by rw [hV]; exact (Kept.refl _ _).alloc _
    have hc : CelAt V w1.heap.size zc := by rw [hV]; exact CelAt.new w1 zc 36
    rw [← hV]
    clear hV
    replace oa := kcell kV oa
    replace kW := kW.trans kV
    clear kV
    refine (cursor_nil V).mono ?_
    rintro e w2 ⟨rfl, k2⟩
    replace oa := kcell k2 oa
    replace kW := kW.trans k2
    obtain ⟨c0, c1, c2, c3⟩ := hc.kept k2 (fun e => e)
    clear k2
    have l1 := World.block_lt_of_cell? _ _ c0
    have l0 := World.block_lt_of_cell? _ _ oa
    go_wp2_with fail
    refine (ssize_nil _).mono ?_
    rintro e w3 ⟨rfl, k3⟩
    replace kW := (kW.alloc (.cells #[.int .i64 0, .int .i64 0] 40)).trans k3
    clear k3 c0 c1 c2 c3 oa l1 l0
    go_wp2_with fail
    refine (nil24 _).mono ?_
    rintro e w4 ⟨rfl, k4⟩
    replace kW := kW.trans k4
    clear k4
    go_wp2_with fail
    refine (nil25 _).mono ?_
    rintro e w5 ⟨rfl, k5⟩
    replace kW := kW.trans k5
    clear k5
    go_wp2_with fail
    refine (nil17 _).mono ?_
    rintro e w6 ⟨rfl, k6⟩
    replace kW := kW.trans k6
    clear k6
    go_wp2_with fail
    refine (awake_any _ (HB.out.kept0 kW)).mono ?_
    rintro e w7 ⟨rfl, k7⟩
    replace kW := kW.trans k7
    clear k7
    go_wp2_with fail
    go_ret
    exact ⟨rfl, kW⟩

theorem nil_calls (o : Op) (w : World) (hb : Blank w) : Calls Tryz.prog 6 #[o.v] w fun e w' => e = .returned (.bool true) ∧ Below w.heap.size w w' := by
  refine (nil_core o.ask o.a1 o.a2 o.b1 o.b2 o.n o.wr o.x o.gd (nilE o) w hb ?_ (fun w' => does_nil o w')).mono ?_
  · unfold nilE
    split <;> omega
  · rintro e w' ⟨rfl, k⟩
    exact ⟨rfl, Kept0.below k⟩
end Go.Proofs.YtkpfhgfdfndliaaGreatDoor
