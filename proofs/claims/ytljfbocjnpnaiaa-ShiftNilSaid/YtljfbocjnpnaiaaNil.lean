/-
  The law ShiftNil: a nil grid has nothing.
-/
import Derived.Test.YtljfbocjnpnaiaaAwake
namespace Go.Proofs.Ytljfbocjnpnaiaa
open Go.RowKit

set_option maxHeartbeats 4000000 in
set_option maxRecDepth 100000 in
theorem nil_calls (r c n : Int) (w : World) (hn : n ≤ 9223372036854775807) :
    Calls Try.prog 7 #[.agg #[.int .i64 r, .int .i64 c], .int .i64 n] w fun e w' => e = .returned (.bool true) ∧ Below w.heap.size w w' := by
  obtain ⟨bl, hbl⟩ : ∃ bl, bl = celB 32 := ⟨_, rfl⟩
  have HC : Hid (∀ w : World, Calls Try.prog 15 #[.int .u8 32] w fun e w' => e = .returned bl.v ∧ Kept0 w w') := fun w => by rw [hbl]; exact cellL 32 w (by omega) (by omega)
  have HN := Lib.hid hn
  clear hbl hn
  go_enter Try.func7, Try.ntmps7
  go_wp2_with fail
  refine (guarded_nil _ _).mono ?_
  rintro e w1 ⟨rfl, k1⟩
  have q0 : w1.cell? ⟨w.heap.size, 0, none⟩ = some (.int .i64 r) := kcell k1 (by simp [go_sem])
  have q1 : w1.cell? ⟨w.heap.size, 1, none⟩ = some (.int .i64 c) := kcell k1 (by simp [go_sem])
  have kk : Kept0 w w1 := ((Kept.refl _ w).alloc _).trans k1
  clear k1
  go_wp2_with fail
  refine (field_nil _ _ _).mono ?_
  rintro e w2 ⟨rfl, k2⟩
  replace q0 := kcell k2 q0
  replace q1 := kcell k2 q1
  replace kk := kk.trans k2
  have KK := Lib.hid kk
  clear k2 kk
  go_wp2_with fail
  have KX : Hid (Kept0 w2 w2) := Kept.refl _ _
  have KD : Hid (Kept0 w2 w2.drew) := (Kept.refl _ w2).drew
  try simp only [List.append_eq, List.cons_append, List.nil_append]
  go_region_held3 (fun w' => w'.cell? ⟨w.heap.size, 0, none⟩ = some (.int .i64 r) ∧ w'.cell? ⟨w.heap.size, 1, none⟩ = some (.int .i64 c) ∧ Hid (Kept0 w2 w')) (go_keep)
    (first
      | (go_at_call 15; refine (HC.out _).mono ?_; rintro e9 w4 ⟨rfl, hk4⟩; have hk5 : Hid (Kept0 w2 w4) := Kept.trans (Hid.out (by assumption)) hk4; have v0 := kcell hk5.out q0; have v1 := kcell hk5.out q1)
      | (go_at_call 18; refine (up_nil _ _ _).mono ?_; rintro e9 w4 ⟨rfl, hk4⟩; have hk5 : Hid (Kept0 w2 w4) := Kept.trans (Hid.out (by assumption)) hk4; have v0 := kcell hk5.out q0; have v1 := kcell hk5.out q1)
      | (go_at_call 14; refine (lines_nil _ _ _ _).mono ?_; rintro e9 w4 ⟨rfl, hk4⟩; have hk5 : Hid (Kept0 w2 w4) := Kept.trans (Hid.out (by assumption)) hk4; have v0 := kcell hk5.out q0; have v1 := kcell hk5.out q1)
      | (go_at_call 24; refine (chars_nil _ _ _ _ _ _ HN.out).mono ?_; rintro e9 w4 ⟨rfl, hk4⟩; have hk5 : Hid (Kept0 w2 w4) := Kept.trans (Hid.out (by assumption)) hk4; have v0 := kcell hk5.out q0; have v1 := kcell hk5.out q1)
      | (go_at_call 10; refine (awake_any _).mono ?_; rintro e9 w4 ⟨rfl, hk4⟩; have hk5 : Hid (Kept0 w2 w4) := Kept.trans (Hid.out (by assumption)) hk4; have v0 := kcell hk5.out q0; have v1 := kcell hk5.out q1))
  all_goals
    go_wp2_with fail
    go_ret
    exact ⟨rfl, Kept0.below (KK.out.trans (Hid.out (by assumption)))⟩
end Go.Proofs.Ytljfbocjnpnaiaa
