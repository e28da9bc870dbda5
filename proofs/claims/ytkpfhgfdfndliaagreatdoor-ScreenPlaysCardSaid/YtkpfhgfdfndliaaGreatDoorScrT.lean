/-
  Tab of a screen.
-/
import Derived.Test.YtkpfhgfdfndliaaGreatDoorMSc
import Derived.Test.YtkpfhgfdfndliaaGreatDoorMTb
namespace Go.Proofs.YtkpfhgfdfndliaaGreatDoor
open Go.RowKit

theorem Tb.go_in (N : Nat) (f : Nat → Bool) (c n : Int) (hN : 1 ≤ N) : 0 ≤ Tb.goN N f c n ∧ Tb.goN N f c n < N := by
  unfold Tb.goN
  split
  · exact ⟨nr_lo _ _, nr_hi _ _ (by omega)⟩
  · split
    · rw [show n.toNat = n.toNat - 1 + 1 by omega]
      exact Tb.itNext_in hN f c _
    · rw [show (-n).toNat = (-n).toNat - 1 + 1 by omega]
      exact Tb.itPrev_in hN f c _

set_option maxRecDepth 100000 in
set_option maxHeartbeats 2000000 in
theorem stab_any {s g t cap tb m R C : Nat} {F : Nat → Cel} {S : Nat → Bool} {r c : Int} {b : Bool} (n : Int) (w : World) (h : ScrIn w s g t cap tb m R C F S r c b) (hn : -9223372036854775808 ≤ n ∧ n ≤ 9223372036854775807) (h0 : ¬ n = 0) :
    Calls Tryz.prog 38 #[ptr s, .int .i64 n] w fun e w' => e = .returned (.tuple #[]) ∧ ScrIn w' s g t cap tb m R C F S r (Tb.goN C S c n) false ∧ Kept (· = s) w w' := by
  have HT := Lib.hid (fun w' (k : Kept0 w w') => Tb.go_any tb m C S c n w' (h.tabs.kept0 k) hn)
  have c0 := h.c0
  have c1 := h.c1
  have c4 := h.c4
  have H := Lib.hid h
  have e1 : Hid (nr r R = r) := nr_in _ _ h.there.1 h.there.2.1
  have e2 : Hid (nr (Tb.goN C S c n) C = Tb.goN C S c n) := nr_in _ _ (Tb.go_in C S c n h.tabs.N1).1 (Tb.go_in C S c n h.tabs.N1).2
  clear h hn
  go_enter Tryz.func38, Tryz.ntmps38
  go_wp2_with fail
  go_region_with
    (first
      | (go_at_call 75; refine (HT.out _ (Kept.refl _ w).drew).mono ?_; rintro e w3 ⟨rfl, hk3⟩; have ka : Hid (Kept0 w w3) := (Kept.refl _ w).drew.trans hk3; have z0 := kcell ka.out c0; have z1 := kcell ka.out c1; have z4 := kcell ka.out c4)
      | (go_at_call 23; refine (smove_any _ _ _ (H.out.kept0 ka.out)).mono ?_; rintro e w4 ⟨rfl, hs4, hk4⟩; have HS := Lib.hid hs4; have kb : Hid (Kept (· = s) w w4) := (Kept0.to ka.out).trans hk4; clear hs4 hk4))
  all_goals
    go_end0
    refine ⟨rfl, ?_, kb.out⟩
    have := HS.out
    rw [e1.out, e2.out] at this
    exact this

theorem stab_zero (s : Nat) (w : World) : Calls Tryz.prog 38 #[ptr s, .int .i64 0] w fun e w' => e = .returned (.tuple #[]) ∧ Kept0 w w' := by
  go_enter Tryz.func38, Tryz.ntmps38
  go_wp2_with fail
  exact bodyPost_ret (v := .tuple #[]) (by simp [results, Tryz.results38, go_sem]) rfl ⟨rfl, Kept.refl _ _⟩

end Go.Proofs.YtkpfhgfdfndliaaGreatDoor
