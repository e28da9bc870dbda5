/-
  The document's answer: Wrong, Turned, Do.
-/
import Derived.Test.YtedgnjideemfbaaDoes
namespace Go.Proofs.Ytedgnjideemfbaa
open Go.RowKit

theorem wrap_idx64 {R C : Nat} {r c : Int} (h : There R C r c) (hR : R ≤ 255) (hC : C ≤ 255) : wrap64 (wrap64 (r * (C : Int)) + c) = (idx C r c : Int) := by
  have := wrap_idx h hR hC
  rwa [IntWalk.i64_left, IntWalk.i64_left] at this

set_option maxHeartbeats 1000000 in
theorem wrongR (g t cap R C : Nat) (f : Nat → Cel) (r c r' c' : Int) (w : World) (hg : RefAt w g t cap R C f) :
    Calls Try.prog 41 #[.pointer (some ⟨g, 0, none⟩), .agg #[.int .i64 r, .int .i64 c], .agg #[.int .i64 r', .int .i64 c']] w fun e w' => e = .returned (.int .i64 (wipeE R C r c r' c')) ∧ Kept0 w w' := by
  have hR2 := hg.R2
  have hC2 := hg.C2
  obtain ⟨V, hV⟩ : ∃ V, V = wipeE R C r c r' c' := ⟨_, rfl⟩
  rw [← hV]
  have HV := Lib.hid hV
  have HG := Lib.hid hg
  clear hV hg
  go_enter Try.func41, Try.ntmps41
  go_wp2_with fail
  refine (thereR g R C r c _ (kcell (((Kept.refl _ w).alloc _).alloc _) HG.out.c0) (kcell (((Kept.refl _ w).alloc _).alloc _) HG.out.c1)).mono ?_
  rintro e w1 ⟨rfl, hk1⟩
  have kk : Kept0 w w1 := (((Kept.refl _ w).alloc _).alloc _).trans hk1
  have a0 : w1.cell? ⟨w.heap.size, 0, none⟩ = some (.int .i64 r) := kcell hk1 (by simp [go_sem])
  have a1 : w1.cell? ⟨w.heap.size, 1, none⟩ = some (.int .i64 c) := kcell hk1 (by simp [go_sem])
  have b0 : w1.cell? ⟨w.heap.size + 1, 0, none⟩ = some (.int .i64 r') := kcell hk1 (by simp [go_sem])
  have b1 : w1.cell? ⟨w.heap.size + 1, 1, none⟩ = some (.int .i64 c') := kcell hk1 (by simp [go_sem])
  clear hk1
  by_cases h1 : There R C r c
  · rw [thereB_yes h1]
    go_wp2_with fail
    refine (thereR g R C r' c' w1 (kcell kk HG.out.c0) (kcell kk HG.out.c1)).mono ?_
    rintro e w2 ⟨rfl, hk2⟩
    replace a0 := kcell hk2 a0
    replace a1 := kcell hk2 a1
    replace b0 := kcell hk2 b0
    replace b1 := kcell hk2 b1
    replace kk := kk.trans hk2
    clear hk2
    by_cases h2 : There R C r' c'
    · rw [thereB_yes h2]
      have d1 := kcell kk HG.out.c1
      have e1 := wrap_idx64 h1 hR2 hC2
      have e2 := wrap_idx64 h2 hR2 hC2
      have HE : Hid (wipeE R C r c r' c' = if idx C r' c' < idx C r c then 1 else 0) := if_pos ⟨h1, h2⟩
      have HE1 := Lib.hid e1
      have HE2 := Lib.hid e2
      clear e1 e2 h1 h2
      go_wp2_with fail
      go_quiet (fail)
      rw [HE1.out, HE2.out]
      go_wp2_with fail
      all_goals
        go_ret
        refine ⟨ret_int ?_, kk.drewN _⟩
        rw [HV.out, HE.out]
        first | rw [if_pos (by omega)] | rw [if_neg (by omega)]
    · rw [thereB_no h2]
      have HE : Hid (wipeE R C r c r' c' = 11) := if_neg (fun e => h2 e.2)
      go_wp2_with fail
      go_ret
      exact ⟨ret_int (by rw [HV.out, HE.out]), kk⟩
  · rw [thereB_no h1]
    have HE : Hid (wipeE R C r c r' c' = 11) := if_neg (fun e => h1 e.1)
    go_wp2_with fail
    go_ret
    exact ⟨ret_int (by rw [HV.out, HE.out]), kk⟩

/-- A cell as it is turned. -/
def turnedC (how : Int) (x c : Cel) : Cel := if how = 1 then dyed c.a x else if how = 2 then shielded c.b x else c

set_option maxHeartbeats 1000000 in
theorem turnedR (x c : Cel) (how : Int) (w : World) :
    Calls Try.prog 42 #[x.v, c.v, .int .i64 how] w fun e w' => e = .returned (turnedC how x c).v ∧ Kept0 w w' := by
  by_cases h1 : how = 1
  · rw [show turnedC how x c = dyed c.a x from if_pos h1]
    subst h1
    go_enter Try.func42, Try.ntmps42
    go_wp2
    refine bodyPost_ret (v := (dyed c.a x).v) (by simp [results, Try.results42, go_sem, dyed]) rfl ⟨rfl, ?_⟩
    exact (((Kept.refl _ w).alloc _).alloc _).alloc _
  · by_cases h2 : how = 2
    · rw [show turnedC how x c = shielded c.b x by unfold turnedC; rw [if_neg h1, if_pos h2]]
      subst h2
      go_enter Try.func42, Try.ntmps42
      go_wp2
      refine bodyPost_ret (v := (shielded c.b x).v) (by simp [results, Try.results42, go_sem, shielded]) rfl ⟨rfl, ?_⟩
      exact (((Kept.refl _ w).alloc _).alloc _).alloc _
    · rw [show turnedC how x c = c by unfold turnedC; rw [if_neg h1, if_neg h2]]
      go_enter Try.func42, Try.ntmps42
      go_wp2
      refine bodyPost_ret (v := c.v) (by simp [results, Try.results42, go_sem]) rfl ⟨rfl, ?_⟩
      exact (((Kept.refl _ w).alloc _).alloc _).alloc _
end Go.Proofs.Ytedgnjideemfbaa
