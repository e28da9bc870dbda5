/-
  What sequences of moves come to; small; a text that is fed in parts.
-/
import Derived.Test.YtlhajbcabpfbkaaGreatDoorVtN
namespace Go.Proofs.YtlhajbcabpfbkaaGreatDoor
open Go.RowKit

def repL (l : List UInt8) : Nat → List UInt8
  | 0 => []
  | k + 1 => repL l k ++ l
theorem repL_len (l : List UInt8) : ∀ k, (repL l k).length = k * l.length
  | 0 => by simp [repL]
  | k + 1 => by rw [repL, List.length_append, repL_len l k]; rw [Nat.succ_mul]
def stepK (z : St) (p q : Int) : Nat → St
  | 0 => z
  | k + 1 => stepZ (stepK z p q k) p q
theorem pair_step {v : Vt} (h : v.pre = []) (p q : Int) (x : UInt8) (hx : doD 1 x.toNat = .step p q) : feedV [27, x] v = { v with z := stepZ v.z p q } := by
  obtain ⟨z, most, xs, over, g, k, hh, pre⟩ := v
  simp only at h
  subst h
  have e1 : byteV ⟨z, most, xs, over, g, k, hh, []⟩ 27 = ⟨z, most, xs, over, g, k, hh, [27]⟩ := rfl
  show byteV (byteV ⟨z, most, xs, over, g, k, hh, []⟩ 27) x = _
  rw [e1]
  unfold byteV
  show actV (doD 1 x.toNat) _ _ = _
  rw [hx]
  rfl
theorem rep_step {v : Vt} (h : v.pre = []) (p q : Int) (x : UInt8) (hx : doD 1 x.toNat = .step p q) : ∀ k, feedV (repL [27, x] k) v = { v with z := stepK v.z p q k }
  | 0 => rfl
  | k + 1 => by
    rw [repL, feed_append, rep_step h p q x hx k, pair_step (by exact h) p q x hx]
    rfl
theorem stepK_same (z : St) (p q : Int) : ∀ k, (stepK z p q k).R = z.R ∧ (stepK z p q k).C = z.C ∧ (stepK z p q k).F = z.F
  | 0 => ⟨rfl, rfl, rfl⟩
  | k + 1 => stepK_same z p q k
theorem cut_small (p : Int) (h1 : -1 ≤ p) (h2 : p ≤ 1) : cut p 255 = p := by unfold cut; omega
theorem stepK_r (z : St) (q : Int) (h0 : 0 ≤ z.r) (h1 : z.r < z.R) : ∀ k : Nat, (stepK z 1 q k).r = min (z.r + k) ((z.R : Int) - 1)
  | 0 => by simp only [stepK]; omega
  | k + 1 => by
    show nr ((stepK z 1 q k).r + cut 1 255) (stepK z 1 q k).R = _
    rw [stepK_r z q h0 h1 k, (stepK_same z 1 q k).1, cut_small 1 (by omega) (by omega)]
    unfold nr
    omega
theorem stepK_rb (z : St) (q : Int) (h0 : 0 ≤ z.r) (h1 : z.r < z.R) : ∀ k : Nat, (stepK z (-1) q k).r = max (z.r - k) 0
  | 0 => by simp only [stepK]; omega
  | k + 1 => by
    show nr ((stepK z (-1) q k).r + cut (-1) 255) (stepK z (-1) q k).R = _
    rw [stepK_rb z q h0 h1 k, (stepK_same z (-1) q k).1, cut_small (-1) (by omega) (by omega)]
    unfold nr
    omega
theorem stepK_r0 (z : St) (q : Int) (h0 : 0 ≤ z.r) (h1 : z.r < z.R) : ∀ k : Nat, (stepK z 0 q k).r = z.r
  | 0 => rfl
  | k + 1 => by
    show nr ((stepK z 0 q k).r + cut 0 255) (stepK z 0 q k).R = _
    rw [stepK_r0 z q h0 h1 k, (stepK_same z 0 q k).1, cut_small 0 (by omega) (by omega)]
    unfold nr
    omega
theorem stepK_c (z : St) (p : Int) (h0 : 0 ≤ z.c) (h1 : z.c < z.C) : ∀ k : Nat, (stepK z p 1 k).c = min (z.c + k) ((z.C : Int) - 1)
  | 0 => by simp only [stepK]; omega
  | k + 1 => by
    show nr ((stepK z p 1 k).c + cut 1 255) (stepK z p 1 k).C = _
    rw [stepK_c z p h0 h1 k, (stepK_same z p 1 k).2.1, cut_small 1 (by omega) (by omega)]
    unfold nr
    omega
theorem stepK_cb (z : St) (p : Int) (h0 : 0 ≤ z.c) (h1 : z.c < z.C) : ∀ k : Nat, (stepK z p (-1) k).c = max (z.c - k) 0
  | 0 => by simp only [stepK]; omega
  | k + 1 => by
    show nr ((stepK z p (-1) k).c + cut (-1) 255) (stepK z p (-1) k).C = _
    rw [stepK_cb z p h0 h1 k, (stepK_same z p (-1) k).2.1, cut_small (-1) (by omega) (by omega)]
    unfold nr
    omega
theorem stepK_c0 (z : St) (p : Int) (h0 : 0 ≤ z.c) (h1 : z.c < z.C) : ∀ k : Nat, (stepK z p 0 k).c = z.c
  | 0 => rfl
  | k + 1 => by
    show nr ((stepK z p 0 k).c + cut 0 255) (stepK z p 0 k).C = _
    rw [stepK_c0 z p h0 h1 k, (stepK_same z p 0 k).2.1, cut_small 0 (by omega) (by omega)]
    unfold nr
    omega

/-- Down, to the right, and back. -/
theorem moves_fact (R C most d r : Nat) (hR : 1 ≤ R) (hC : 1 ≤ C) :
    let v1 := feedV (repL [27, 66] d ++ repL [27, 67] r) (newV R C most)
    let v2 := feedV (repL [27, 65] d ++ repL [27, 68] r) v1
    v1.z.r = min (d : Int) ((R : Int) - 1) ∧ v1.z.c = min (r : Int) ((C : Int) - 1) ∧ v2.z.r = 0 ∧ v2.z.c = 0 ∧ v2.z.R = R ∧ v2.z.C = C ∧ v2.z.F = (fun _ => blk) ∧ v1.pre = [] := by
  intro v1 v2
  obtain ⟨z0, hz0⟩ : ∃ z0 : St, z0 = (newV R C most).z := ⟨_, rfl⟩
  have a0 : z0.r = 0 ∧ z0.c = 0 ∧ z0.R = R ∧ z0.C = C ∧ z0.F = fun _ => blk := by rw [hz0]; exact ⟨rfl, rfl, rfl, rfl, rfl⟩
  obtain ⟨b1, b2, b3, b4, b5⟩ := a0
  have e1 : v1 = { newV R C most with z := stepK (stepK z0 1 0 d) 0 1 r } := by
    show feedV _ _ = _
    rw [feed_append, rep_step rfl 1 0 66 rfl, rep_step rfl 0 1 67 rfl, hz0]
  have e2 : v2 = { newV R C most with z := stepK (stepK (stepK (stepK z0 1 0 d) 0 1 r) (-1) 0 d) 0 (-1) r } := by
    show feedV _ v1 = _
    rw [e1, feed_append, rep_step rfl (-1) 0 65 rfl, rep_step rfl 0 (-1) 68 rfl]
  obtain ⟨z1, hz1⟩ : ∃ z1, z1 = stepK z0 1 0 d := ⟨_, rfl⟩
  have s1 := stepK_same z0 1 0 d
  have r1 := stepK_r z0 0 (by omega) (by omega) d
  have c1 := stepK_c0 z0 1 (by omega) (by omega) d
  rw [← hz1] at e1 e2 s1 r1 c1
  obtain ⟨z2, hz2⟩ : ∃ z2, z2 = stepK z1 0 1 r := ⟨_, rfl⟩
  have s2 := stepK_same z1 0 1 r
  have r2 := stepK_r0 z1 1 (by omega) (by omega) r
  have c2 := stepK_c z1 0 (by omega) (by omega) r
  rw [← hz2] at e1 e2 s2 r2 c2
  obtain ⟨z3, hz3⟩ : ∃ z3, z3 = stepK z2 (-1) 0 d := ⟨_, rfl⟩
  have s3 := stepK_same z2 (-1) 0 d
  have r3 := stepK_rb z2 0 (by omega) (by omega) d
  have c3 := stepK_c0 z2 (-1) (by omega) (by omega) d
  rw [← hz3] at e2 s3 r3 c3
  obtain ⟨z4, hz4⟩ : ∃ z4, z4 = stepK z3 0 (-1) r := ⟨_, rfl⟩
  have s4 := stepK_same z3 0 (-1) r
  have r4 := stepK_r0 z3 (-1) (by omega) (by omega) r
  have c4 := stepK_cb z3 0 (by omega) (by omega) r
  rw [← hz4] at e2 s4 r4 c4
  rw [e1, e2]
  refine ⟨?_, ?_, ?_, ?_, ?_, ?_, ?_, rfl⟩
  · show z2.r = _; omega
  · show z2.c = _; omega
  · show z4.r = _; omega
  · show z4.c = _; omega
  · show z4.R = _; omega
  · show z4.C = _; omega
  · show z4.F = _; rw [s4.2.2, s3.2.2, s2.2.2, s1.2.2, b5]

def smallB (r c : Int) : Bool := decide (1 ≤ r ∧ r ≤ 30 ∧ 1 ≤ c ∧ c ≤ 40)
theorem small_yes {r c : Int} (h : 1 ≤ r ∧ r ≤ 30 ∧ 1 ≤ c ∧ c ≤ 40) (w : World) : Calls Tryz.prog 5 #[pos r c] w fun e w' => e = .returned (.bool true) ∧ Kept0 w w' := by
  obtain ⟨h1, h2, h3, h4⟩ := h
  go_enter Tryz.func5, Tryz.ntmps5
  go_wp2_with fail
  go_ret
  exact ⟨rfl, (Kept.refl _ w).alloc _⟩
theorem small_no {r c : Int} (h : ¬ (1 ≤ r ∧ r ≤ 30 ∧ 1 ≤ c ∧ c ≤ 40)) (w : World) : Calls Tryz.prog 5 #[pos r c] w fun e w' => e = .returned (.bool false) ∧ Kept0 w w' := by
  by_cases h1 : 1 ≤ r
  · by_cases h2 : r ≤ 30
    · by_cases h3 : 1 ≤ c
      · have h4 : ¬ c ≤ 40 := fun e => h ⟨h1, h2, h3, e⟩
        clear h
        go_enter Tryz.func5, Tryz.ntmps5
        go_wp2_with fail
        go_ret
        exact ⟨rfl, (Kept.refl _ w).alloc _⟩
      · clear h
        go_enter Tryz.func5, Tryz.ntmps5
        go_wp2_with fail
        go_ret
        exact ⟨rfl, (Kept.refl _ w).alloc _⟩
    · clear h
      go_enter Tryz.func5, Tryz.ntmps5
      go_wp2_with fail
      go_ret
      exact ⟨rfl, (Kept.refl _ w).alloc _⟩
  · clear h
    go_enter Tryz.func5, Tryz.ntmps5
    go_wp2_with fail
    go_ret
    exact ⟨rfl, (Kept.refl _ w).alloc _⟩
end Go.Proofs.YtlhajbcabpfbkaaGreatDoor
