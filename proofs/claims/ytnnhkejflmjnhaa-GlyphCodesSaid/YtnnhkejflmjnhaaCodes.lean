/-
  GlyphCodes answers true.
-/
import Derived.Test.YtnnhkejflmjnhaaBack
namespace Go.Proofs.Ytnnhkejflmjnhaa
open Go.RowKit

theorem codes_none : ∀ a : Fin 256, refN 2 a ≠ 65533 := by decide +kernel
theorem codes_high : ∀ a : Fin 256, 128 ≤ a.val → refN 1 a = 65533 ∧ refN 3 a = 65533 ∧ refN 4 a = 65533 := by decide +kernel
theorem codes_fold : ∀ a : Fin 256, refN 5 (a % 128) = refN 5 (a % 128 + 128) := by decide +kernel
theorem codes_back : ∀ a : Fin 256, a.val ≠ 32 → bk 2 (refN 2 a) = some a.val := by decide +kernel
theorem codes_same {a b : Nat} (ha : a < 256) (hb : b < 256) (h : refN 2 a = refN 2 b) : a = b ∨ (a = 0 ∨ a = 32) ∧ (b = 0 ∨ b = 32) := by
  by_cases h1 : a = 32
  · by_cases h2 : b = 32
    · exact Or.inl (h1.trans h2.symm)
    · have h3 := codes_back ⟨b, hb⟩ h2
      rw [show refN 2 (⟨b, hb⟩ : Fin 256).val = refN 2 a from h.symm, h1, show bk 2 (refN 2 32) = some 0 from by decide +kernel] at h3
      have : b = 0 := (Option.some.inj h3).symm
      exact Or.inr ⟨Or.inr h1, Or.inl this⟩
  · have h3 := codes_back ⟨a, ha⟩ h1
    by_cases h2 : b = 32
    · rw [show refN 2 (⟨a, ha⟩ : Fin 256).val = refN 2 b from h, h2, show bk 2 (refN 2 32) = some 0 from by decide +kernel] at h3
      have : a = 0 := (Option.some.inj h3).symm
      exact Or.inr ⟨Or.inl this, Or.inr h2⟩
    · have h4 := codes_back ⟨b, hb⟩ h2
      rw [show refN 2 (⟨a, ha⟩ : Fin 256).val = refN 2 b from h] at h3
      rw [show refN 2 (⟨b, hb⟩ : Fin 256).val = refN 2 b from rfl] at h4
      rw [h4] at h3
      exact Or.inl (Option.some.inj h3).symm
theorem codes_blank : refN 2 0 = 32 ∧ refN 2 32 = 32 := by decide +kernel

set_option maxRecDepth 100000 in
set_option maxHeartbeats 40000000 in
theorem codes_calls (a b : Nat) (ha : a < 256) (hb : b < 256) (w : World) : Calls Try.prog 8 #[.int .u8 (a : Int), .int .u8 (b : Int)] w fun e w' => e = .returned (.bool true) ∧ Below w.heap.size w w' := by
  have hx : refN 2 a ≠ 65533 := codes_none ⟨a, ha⟩
  have hfold : refN 5 (a % 128) = refN 5 (a % 128 + 128) := codes_fold ⟨a, ha⟩
  have hsame := codes_same ha hb
  have hO1 := fun w => of_any 2 a ha w
  have hO2 := fun w => of_any 2 b hb w
  have hhigh := fun h => codes_high ⟨a, ha⟩ h
  have hA := fun w => of_any 1 a ha w
  have hB := fun w => of_any 3 a ha w
  have hC := fun w => of_any 4 a ha w
  obtain ⟨z, hz⟩ : ∃ z, z = refN 5 (a % 128) := ⟨_, rfl⟩
  have hF : ∀ w, Calls Try.prog 11 #[.int .i64 5, .int .u8 ((a : Int) % 128)] w fun e w' => e = .returned (.int .i32 (z : Int)) ∧ Kept0 w w' := fun w => by
    have := of_any 5 (a % 128) (by omega) w
    rw [Int.natCast_emod, ← hz] at this
    exact this
  have hF2 : ∀ w, Calls Try.prog 11 #[.int .i64 5, .int .u8 ((a : Int) % 128 + 128)] w fun e w' => e = .returned (.int .i32 (z : Int)) ∧ Kept0 w w' := fun w => by
    have := of_any 5 (a % 128 + 128) (by omega) w
    rw [← hfold, Int.natCast_add, Int.natCast_emod, ← hz] at this
    exact this
  have hcase : (∃ v : Bool, ((refN 2 a : Int) == (refN 2 b : Int)) = v ∧ ((a : Int) == (b : Int) || (((a : Int) == 0 || (a : Int) == 32) && ((b : Int) == 0 || (b : Int) == 32))) = v) := by
    refine ⟨_, rfl, ?_⟩
    by_cases h : refN 2 a = refN 2 b
    · rw [h]
      have := hsame h
      simp
      omega
    · have h1 : ¬ a = b := fun e => h (by rw [e])
      have h2 : ¬ ((a = 0 ∨ a = 32) ∧ (b = 0 ∨ b = 32)) := by
        rintro ⟨h3, h4⟩
        obtain ⟨c1, c2⟩ := codes_blank
        apply h
        rcases h3 with rfl | rfl <;> rcases h4 with rfl | rfl <;> simp [c1, c2]
      have h3 : ((refN 2 a : Int) == (refN 2 b : Int)) = false := by simp; omega
      rw [h3]
      simp
      omega
  obtain ⟨v, hv1, hv2⟩ := hcase
  obtain ⟨x, hx2⟩ : ∃ x : Int, x = (refN 2 a : Int) := ⟨_, rfl⟩
  obtain ⟨y, hy2⟩ : ∃ y : Int, y = (refN 2 b : Int) := ⟨_, rfl⟩
  have hx3 : (x == 65533) = false := by rw [hx2]; simp; omega
  rw [← hx2, ← hy2] at hv1
  rw [← hx2] at hO1
  rw [← hy2] at hO2
  have HV := Lib.hid hv2
  clear hsame hfold hx hz hx2 hy2 hv2
  have HH := Lib.hid hhigh
  have HA := Lib.hid hA
  have HB := Lib.hid hB
  have HC := Lib.hid hC
  have HF := Lib.hid hF
  have HF2 := Lib.hid hF2
  have HO2 := Lib.hid hO2
  clear hhigh hA hB hC hF hF2 hO2
  have HO1 := Lib.hid hO1
  clear hO1
  obtain ⟨A0, hA⟩ : ∃ v, ((a : Int) == 0) = v := ⟨_, rfl⟩
  obtain ⟨A1, hA2⟩ : ∃ v, ((a : Int) == 32) = v := ⟨_, rfl⟩
  obtain ⟨B0, hB⟩ : ∃ v, ((b : Int) == 0) = v := ⟨_, rfl⟩
  obtain ⟨B1, hB2⟩ : ∃ v, ((b : Int) == 32) = v := ⟨_, rfl⟩
  obtain ⟨E, hE⟩ : ∃ v, ((a : Int) == (b : Int)) = v := ⟨_, rfl⟩
  have hv2 := HV.out
  rw [hA, hA2, hB, hB2, hE] at hv2
  have hM : 128 ≤ a ∨ a < 128 := by omega
  clear HV
  cases A0 <;> cases A1 <;> cases B0 <;> cases B1 <;> cases E <;> cases v
  all_goals first | exact absurd hv2 (by decide) | (exfalso; simp at hA hA2 hB hB2 hE; omega) | skip
  all_goals
    clear hv2
    rcases hM with hM | hM
    · go_enter Try.func8, Try.ntmps8
      go_wp2_with fail
      refine (HO1.out _).mono ?_
      rintro e w1 ⟨rfl, hk1⟩
      go_wp2_with fail
      refine (HO2.out _).mono ?_
      rintro e w2 ⟨rfl, hk2⟩
      have hk02 := hk1.trans hk2
      clear hk1 hk2 HO1 HO2
      go_wp2_with fail
      obtain ⟨n1, n2, n3⟩ := HH.out hM
      refine (HA.out _).mono ?_
      rintro e w6 ⟨rfl, hk6⟩
      rw [n1]
      go_wp2_with fail
      refine (HB.out _).mono ?_
      rintro e w7 ⟨rfl, hk7⟩
      rw [n2]
      go_wp2_with fail
      refine (HC.out _).mono ?_
      rintro e w8 ⟨rfl, hk8⟩
      rw [n3]
      go_wp2_with fail
      refine (HF.out _).mono ?_
      rintro e w3 ⟨rfl, hk3⟩
      go_wp2_with fail
      refine (HF2.out _).mono ?_
      rintro e w4 ⟨rfl, hk4⟩
      go_wp2_with fail
      refine (awake_any _).mono ?_
      rintro e w5 ⟨rfl, hk5⟩
      go_wp2_with fail
      go_ret
      exact ⟨rfl, Kept0.below ((((((hk02.trans hk6).trans hk7).trans hk8).trans hk3).trans hk4).trans hk5)⟩
    · go_enter Try.func8, Try.ntmps8
      go_wp2_with fail
      refine (HO1.out _).mono ?_
      rintro e w1 ⟨rfl, hk1⟩
      go_wp2_with fail
      refine (HO2.out _).mono ?_
      rintro e w2 ⟨rfl, hk2⟩
      have hk02 := hk1.trans hk2
      clear hk1 hk2 HO1 HO2
      go_wp2_with fail
      refine (HF.out _).mono ?_
      rintro e w3 ⟨rfl, hk3⟩
      go_wp2_with fail
      refine (HF2.out _).mono ?_
      rintro e w4 ⟨rfl, hk4⟩
      go_wp2_with fail
      refine (awake_any _).mono ?_
      rintro e w5 ⟨rfl, hk5⟩
      go_wp2_with fail
      go_ret
      exact ⟨rfl, Kept0.below (((hk02.trans hk3).trans hk4).trans hk5)⟩

#print axioms codes_calls
end Go.Proofs.Ytnnhkejflmjnhaa
