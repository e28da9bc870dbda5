/-
  What Up of package shift does.
-/
import Derived.Test.YtkdnjkcebfckiaaRoll
namespace Go.Proofs.Ytkdnjkcebfckiaa
open Go.RowKit

/-- A cell as a value. -/
abbrev Cel.v (x : Cel) : Value := .agg #[.int .i32 x.g, .int .i64 x.a, .bool x.b, .int .i64 x.m]

set_option maxHeartbeats 1000000 in
theorem up_core (T : Nat → Prop) (P : World → Prop) (g : Value) (R C n E : Int) (x : Cel) (w : World) (hT : ∀ k, T k → k < w.heap.size) (hR : 0 ≤ R ∧ R ≤ 255)
    (hsize : ∀ w', Kept0 w w' → Calls Try.prog 30 #[g] w' fun e w'' => e = .returned (.agg #[.int .i64 R, .int .i64 C]) ∧ Kept0 w' w'')
    (hroll : ∀ w', Kept0 w w' → Calls Try.prog 63 #[g, .int .i64 0, .int .i64 (R - 1), .int .i64 n, x.v] w' fun e w'' => e = .returned (.int .i64 E) ∧ P w'' ∧ Kept T w' w'') :
    Calls Try.prog 55 #[g, .int .i64 n, x.v] w fun e w' => e = .returned (.int .i64 E) ∧ P w' := by
  have HS := Lib.hid hsize
  have HRL := Lib.hid hroll
  have Hs : Hid (IntKind.i64.wrap (R - 1) = R - 1) := by
    show _ = _
    rw [IntWalk.i64_left, w64 (by omega) (by omega)]
  have hfld : ∀ w, (Instr.field 73 (.agg #[.int .i64 R, .int .i64 C]) 0).run Try.prog w = .ok (.int .i64 R) w := fun _ => by kernel_rfl
  have HT := Lib.hid hT
  clear hsize hroll hT hR
  have hx := CelAt.new w x 36
  go_enter Try.func55, Try.ntmps55
  go_wp2_with fail
  obtain ⟨W, hW⟩ : ∃ W, W = w.alloc (.cells #[.int .i32 x.g, .int .i64 x.a, .bool x.b, .int .i64 x.m] 36) := ⟨_, rfl⟩
  have k0 : Kept0 w W := by rw [hW]; exact (Kept.refl _ w).alloc _
  rw [← hW] at hx ⊢
  clear hW
  have KK := Lib.hid k0
  obtain ⟨z0, z1, z2, z3⟩ := hx
  have hx2 : Hid (CelAt W w.heap.size x) := ⟨z0, z1, z2, z3⟩
  go_region_held3 (fun w' => w'.cell? ⟨w.heap.size, 0, none⟩ = some (.int .i32 x.g) ∧ w'.cell? ⟨w.heap.size, 1, none⟩ = some (.int .i64 x.a) ∧ w'.cell? ⟨w.heap.size, 2, none⟩ = some (.bool x.b) ∧ w'.cell? ⟨w.heap.size, 3, none⟩ = some (.int .i64 x.m)) (go_keep)
    (first
      | (go_at_call 30; refine (HS.out _ (Kept.drew KK.out)).mono ?_; rintro e w3 ⟨rfl, hk3⟩; have kn : Hid (Kept0 W w3) := (Kept.refl _ W).drew.trans hk3; obtain ⟨v0, v1, v2, v3⟩ := hx2.out.kept kn.out (fun e => e))
      | (go_at_call 63; rw [Hs.out]; refine (HRL.out _ (KK.out.trans kn.out)).mono ?_; rintro e w4 ⟨rfl, hP, hk4⟩; obtain ⟨v0, v1, v2, v3⟩ := (hx2.out.kept kn.out (fun e => e)).kept hk4 (fun e => Nat.lt_irrefl _ (HT.out _ e))))
  all_goals
    go_wp2
    go_ret
    exact ⟨rfl, hP⟩

theorem moveF_bnd (f : Nat → Cel) (o L : Nat) (n : Int) (x : Cel) (k : Nat) : moveF f o L (bnd n L) x k = moveF f o L n x k := by
  unfold moveF bnd
  by_cases h : o ≤ k ∧ k < o + L
  · rw [if_pos h, if_pos h]
    by_cases h1 : (o : Int) ≤ k + n ∧ (k : Int) + n < o + L
    · rw [if_pos h1, if_pos (by omega)]
      congr 2; omega
    · rw [if_neg h1, if_neg (by omega)]
  · rw [if_neg h, if_neg h]

theorem mul_bnd {m C : Nat} {n : Int} (hC : 1 ≤ C) : bnd (bnd n m * C) ((m * C : Nat) : Int) = bnd (n * C) ((m * C : Nat) : Int) := by
  have hm : (0 : Int) ≤ (m : Int) * C := Int.mul_nonneg (by omega) (by omega)
  rw [Int.natCast_mul]
  by_cases h1 : n ≤ m
  · by_cases h2 : -(m : Int) ≤ n
    · rw [show bnd n m = n by unfold bnd; omega]
    · rw [show bnd n m = -(m : Int) by unfold bnd; omega]
      have h3 : n * C ≤ -(m : Int) * C := Int.mul_le_mul_of_nonneg_right (by omega) (by omega)
      rw [Int.neg_mul] at h3 ⊢
      unfold bnd; omega
  · rw [show bnd n m = (m : Int) by unfold bnd; omega]
    have h3 : (m : Int) * C ≤ n * C := Int.mul_le_mul_of_nonneg_right (by omega) (by omega)
    unfold bnd; omega

theorem moveF_bndC (f : Nat → Cel) (o m C : Nat) (n : Int) (x : Cel) (k : Nat) (hC : 1 ≤ C) : moveF f o (m * C) (bnd n m * C) x k = moveF f o (m * C) (n * C) x k := by
  rw [← moveF_bnd, mul_bnd hC, moveF_bnd]

/-- All lines by n. -/
def upF (R C : Nat) (f : Nat → Cel) (n : Int) (x : Cel) : Nat → Cel := moveF f 0 (R * C) (n * C) x
theorem up_any (g t cap R C : Nat) (f : Nat → Cel) (n : Int) (x : Cel) (w : World) (hg : GridAt w g t cap R C f) :
    Calls Try.prog 55 #[.pointer (some ⟨g, 0, none⟩), .int .i64 n, x.v] w fun e w' => e = .returned (.int .i64 0) ∧ GridAt w' g t cap R C (upF R C f n x) ∧ Kept (· = t) w w' := by
  have hR1 := hg.R1
  have hR2 := hg.R2
  have hl := hg.row.lt
  refine up_core (· = t) _ _ (R : Int) (C : Int) n 0 x w (fun k e => by omega) ⟨by omega, by omega⟩ (fun w' k => size_any g R C w' (kcell k hg.c0) (kcell k hg.c1)) (fun w' k => ?_)
  refine (roll_in g t cap R C f 0 ((R : Int) - 1) n x w' (hg.kept k (fun e => e) (fun e => e)) (by omega) (by omega) (by omega) (by omega) (by omega)).mono ?_
  rintro e w2 ⟨rfl, h2, k2⟩
  refine ⟨rfl, ⟨h2.congr (fun j hj => ?_), (Kept0.to k).trans k2⟩, k2⟩
  have e1 : ((R : Int) - 1 - 0 + 1) = (R : Int) := by omega
  rw [e1]
  simp only [Int.toNat_natCast, Int.toNat_zero, Nat.zero_mul]
  exact moveF_bndC f 0 R C n x j hg.C1

end Go.Proofs.Ytkdnjkcebfckiaa
