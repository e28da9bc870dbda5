/-
  What Slide does.
-/
import Derived.Test.YtljfbocjnpnaiaaRun
namespace Go.Proofs.Ytljfbocjnpnaiaa
open Go.RowKit

set_option maxHeartbeats 1000000 in
theorem slide_in (g t cap R C : Nat) (f : Nat → Cel) (r c c' n : Int) (x : Cel) (w : World) (hg : GridAt w g t cap R C f) (h1 : There R C r c) (h2 : There R C r c') (hle : idx C r c ≤ idx C r c') :
    Calls Try.prog 39 #[.pointer (some ⟨g, 0, none⟩), .int .i64 r, .int .i64 c, .int .i64 c', .int .i64 n, (.agg #[.int .i32 x.g, .int .i64 x.a, .bool x.b, .int .i64 x.m])] w fun e w' =>
      e = .returned (.int .i64 0) ∧ GridAt w' g t cap R C (moveF f (idx C r c) (idx C r c' + 1 - idx C r c) (bnd n ((idx C r c' + 1 - idx C r c : Nat) : Int)) x) ∧ Kept (· = t) w w' := by
  have hl1 := idx_lt h1
  have hl2 := idx_lt h2
  have hcap := hg.cap
  have hRC : R * C ≤ 65025 := Nat.mul_le_mul hg.R2 hg.C2
  have H1 := Lib.hid h1
  have H2 := Lib.hid h2
  clear h1 h2
  obtain ⟨L, hL⟩ : ∃ L, L = idx C r c' + 1 - idx C r c := ⟨_, rfl⟩
  obtain ⟨o, ho⟩ : ∃ o, o = idx C r c := ⟨_, rfl⟩
  obtain ⟨N, hN⟩ : ∃ N, N = R * C := ⟨_, rfl⟩
  have hrow := hg.row
  rw [← hN] at hl1 hl2 hcap hRC hrow
  have HN := Lib.hid hN
  clear hN
  have HLE := Lib.hid hle
  have hx := CelAt.new w x 44
  have htl := hrow.lt
  have hL2 : o + L ≤ N := by omega
  have hL3 : L ≤ cap - o := by omega
  have hLb : (L : Int) ≤ 70000 := by omega
  have HL := Lib.hid hL
  have HO := Lib.hid ho
  have hb1 : -(L : Int) ≤ bnd n L := by unfold bnd; omega
  have hb2 : bnd n L ≤ L := by unfold bnd; omega
  obtain ⟨z, hz⟩ : ∃ z, z = bnd n L := ⟨_, rfl⟩
  rw [← hz] at hb1 hb2
  have HZ := Lib.hid hz
  clear hL ho hl1 hl2 hle hz
  go_enter Try.func39, Try.ntmps39
  go_wp2_with fail
  have k0 : Kept0 w (w.alloc (.cells #[.int .i32 x.g, .int .i64 x.a, .bool x.b, .int .i64 x.m] 44)) := (Kept.refl _ w).alloc _
  refine (stretch_yes g t cap R C f _ _ _ _ _ (hg.kept k0 (fun e => e) (fun e => e)) H1.out H2.out HLE.out).mono ?_
  unfold runV
  rw [← HL.out, ← HO.out]
  rintro e w1 ⟨rfl, hk1⟩
  replace hx := hx.kept hk1 (fun e => e)
  replace hk1 := k0.trans hk1
  have hrow1 := hrow.kept hk1 (fun e => e)
  obtain ⟨z0, z1, z2, z3⟩ := hx
  go_wp2_with fail
  go_region_held3 (fun w' => w'.cell? ⟨w.heap.size, 0, none⟩ = some (.int .i32 x.g) ∧ w'.cell? ⟨w.heap.size, 1, none⟩ = some (.int .i64 x.a) ∧ w'.cell? ⟨w.heap.size, 2, none⟩ = some (.bool x.b) ∧ w'.cell? ⟨w.heap.size, 3, none⟩ = some (.int .i64 x.m)) (go_keep)
    (first
      | (go_at_call 50; refine (bound_any _ _ _ (by omega) hLb).mono ?_; rw [← HZ.out]; rintro e w3 ⟨rfl, rfl⟩)
      | (go_at_call 49; refine (move_any t o L N _ z x f _ (CellsAt.drewN hrow1 1) hL2 (by omega) hL3 hb1 hb2).mono ?_; rintro e w3 ⟨rfl, hI, hk3⟩; obtain ⟨v0, v1, v2, v3⟩ := (CelAt.drew ⟨z0, z1, z2, z3⟩).kept hk3 (by omega)))
  go_wp2
  go_ret
  obtain rfl := HN.out
  have kt : Kept (· = t) w w3 := (Kept.drewN (Kept0.to hk1) 1).trans hk3
  refine ⟨rfl, hg.withRow kt ?_, kt⟩
  rw [HZ.out, HL.out, HO.out] at hI
  exact hI

theorem slide_out (g R C : Nat) (r c c' n : Int) (x : Cel) (w : World) (c0 : w.cell? ⟨g, 0, none⟩ = some (.int .i64 R)) (c1 : w.cell? ⟨g, 1, none⟩ = some (.int .i64 C)) (h : ¬ There R C r c ∨ ¬ There R C r c') :
    Calls Try.prog 39 #[.pointer (some ⟨g, 0, none⟩), .int .i64 r, .int .i64 c, .int .i64 c', .int .i64 n, (.agg #[.int .i32 x.g, .int .i64 x.a, .bool x.b, .int .i64 x.m])] w fun e w' => e = .returned (.int .i64 11) ∧ Kept0 w w' := by
  have H := Lib.hid h
  clear h
  go_enter Try.func39, Try.ntmps39
  go_wp2_with fail
  have k0 : Kept0 w (w.alloc (.cells #[.int .i32 x.g, .int .i64 x.a, .bool x.b, .int .i64 x.m] 44)) := (Kept.refl _ w).alloc _
  refine (run_out g R C _ _ _ _ _ (kcell k0 c0) (kcell k0 c1) H.out).mono ?_
  rintro e w1 ⟨rfl, hk1⟩
  go_wp2_with fail
  go_ret
  exact ⟨rfl, k0.trans hk1⟩

theorem slide_arg (g t cap R C : Nat) (f : Nat → Cel) (r c c' n : Int) (x : Cel) (w : World) (hg : GridAt w g t cap R C f) (h1 : There R C r c) (h2 : There R C r c') (hle : idx C r c' < idx C r c) :
    Calls Try.prog 39 #[.pointer (some ⟨g, 0, none⟩), .int .i64 r, .int .i64 c, .int .i64 c', .int .i64 n, (.agg #[.int .i32 x.g, .int .i64 x.a, .bool x.b, .int .i64 x.m])] w fun e w' => e = .returned (.int .i64 1) ∧ Kept0 w w' := by
  have H1 := Lib.hid h1
  have H2 := Lib.hid h2
  clear h1 h2
  go_enter Try.func39, Try.ntmps39
  go_wp2_with fail
  have k0 : Kept0 w (w.alloc (.cells #[.int .i32 x.g, .int .i64 x.a, .bool x.b, .int .i64 x.m] 44)) := (Kept.refl _ w).alloc _
  refine (run_arg g t cap R C f _ _ _ _ _ (hg.kept k0 (fun e => e) (fun e => e)) H1.out H2.out hle).mono ?_
  rintro e w1 ⟨rfl, hk1⟩
  go_wp2_with fail
  go_ret
  exact ⟨rfl, k0.trans hk1⟩

theorem slide_nil (r c c' n : Int) (x : Cel) (w : World) :
    Calls Try.prog 39 #[.pointer none, .int .i64 r, .int .i64 c, .int .i64 c', .int .i64 n, (.agg #[.int .i32 x.g, .int .i64 x.a, .bool x.b, .int .i64 x.m])] w fun e w' => e = .returned (.int .i64 2) ∧ Kept0 w w' := by
  go_enter Try.func39, Try.ntmps39
  go_wp2_with fail
  have k0 : Kept0 w (w.alloc (.cells #[.int .i32 x.g, .int .i64 x.a, .bool x.b, .int .i64 x.m] 44)) := (Kept.refl _ w).alloc _
  refine (run_nil _ _ _ _ _).mono ?_
  rintro e w1 ⟨rfl, hk1⟩
  go_wp2_with fail
  go_ret
  exact ⟨rfl, k0.trans hk1⟩

theorem roll_nil (r r' n : Int) (x : Cel) (w : World) :
    Calls Try.prog 34 #[.pointer none, .int .i64 r, .int .i64 r', .int .i64 n, (.agg #[.int .i32 x.g, .int .i64 x.a, .bool x.b, .int .i64 x.m])] w fun e w' => e = .returned (.int .i64 2) ∧ Kept0 w w' := by
  have hfld : ∀ w, (Instr.field 72 (.agg #[.int .i64 0, .int .i64 0]) 1).run Try.prog w = .ok (.int .i64 0) w := fun _ => by kernel_rfl
  go_enter Try.func34, Try.ntmps34
  go_wp2_with fail
  have k0 : Kept0 w (w.alloc (.cells #[.int .i32 x.g, .int .i64 x.a, .bool x.b, .int .i64 x.m] 44)) := (Kept.refl _ w).alloc _
  refine (size_nil _).mono ?_
  rintro e w0 ⟨rfl, hk0⟩
  go_wp2_with fail
  refine (run_nil _ _ _ _ _).mono ?_
  rintro e w1 ⟨rfl, hk1⟩
  go_wp2_with fail
  go_ret
  exact ⟨rfl, (k0.trans hk0).trans hk1⟩

theorem roll_len {C : Nat} {r r' : Int} (h1 : 0 ≤ r) (hle : r ≤ r') (hC : 1 ≤ C) : idx C r' ((C : Int) - 1) + 1 - idx C r 0 = (r' - r + 1).toNat * C ∧ idx C r 0 = r.toNat * C ∧ idx C r 0 ≤ idx C r' ((C : Int) - 1) := by
  obtain ⟨a, rfl⟩ := Int.eq_ofNat_of_zero_le h1
  obtain ⟨b, rfl⟩ := Int.eq_ofNat_of_zero_le (show 0 ≤ r' by omega)
  obtain ⟨d, rfl⟩ : ∃ d, b = a + d := ⟨b - a, by omega⟩
  unfold idx
  have e1 : (((a + d : Nat) : Int) - (a : Int) + 1).toNat = d + 1 := by omega
  rw [e1]
  simp only [Int.toNat_natCast, Int.toNat_zero]
  rw [Nat.add_mul, Nat.add_mul]
  omega

end Go.Proofs.Ytljfbocjnpnaiaa
