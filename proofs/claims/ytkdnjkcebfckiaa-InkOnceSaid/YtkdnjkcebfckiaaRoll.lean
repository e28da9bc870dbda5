/-
  What Roll does.
-/
import Derived.Test.YtkdnjkcebfckiaaRun
namespace Go.Proofs.Ytkdnjkcebfckiaa
open Go.RowKit

theorem roll_len {C : Nat} {r r' : Int} (h1 : 0 ≤ r) (hle : r ≤ r') (hC : 1 ≤ C) : idx C r' ((C : Int) - 1) + 1 - idx C r 0 = (r' - r + 1).toNat * C ∧ idx C r 0 = r.toNat * C ∧ idx C r 0 ≤ idx C r' ((C : Int) - 1) := by
  obtain ⟨a, rfl⟩ := Int.eq_ofNat_of_zero_le h1
  obtain ⟨b, rfl⟩ := Int.eq_ofNat_of_zero_le (show 0 ≤ r' by omega)
  obtain ⟨d, rfl⟩ : ∃ d, b = a + d := ⟨b - a, by omega⟩
  unfold idx
  have e1 : (((a + d : Nat) : Int) - (a : Int) + 1).toNat = d + 1 := by omega
  rw [e1]
  simp only [Int.toNat_natCast, Int.toNat_zero]
  rw [Nat.add_mul, Nat.add_mul]
  omega

set_option maxHeartbeats 1000000 in
theorem roll_in (g t cap R C : Nat) (f : Nat → Cel) (r r' n : Int) (x : Cel) (w : World) (hg : GridAt w g t cap R C f) (h1 : 0 ≤ r) (h2 : r < R) (h3 : 0 ≤ r') (h4 : r' < R) (hle : r ≤ r') :
    Calls Try.prog 63 #[.pointer (some ⟨g, 0, none⟩), .int .i64 r, .int .i64 r', .int .i64 n, (.agg #[.int .i32 x.g, .int .i64 x.a, .bool x.b, .int .i64 x.m])] w fun e w' =>
      e = .returned (.int .i64 0) ∧ GridAt w' g t cap R C (moveF f (r.toNat * C) ((r' - r + 1).toNat * C) (bnd n (r' - r + 1) * C) x) ∧ Kept (· = t) w w' := by
  have hC1 := hg.C1
  have hC2 := hg.C2
  have hR2 := hg.R2
  have hcap := hg.cap
  have hRC : R * C ≤ 65025 := Nat.mul_le_mul hR2 hC2
  obtain ⟨e1, e2, e3⟩ := roll_len h1 hle hC1
  have hT1 : There R C r 0 := ⟨h1, h2, by omega, by omega⟩
  have hT2 : There R C r' ((C : Int) - 1) := ⟨h3, h4, by omega, by omega⟩
  have hl2 := idx_lt hT2
  obtain ⟨L, hL⟩ : ∃ L, L = (r' - r + 1).toNat * C := ⟨_, rfl⟩
  obtain ⟨o, ho⟩ : ∃ o, o = r.toNat * C := ⟨_, rfl⟩
  obtain ⟨N, hN⟩ : ∃ N, N = R * C := ⟨_, rfl⟩
  obtain ⟨m, hm⟩ : ∃ m, m = r' - r + 1 := ⟨_, rfl⟩
  have hm2 : m ≤ 255 := by omega
  have hm0 : 0 ≤ m := by omega
  obtain ⟨z, hz⟩ : ∃ z, z = bnd n m := ⟨_, rfl⟩
  have hz1 : -m ≤ z := by rw [hz]; unfold bnd; omega
  have hz2 : z ≤ m := by rw [hz]; unfold bnd; omega
  obtain ⟨y, hy⟩ : ∃ y, y = z * C := ⟨_, rfl⟩
  have hLm : (L : Int) = m * C := by rw [hL, hm]; rw [Int.natCast_mul, Int.toNat_of_nonneg (by omega)]
  have hy1 : -(L : Int) ≤ y := by
    rw [hy, hLm, ← Int.neg_mul]
    exact Int.mul_le_mul_of_nonneg_right hz1 (by omega)
  have hy2 : y ≤ L := by
    rw [hy, hLm]
    exact Int.mul_le_mul_of_nonneg_right hz2 (by omega)
  have hlen : o + L ≤ N := by rw [hN]; omega
  have hcap' : L ≤ cap - o := by omega
  have hN2 : N ≤ 65025 := by omega
  have hw : wrap64 (z * (C : Int)) = y := by rw [← hy]; exact w64 (by omega) (by omega)
  have Hw : Hid (IntKind.i64.wrap (z * (C : Int)) = y) := by rw [IntWalk.i64_left]; exact hw
  have Hs : Hid (IntKind.i64.wrap (IntKind.i64.wrap (r' - r) + 1) = m) := by
    rw [IntWalk.i64_left, IntWalk.i64_left, w64 (n := r' - r) (by omega) (by omega), w64 (by omega) (by omega)]; exact hm.symm
  have hm3 : m ≤ 70000 := by omega
  have hN3 : N ≤ 70000 := by omega
  clear hw
  have hrow := hg.row
  rw [← hN] at hrow
  have H1 := Lib.hid hT1
  have H2 := Lib.hid hT2
  have E1 : Hid (idx C r' ((C : Int) - 1) + 1 - idx C r 0 = L) := by rw [hL]; exact e1
  have E2 : Hid (idx C r 0 = o) := by rw [ho]; exact e2
  rw [← hL, ← ho, ← hm, ← hz, ← hy]
  have HN := Lib.hid hN
  have HM := Lib.hid hm
  have HZ := Lib.hid hz
  have HRR := Lib.hid hle
  clear hN hm hz hL ho hy e1 e2 hT1 hT2 hl2 hcap hRC hLm
  have hfld : ∀ w, (Instr.field 73 (.agg #[.int .i64 R, .int .i64 C]) 1).run Try.prog w = .ok (.int .i64 C) w := fun _ => by kernel_rfl
  have c1 := hg.c1
  have hx := CelAt.new w x 36
  have htl := hg.row.lt
  go_enter Try.func63, Try.ntmps63
  go_wp2_with fail
  have k0 : Kept0 w (w.alloc (.cells #[.int .i32 x.g, .int .i64 x.a, .bool x.b, .int .i64 x.m] 36)) := (Kept.refl _ w).alloc _
  have hg0 := hg.kept k0 (fun e => e) (fun e => e)
  refine (size_any g R C _ hg0.c0 hg0.c1).mono ?_
  rintro e w0 ⟨rfl, hk0⟩
  replace hx := hx.kept hk0 (fun e => e)
  replace hk0 := k0.trans hk0
  clear hg0
  go_wp2_with fail
  refine (stretch_yes g t cap R C f _ _ _ _ _ (hg.kept hk0 (fun e => e) (fun e => e)) H1.out H2.out e3).mono ?_
  unfold runV
  rw [E1.out, E2.out]
  rintro e w1 ⟨rfl, hk1⟩
  replace hx := hx.kept hk1 (fun e => e)
  have kk : Kept0 w w1 := hk0.trans hk1
  have hrow1 := hrow.kept kk (fun e => e)
  have j1 := kcell kk c1
  have hne : g ≠ t := hg.ne
  obtain ⟨z0, z1, z2, z3⟩ := hx
  clear hk0 hk1 c1 hfld e3
  go_wp2_with fail
  go_region_held3 (fun w' => w'.cell? ⟨g, 1, none⟩ = some (.int .i64 C) ∧ w'.cell? ⟨w.heap.size, 0, none⟩ = some (.int .i32 x.g) ∧ w'.cell? ⟨w.heap.size, 1, none⟩ = some (.int .i64 x.a) ∧ w'.cell? ⟨w.heap.size, 2, none⟩ = some (.bool x.b) ∧ w'.cell? ⟨w.heap.size, 3, none⟩ = some (.int .i64 x.m)) (go_keep)
    (first
      | (go_at_call 67; rw [Hs.out]; refine (bound_any _ _ _ hm0 hm3).mono ?_; rw [← HZ.out]; rintro e w3 ⟨rfl, rfl⟩)
      | (go_at_call 66; rw [Hw.out]; refine (move_any t o L N _ y x f _ (CellsAt.drewN hrow1 1) hlen hN3 hcap' hy1 hy2).mono ?_; rintro e w3 ⟨rfl, hI, hk3⟩; have j2 := kcellS hk3 (show w1.drew.cell? _ = _ from j1) hne; obtain ⟨v0, v1, v2, v3⟩ := (CelAt.drew ⟨z0, z1, z2, z3⟩).kept hk3 (by omega)))
  go_wp2
  go_ret
  obtain rfl := HN.out
  have kt : Kept (· = t) w w3 := (Kept0.to (Kept.drew kk)).later hk3 (fun _ _ e => e)
  exact ⟨rfl, hg.withRow kt hI, kt⟩

theorem roll_out (g t cap R C : Nat) (f : Nat → Cel) (r r' n : Int) (x : Cel) (w : World) (hg : GridAt w g t cap R C f) (h : ¬ (0 ≤ r ∧ r < R) ∨ ¬ (0 ≤ r' ∧ r' < R)) :
    Calls Try.prog 63 #[.pointer (some ⟨g, 0, none⟩), .int .i64 r, .int .i64 r', .int .i64 n, (.agg #[.int .i32 x.g, .int .i64 x.a, .bool x.b, .int .i64 x.m])] w fun e w' => e = .returned (.int .i64 11) ∧ Kept0 w w' := by
  have hC1 := hg.C1
  have hC2 := hg.C2
  have H : Hid (¬ There R C r 0 ∨ ¬ There R C r' ((C : Int) - 1)) := by
    rcases h with h | h
    · exact Or.inl (fun e => h ⟨e.1, e.2.1⟩)
    · exact Or.inr (fun e => h ⟨e.1, e.2.1⟩)
  clear h
  have hfld : ∀ w, (Instr.field 73 (.agg #[.int .i64 R, .int .i64 C]) 1).run Try.prog w = .ok (.int .i64 C) w := fun _ => by kernel_rfl
  go_enter Try.func63, Try.ntmps63
  go_wp2_with fail
  have k0 : Kept0 w (w.alloc (.cells #[.int .i32 x.g, .int .i64 x.a, .bool x.b, .int .i64 x.m] 36)) := (Kept.refl _ w).alloc _
  refine (size_any g R C _ (kcell k0 hg.c0) (kcell k0 hg.c1)).mono ?_
  rintro e w0 ⟨rfl, hk0⟩
  replace hk0 := k0.trans hk0
  go_wp2_with fail
  refine (run_out g R C _ _ _ _ _ (kcell hk0 hg.c0) (kcell hk0 hg.c1) H.out).mono ?_
  rintro e w1 ⟨rfl, hk1⟩
  go_wp2_with fail
  go_ret
  exact ⟨rfl, hk0.trans hk1⟩

theorem roll_arg (g t cap R C : Nat) (f : Nat → Cel) (r r' n : Int) (x : Cel) (w : World) (hg : GridAt w g t cap R C f) (h1 : 0 ≤ r) (h2 : r < R) (h3 : 0 ≤ r') (h4 : r' < R) (hlt : r' < r) :
    Calls Try.prog 63 #[.pointer (some ⟨g, 0, none⟩), .int .i64 r, .int .i64 r', .int .i64 n, (.agg #[.int .i32 x.g, .int .i64 x.a, .bool x.b, .int .i64 x.m])] w fun e w' => e = .returned (.int .i64 1) ∧ Kept0 w w' := by
  have hC1 := hg.C1
  have hC2 := hg.C2
  have H1 : Hid (There R C r 0) := ⟨h1, h2, by omega, by omega⟩
  have H2 : Hid (There R C r' ((C : Int) - 1)) := ⟨h3, h4, by omega, by omega⟩
  have H3 : Hid (idx C r' ((C : Int) - 1) < idx C r 0) := by
    show r'.toNat * C + ((C : Int) - 1).toNat < r.toNat * C + (0 : Int).toNat
    have := place_lt (a := r'.toNat) (b := ((C : Int) - 1).toNat) (R := r.toNat) (C := C) (by omega) (by omega)
    simpa using this
  have hfld : ∀ w, (Instr.field 73 (.agg #[.int .i64 R, .int .i64 C]) 1).run Try.prog w = .ok (.int .i64 C) w := fun _ => by kernel_rfl
  go_enter Try.func63, Try.ntmps63
  go_wp2_with fail
  have k0 : Kept0 w (w.alloc (.cells #[.int .i32 x.g, .int .i64 x.a, .bool x.b, .int .i64 x.m] 36)) := (Kept.refl _ w).alloc _
  refine (size_any g R C _ (kcell k0 hg.c0) (kcell k0 hg.c1)).mono ?_
  rintro e w0 ⟨rfl, hk0⟩
  replace hk0 := k0.trans hk0
  go_wp2_with fail
  refine (run_arg g t cap R C f _ _ _ _ _ (hg.kept hk0 (fun e => e) (fun e => e)) H1.out H2.out H3.out).mono ?_
  rintro e w1 ⟨rfl, hk1⟩
  go_wp2_with fail
  go_ret
  exact ⟨rfl, hk0.trans hk1⟩
end Go.Proofs.Ytkdnjkcebfckiaa
