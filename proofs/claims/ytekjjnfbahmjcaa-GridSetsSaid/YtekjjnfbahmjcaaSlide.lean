/-
  What Slide and Fill do.
-/
import Derived.Test.YtekjjnfbahmjcaaRun
namespace Go.Proofs.Ytekjjnfbahmjcaa
open Go.RowKit

set_option maxHeartbeats 1000000 in
theorem slide_in (g t cap R C : Nat) (f : Nat → Int) (r c c' n x : Int) (w : World) (hg : GridAt w g t cap R C f) (h1 : There R C r c) (h2 : There R C r c') (hle : idx C r c ≤ idx C r c') :
    Calls Try.prog 31 #[.pointer (some ⟨g, 0, none⟩), .int .i64 r, .int .i64 c, .int .i64 c', .int .i64 n, .int .i64 x] w fun e w' =>
      e = .returned (.int .i64 0) ∧ GridAt w' g t cap R C (moveF f (idx C r c) (idx C r c' + 1 - idx C r c) (bnd n ((idx C r c' + 1 - idx C r c : Nat) : Int)) x) ∧ Kept (· = t) w w' := by
  have hl1 := idx_lt h1
  have hl2 := idx_lt h2
  have hcap := hg.cap
  have hRC : R * C ≤ 65025 := Nat.mul_le_mul hg.R2 hg.C2
  have H1 := Lib.hid h1
  have H2 := Lib.hid h2
  clear h1 h2
  obtain ⟨L, hL⟩ : ∃ L, L = idx C r c' + 1 - idx C r c := ⟨_, rfl⟩
  obtain ⟨o, ho⟩ : ∃ o, o = idx C r c := ⟨_, rfl⟩
  obtain ⟨N, hN⟩ : ∃ N, N = R * C := ⟨_, rfl⟩
  have hrow := hg.row
  rw [← hN] at hl1 hl2 hcap hRC hrow
  have HN := Lib.hid hN
  clear hN
  go_enter Try.func31, Try.ntmps31
  go_wp2_with fail
  refine (stretch_yes g t cap R C f _ _ _ _ _ hg H1.out H2.out hle).mono ?_
  unfold runV
  rw [← hL, ← ho]
  rw [← ho] at hL hl1 hle
  have HL := Lib.hid hL
  have HO := Lib.hid ho
  have hL2 : o + L ≤ N := by omega
  have hL3 : L ≤ cap - o := by omega
  clear hL ho hl1 hl2 hle
  rintro e w1 ⟨rfl, hk1⟩
  go_wp2_with fail
  refine (bound_any _ _ _ (by omega) (by omega)).mono ?_
  rintro e w2 ⟨rfl, rfl⟩
  have hb1 : -(L : Int) ≤ bnd n L := by unfold bnd; omega
  have hb2 : bnd n L ≤ L := by unfold bnd; omega
  generalize hz : bnd n L = z at *
  have HZ := Lib.hid hz
  clear hz
  go_wp2_with fail
  refine (move_any t o L N _ _ _ f _ (hrow.kept hk1 (fun e => e)) hL2 (by omega) hL3 hb1 hb2).mono ?_
  rintro e w2 ⟨rfl, hI, hk2⟩
  go_wp2
  go_ret
  obtain rfl := HN.out
  have kt : Kept (· = t) w w2 := hk1.to.trans hk2
  refine ⟨rfl, hg.withRow kt ?_, kt⟩
  rw [← HO.out, ← HL.out]
  rw [HZ.out]
  exact hI

theorem slide_out (g R C : Nat) (r c c' n x : Int) (w : World) (c0 : w.cell? ⟨g, 0, none⟩ = some (.int .i64 R)) (c1 : w.cell? ⟨g, 1, none⟩ = some (.int .i64 C)) (h : ¬ There R C r c ∨ ¬ There R C r c') :
    Calls Try.prog 31 #[.pointer (some ⟨g, 0, none⟩), .int .i64 r, .int .i64 c, .int .i64 c', .int .i64 n, .int .i64 x] w fun e w' => e = .returned (.int .i64 11) ∧ Kept0 w w' := by
  have H := Lib.hid h
  clear h
  go_enter Try.func31, Try.ntmps31
  go_wp2_with fail
  refine (run_out g R C _ _ _ _ _ c0 c1 H.out).mono ?_
  rintro e w1 ⟨rfl, hk1⟩
  go_wp2_with fail
  go_ret
  exact ⟨rfl, hk1⟩

theorem slide_arg (g t cap R C : Nat) (f : Nat → Int) (r c c' n x : Int) (w : World) (hg : GridAt w g t cap R C f) (h1 : There R C r c) (h2 : There R C r c') (hle : idx C r c' < idx C r c) :
    Calls Try.prog 31 #[.pointer (some ⟨g, 0, none⟩), .int .i64 r, .int .i64 c, .int .i64 c', .int .i64 n, .int .i64 x] w fun e w' => e = .returned (.int .i64 1) ∧ Kept0 w w' := by
  have H1 := Lib.hid h1
  have H2 := Lib.hid h2
  clear h1 h2
  go_enter Try.func31, Try.ntmps31
  go_wp2_with fail
  refine (run_arg g t cap R C f _ _ _ _ _ hg H1.out H2.out hle).mono ?_
  rintro e w1 ⟨rfl, hk1⟩
  go_wp2_with fail
  go_ret
  exact ⟨rfl, hk1⟩

theorem slide_nil (r c c' n x : Int) (w : World) :
    Calls Try.prog 31 #[.pointer none, .int .i64 r, .int .i64 c, .int .i64 c', .int .i64 n, .int .i64 x] w fun e w' => e = .returned (.int .i64 2) ∧ Kept0 w w' := by
  go_enter Try.func31, Try.ntmps31
  go_wp2_with fail
  refine (run_nil _ _ _ _ _).mono ?_
  rintro e w1 ⟨rfl, hk1⟩
  go_wp2_with fail
  go_ret
  exact ⟨rfl, hk1⟩

set_option maxHeartbeats 1000000 in
theorem fill_in (g t cap R C : Nat) (f : Nat → Int) (r c r' c' x : Int) (w : World) (hg : GridAt w g t cap R C f) (h1 : There R C r c) (h2 : There R C r' c') (hle : idx C r c ≤ idx C r' c') :
    Calls Try.prog 30 #[.pointer (some ⟨g, 0, none⟩), .agg #[.int .i64 r, .int .i64 c], .agg #[.int .i64 r', .int .i64 c'], .int .i64 x] w fun e w' =>
      e = .returned (.int .i64 0) ∧ GridAt w' g t cap R C (fillF f (idx C r c) (idx C r' c' + 1 - idx C r c) x) ∧ Kept (· = t) w w' := by
  have hl1 := idx_lt h1
  have hl2 := idx_lt h2
  have hcap := hg.cap
  have hRC : R * C ≤ 65025 := Nat.mul_le_mul hg.R2 hg.C2
  have H1 := Lib.hid h1
  have H2 := Lib.hid h2
  clear h1 h2
  obtain ⟨N, hN⟩ : ∃ N, N = R * C := ⟨_, rfl⟩
  have hrow := hg.row
  rw [← hN] at hl1 hl2 hcap hRC hrow
  have HN := Lib.hid hN
  clear hN
  go_enter Try.func30, Try.ntmps30
  go_wp2_with fail
  have k0 : Kept0 w ((w.alloc (.cells #[.int .i64 r, .int .i64 c] 39)).alloc (.cells #[.int .i64 r', .int .i64 c'] 39)) := ((Kept.refl _ w).alloc _).alloc _
  refine (stretch_yes g t cap R C f _ _ _ _ _ (hg.kept k0 (fun e => e) (fun e => e)) H1.out H2.out hle).mono ?_
  unfold runV
  rintro e w1 ⟨rfl, hk1⟩
  go_wp2_with fail
  refine (paint_any t _ _ N _ _ f _ (hrow.kept (k0.trans hk1) (fun e => e)) (by omega) (by omega)).mono ?_
  rintro e w2 ⟨rfl, hI, hk2⟩
  go_wp2
  go_ret
  obtain rfl := HN.out
  have kt : Kept (· = t) w w2 := (Kept0.to (k0.trans hk1)).trans hk2
  exact ⟨rfl, hg.withRow kt hI, kt⟩

theorem fill_out (g R C : Nat) (r c r' c' x : Int) (w : World) (c0 : w.cell? ⟨g, 0, none⟩ = some (.int .i64 R)) (c1 : w.cell? ⟨g, 1, none⟩ = some (.int .i64 C)) (h : ¬ There R C r c ∨ ¬ There R C r' c') :
    Calls Try.prog 30 #[.pointer (some ⟨g, 0, none⟩), .agg #[.int .i64 r, .int .i64 c], .agg #[.int .i64 r', .int .i64 c'], .int .i64 x] w fun e w' => e = .returned (.int .i64 11) ∧ Kept0 w w' := by
  have H := Lib.hid h
  clear h
  go_enter Try.func30, Try.ntmps30
  go_wp2_with fail
  have k0 : Kept0 w ((w.alloc (.cells #[.int .i64 r, .int .i64 c] 39)).alloc (.cells #[.int .i64 r', .int .i64 c'] 39)) := ((Kept.refl _ w).alloc _).alloc _
  refine (run_out g R C _ _ _ _ _ (kcell k0 c0) (kcell k0 c1) H.out).mono ?_
  rintro e w1 ⟨rfl, hk1⟩
  go_wp2_with fail
  go_ret
  exact ⟨rfl, k0.trans hk1⟩

theorem fill_arg (g t cap R C : Nat) (f : Nat → Int) (r c r' c' x : Int) (w : World) (hg : GridAt w g t cap R C f) (h1 : There R C r c) (h2 : There R C r' c') (hle : idx C r' c' < idx C r c) :
    Calls Try.prog 30 #[.pointer (some ⟨g, 0, none⟩), .agg #[.int .i64 r, .int .i64 c], .agg #[.int .i64 r', .int .i64 c'], .int .i64 x] w fun e w' => e = .returned (.int .i64 1) ∧ Kept0 w w' := by
  have H1 := Lib.hid h1
  have H2 := Lib.hid h2
  clear h1 h2
  go_enter Try.func30, Try.ntmps30
  go_wp2_with fail
  have k0 : Kept0 w ((w.alloc (.cells #[.int .i64 r, .int .i64 c] 39)).alloc (.cells #[.int .i64 r', .int .i64 c'] 39)) := ((Kept.refl _ w).alloc _).alloc _
  refine (run_arg g t cap R C f _ _ _ _ _ (hg.kept k0 (fun e => e) (fun e => e)) H1.out H2.out hle).mono ?_
  rintro e w1 ⟨rfl, hk1⟩
  go_wp2_with fail
  go_ret
  exact ⟨rfl, k0.trans hk1⟩

theorem fill_nil (r c r' c' x : Int) (w : World) :
    Calls Try.prog 30 #[.pointer none, .agg #[.int .i64 r, .int .i64 c], .agg #[.int .i64 r', .int .i64 c'], .int .i64 x] w fun e w' => e = .returned (.int .i64 2) ∧ Kept0 w w' := by
  go_enter Try.func30, Try.ntmps30
  go_wp2_with fail
  have k0 : Kept0 w ((w.alloc (.cells #[.int .i64 r, .int .i64 c] 39)).alloc (.cells #[.int .i64 r', .int .i64 c'] 39)) := ((Kept.refl _ w).alloc _).alloc _
  refine (run_nil _ _ _ _ _).mono ?_
  rintro e w1 ⟨rfl, hk1⟩
  go_wp2_with fail
  go_ret
  exact ⟨rfl, k0.trans hk1⟩

theorem roll_nil (r r' n x : Int) (w : World) :
    Calls Try.prog 29 #[.pointer none, .int .i64 r, .int .i64 r', .int .i64 n, .int .i64 x] w fun e w' => e = .returned (.int .i64 2) ∧ Kept0 w w' := by
  have hfld : ∀ w, (Instr.field 23 (.agg #[.int .i64 0, .int .i64 0]) 1).run Try.prog w = .ok (.int .i64 0) w := fun _ => by kernel_rfl
  go_enter Try.func29, Try.ntmps29
  go_wp2_with fail
  refine (size_nil _).mono ?_
  rintro e w0 ⟨rfl, hk0⟩
  go_wp2_with fail
  refine (run_nil _ _ _ _ _).mono ?_
  rintro e w1 ⟨rfl, hk1⟩
  go_wp2_with fail
  go_ret
  exact ⟨rfl, hk0.trans hk1⟩

theorem roll_len {C : Nat} {r r' : Int} (h1 : 0 ≤ r) (hle : r ≤ r') (hC : 1 ≤ C) : idx C r' ((C : Int) - 1) + 1 - idx C r 0 = (r' - r + 1).toNat * C ∧ idx C r 0 = r.toNat * C ∧ idx C r 0 ≤ idx C r' ((C : Int) - 1) := by
  obtain ⟨a, rfl⟩ := Int.eq_ofNat_of_zero_le h1
  obtain ⟨b, rfl⟩ := Int.eq_ofNat_of_zero_le (show 0 ≤ r' by omega)
  obtain ⟨d, rfl⟩ : ∃ d, b = a + d := ⟨b - a, by omega⟩
  unfold idx
  have e1 : (((a + d : Nat) : Int) - (a : Int) + 1).toNat = d + 1 := by omega
  rw [e1]
  simp only [Int.toNat_natCast, Int.toNat_zero]
  rw [Nat.add_mul, Nat.add_mul]
  omega

end Go.Proofs.Ytekjjnfbahmjcaa
