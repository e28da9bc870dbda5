/-
  What the small calls of package grid do.
-/
import Derived.Test.YtkdnjkcebfckiaaProg
import Derived.Test.YtkdnjkcebfckiaaBase
import Derived.Deep.QuietTactic
import Derived.BigQuiet
namespace Go.Proofs.Ytkdnjkcebfckiaa
open Go.RowKit

theorem ret_int {k : IntKind} {a b : Int} (h : a = b) : Ending.returned (.int k a) = .returned (.int k b) := by rw [h]
theorem w64 {n : Int} (h1 : -9223372036854775808 ≤ n) (h2 : n ≤ 9223372036854775807) : wrap64 n = n := by
  have := IntWalk.i64_in n ⟨h1, h2⟩
  simpa [IntKind.wrap_i64, wrap64] using this

/-- The number nearest to n that is from -m to m. -/
def bnd (n m : Int) : Int := max (-m) (min n m)

set_option maxHeartbeats 400000 in
theorem bound_any (n m : Int) (w : World) (h0 : 0 ≤ m) (h1 : m ≤ 70000) :
    Calls Try.prog 67 #[.int .i64 n, .int .i64 m] w fun e w' => e = .returned (.int .i64 (bnd n m)) ∧ w = w' := by
  go_enter Try.func67, Try.ntmps67
  go_wp2
  all_goals
    go_ret
    exact ⟨ret_int (by unfold bnd; omega), rfl⟩

set_option maxHeartbeats 400000 in
theorem index_at (g : Nat) (r c : Int) (C : Nat) (w : World) (hC : w.cell? ⟨g, 1, none⟩ = some (.int .i64 C)) (hr0 : 0 ≤ r) (hr1 : r ≤ 255) (hc0 : 0 ≤ c) (hc1 : c ≤ 255) (hC1 : C ≤ 255) :
    Calls Try.prog 51 #[.pointer (some ⟨g, 0, none⟩), .agg #[.int .i64 r, .int .i64 c]] w fun e w' => e = .returned (.int .i64 (idx C r c : Int)) ∧ ∃ n, w' = (w.alloc (.cells #[.int .i64 r, .int .i64 c] 26)).drewN n := by
  have hg := World.block_lt_of_cell? w _ hC
  go_enter Try.func51, Try.ntmps51
  go_wp2
  go_quiet (fail)
  go_wp2
  go_ret
  refine ⟨ret_int ?_, _, rfl⟩
  obtain ⟨a, rfl⟩ := Int.eq_ofNat_of_zero_le hr0
  obtain ⟨b, rfl⟩ := Int.eq_ofNat_of_zero_le hc0
  have hm : a * C ≤ 255 * 255 := Nat.mul_le_mul (by omega) (by omega)
  have hm0 : (a : Int) * (C : Int) = ((a * C : Nat) : Int) := by simp
  have e1 : wrap64 ((a : Int) * (C : Int)) = ((a * C : Nat) : Int) := by rw [hm0]; exact w64 (by omega) (by omega)
  show wrap64 (wrap64 ((a : Int) * (C : Int)) + (b : Int)) = _
  rw [e1, w64 (by omega) (by omega)]
  simp [idx]

theorem index_any (g : Nat) (r c : Int) (C : Nat) (w : World) (hC : w.cell? ⟨g, 1, none⟩ = some (.int .i64 C)) (hr0 : 0 ≤ r) (hr1 : r ≤ 255) (hc0 : 0 ≤ c) (hc1 : c ≤ 255) (hC1 : C ≤ 255) :
    Calls Try.prog 51 #[.pointer (some ⟨g, 0, none⟩), .agg #[.int .i64 r, .int .i64 c]] w fun e w' => e = .returned (.int .i64 (idx C r c : Int)) ∧ Kept0 w w' :=
  (index_at g r c C w hC hr0 hr1 hc0 hc1 hC1).mono fun _ _ ⟨h1, n, h2⟩ => ⟨h1, h2 ▸ ((Kept.refl _ w).alloc _).drewN n⟩

set_option maxHeartbeats 400000 in
theorem check_in (g : Nat) (r c : Int) (R C : Nat) (w : World) (hR : w.cell? ⟨g, 0, none⟩ = some (.int .i64 R)) (hC : w.cell? ⟨g, 1, none⟩ = some (.int .i64 C)) (hr0 : 0 ≤ r) (hr1 : r < R) (hc0 : 0 ≤ c) (hc1 : c < C) :
    Calls Try.prog 50 #[.pointer (some ⟨g, 0, none⟩), .agg #[.int .i64 r, .int .i64 c]] w fun e w' => e = .returned (.int .i64 0) ∧ Kept0 w w' := by
  have hg := World.block_lt_of_cell? w _ hC
  have d1 : decide (r < 0) = false := by simpa using hr0
  have d2 : decide ((R : Int) ≤ r) = false := by simpa using hr1
  have d3 : decide (c < 0) = false := by simpa using hc0
  have d4 : decide ((C : Int) ≤ c) = false := by simpa using hc1
  go_enter Try.func50, Try.ntmps50
  go_wp2
  go_quiet (fail)
  go_wp2
  go_ret
  exact ⟨rfl, ((Kept.refl _ w).alloc _).drewN _⟩

set_option maxHeartbeats 400000 in
theorem check_out (g : Nat) (r c : Int) (R C : Nat) (w : World) (hR : w.cell? ⟨g, 0, none⟩ = some (.int .i64 R)) (hC : w.cell? ⟨g, 1, none⟩ = some (.int .i64 C)) (h : ¬ (0 ≤ r ∧ r < R ∧ 0 ≤ c ∧ c < C)) :
    Calls Try.prog 50 #[.pointer (some ⟨g, 0, none⟩), .agg #[.int .i64 r, .int .i64 c]] w fun e w' => e = .returned (.int .i64 11) ∧ Kept0 w w' := by
  have hg := World.block_lt_of_cell? w _ hC
  by_cases h1 : r < 0
  · clear h
    go_enter Try.func50, Try.ntmps50
    go_wp2
    go_quiet (fail)
    go_wp2
    go_ret
    exact ⟨rfl, ((Kept.refl _ w).alloc _).drewN _⟩
  have d1 : decide (r < 0) = false := by simpa using h1
  by_cases h2 : (R : Int) ≤ r
  · clear h
    go_enter Try.func50, Try.ntmps50
    go_wp2
    go_quiet (fail)
    go_wp2
    go_ret
    exact ⟨rfl, ((Kept.refl _ w).alloc _).drewN _⟩
  have d2 : decide ((R : Int) ≤ r) = false := by simpa using h2
  by_cases h3 : c < 0
  · clear h
    go_enter Try.func50, Try.ntmps50
    go_wp2
    go_quiet (fail)
    go_wp2
    go_ret
    exact ⟨rfl, ((Kept.refl _ w).alloc _).drewN _⟩
  have d3 : decide (c < 0) = false := by simpa using h3
  have h4 : (C : Int) ≤ c := by omega
  clear h
  go_enter Try.func50, Try.ntmps50
  go_wp2
  go_quiet (fail)
  go_wp2
  go_ret
  exact ⟨rfl, ((Kept.refl _ w).alloc _).drewN _⟩

theorem check_nil (r c : Int) (w : World) :
    Calls Try.prog 50 #[.pointer none, .agg #[.int .i64 r, .int .i64 c]] w fun e w' => e = .returned (.int .i64 2) ∧ Kept0 w w' := by
  go_enter Try.func50, Try.ntmps50
  go_wp2
  go_ret
  exact ⟨rfl, ((Kept.refl _ w).alloc _)⟩

/-- What is wrong with a size. -/
def mayE (r c : Int) : Int := if 1 ≤ r ∧ r ≤ 255 ∧ 1 ≤ c ∧ c ≤ 255 then 0 else 10
theorem mayE_yes {r c : Int} (h : 1 ≤ r ∧ r ≤ 255 ∧ 1 ≤ c ∧ c ≤ 255) : mayE r c = 0 := if_pos h
theorem mayE_no {r c : Int} (h : ¬ (1 ≤ r ∧ r ≤ 255 ∧ 1 ≤ c ∧ c ≤ 255)) : mayE r c = 10 := if_neg h

set_option maxHeartbeats 400000 in
theorem may_any (r c : Int) (w : World) :
    Calls Try.prog 53 #[.agg #[.int .i64 r, .int .i64 c]] w fun e w' => e = .returned (.int .i64 (mayE r c)) ∧ Kept0 w w' := by
  go_enter Try.func53, Try.ntmps53
  go_wp2
  all_goals
    go_ret
    refine ⟨ret_int ?_, ((Kept.refl _ w).alloc _)⟩
    first | exact (mayE_yes (by omega)).symm | exact (mayE_no (by omega)).symm

theorem size_nil (w : World) :
    Calls Try.prog 30 #[.pointer none] w fun e w' => e = .returned (.agg #[.int .i64 0, .int .i64 0]) ∧ Kept0 w w' := by
  go_enter Try.func30, Try.ntmps30
  go_wp2
  exact bodyPost_ret (v := .agg #[.int .i64 0, .int .i64 0]) (by simp [results, Try.results30, go_sem]) rfl ⟨rfl, ((Kept.refl _ w).alloc _)⟩

theorem size_any (g : Nat) (R C : Int) (w : World) (hR : w.cell? ⟨g, 0, none⟩ = some (.int .i64 R)) (hC : w.cell? ⟨g, 1, none⟩ = some (.int .i64 C)) :
    Calls Try.prog 30 #[.pointer (some ⟨g, 0, none⟩)] w fun e w' => e = .returned (.agg #[.int .i64 R, .int .i64 C]) ∧ Kept0 w w' := by
  have hg := World.block_lt_of_cell? w _ hC
  go_enter Try.func30, Try.ntmps30
  go_wp2
  exact bodyPost_ret (v := .agg #[.int .i64 R, .int .i64 C]) (by simp [results, Try.results30, go_sem]) rfl ⟨rfl, ((Kept.refl _ w).alloc _)⟩

theorem cel_new (w : World) (x : Cel) (t : TypeId) : (w.alloc (.cells #[.int .i32 x.g, .int .i64 x.a, .bool x.b, .int .i64 x.m] t)).cell? ⟨w.heap.size, 0, none⟩ = some (.int .i32 x.g) ∧ (w.alloc (.cells #[.int .i32 x.g, .int .i64 x.a, .bool x.b, .int .i64 x.m] t)).cell? ⟨w.heap.size, 1, none⟩ = some (.int .i64 x.a) ∧ (w.alloc (.cells #[.int .i32 x.g, .int .i64 x.a, .bool x.b, .int .i64 x.m] t)).cell? ⟨w.heap.size, 2, none⟩ = some (.bool x.b) ∧ (w.alloc (.cells #[.int .i32 x.g, .int .i64 x.a, .bool x.b, .int .i64 x.m] t)).cell? ⟨w.heap.size, 3, none⟩ = some (.int .i64 x.m) := by
  simp [go_sem]

set_option maxHeartbeats 400000 in
theorem paint_any (t o n N cap : Nat) (x : Cel) (f : Nat → Cel) (w : World) (hrow : CellsAt w t N f) (ho : o + n ≤ N) (hN : N ≤ 70000) :
    Calls Try.prog 54 #[.slice (some ⟨t, o * 4, none⟩) n cap, (.agg #[.int .i32 x.g, .int .i64 x.a, .bool x.b, .int .i64 x.m])] w fun e w' => e = .returned (.tuple #[]) ∧ CellsAt w' t N (fillF f o n x) ∧ Kept (· = t) w w' := by
  have htl := hrow.lt
  have hb1 : ¬ w.heap.size = t := by omega
  go_enter Try.func54, Try.ntmps54
  go_wp2
  go_loopw [7] (fun i wr => ∃ k : Nat, k ≤ n ∧ i = .int .i64 k ∧ CellsAt wr t N (fillF f o k x) ∧ Kept (· = t) (w.alloc (.cells #[.int .i32 x.g, .int .i64 x.a, .bool x.b, .int .i64 x.m] 36)) wr) (fun i _ => n - (intOf i).toNat)
  case atStart => exact ⟨0, by omega, rfl, (hrow.alloc _).congr (fun k _ => by simp [fillF]; omega), Kept.refl _ _⟩
  case round =>
    obtain ⟨k, hk, rfl, hr, hkp⟩ := hrel
    by_cases hlt : k < n
    · obtain ⟨c0, c1, c2, c3⟩ := hr.cell (k := o + k) (by omega)
      have f0 := hr.frozen ((o + k) * 4)
      have f1 := hr.frozen ((o + k) * 4 + 1)
      have f2 := hr.frozen ((o + k) * 4 + 2)
      have f3 := hr.frozen ((o + k) * 4 + 3)
      rw [Nat.add_mul] at c0 c1 c2 c3 f0 f1 f2 f3
      obtain ⟨n0, n1, n2, n3⟩ := cel_new w x 36
      replace n0 := (hkp.cell (by simp) hb1).trans n0
      replace n1 := (hkp.cell (by simp) hb1).trans n1
      replace n2 := (hkp.cell (by simp) hb1).trans n2
      replace n3 := (hkp.cell (by simp) hb1).trans n3
      go_wp2
      go_roundw
      case rel => 
        rw [← Nat.add_mul]
        exact ⟨k + 1, by omega, by go_num, (hr.set (o + k) x).congr (fun j _ => by unfold upd fillF; grind), hkp.setCel _ _ (Or.inr rfl) _⟩
      case measure => simp [intOf]; omega
    · go_wp2
      go_end0
      obtain rfl : k = n := by omega
      exact ⟨rfl, hr, ((Kept.refl _ w).alloc _).later hkp (fun _ _ e => e)⟩

end Go.Proofs.Ytkdnjkcebfckiaa
