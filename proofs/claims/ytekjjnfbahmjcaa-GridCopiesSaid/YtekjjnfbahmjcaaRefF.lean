/-
  The answer of the document: Resize.
-/
import Derived.Test.YtekjjnfbahmjcaaRefE
namespace Go.Proofs.Ytekjjnfbahmjcaa
open Go.RowKit

/-- What a grid of another size has, when the rows ahead of a, and of a the columns ahead of b, have been put. -/
def resP (f : Nat → Int) (R C C' : Nat) (x : Int) (a b : Nat) : Nat → Int := fun j =>
  if rowOf C' j < R ∧ colOf C' j < C ∧ (rowOf C' j < a ∨ rowOf C' j = a ∧ colOf C' j < b) then f (rowOf C' j * C + colOf C' j) else x

theorem resP_step {f : Nat → Int} {R C C' : Nat} {x : Int} {a b : Nat} (ha : a < R) (hb : b < C) (hb' : b < C') (j : Nat) :
    upd (resP f R C C' x a b) (a * C' + b) (f (a * C + b)) j = resP f R C C' x a (b + 1) j := by
  unfold upd
  by_cases e : j = a * C' + b
  · obtain ⟨e1, e2⟩ := idx_unique hb' e.symm
    rw [if_pos e]
    unfold resP
    rw [← e1, ← e2, if_pos ⟨ha, hb, Or.inr ⟨rfl, by omega⟩⟩]
  · rw [if_neg e]
    have hne : ¬ (rowOf C' j = a ∧ colOf C' j = b) := fun h => e (by rw [← h.1, ← h.2]; exact row_col_eq.symm)
    unfold resP
    by_cases c : rowOf C' j < R ∧ colOf C' j < C ∧ (rowOf C' j < a ∨ rowOf C' j = a ∧ colOf C' j < b)
    · rw [if_pos c, if_pos ⟨c.1, c.2.1, by omega⟩]
    · rw [if_neg c, if_neg (by omega)]

theorem resP_row {f : Nat → Int} {R C C' : Nat} {x : Int} {a b : Nat} (h : C ≤ b ∨ C' ≤ b) (hC' : 1 ≤ C') (j : Nat) : resP f R C C' x a b j = resP f R C C' x (a + 1) 0 j := by
  have h2 := colOf_lt (k := j) hC'
  unfold resP
  by_cases c : rowOf C' j < R ∧ colOf C' j < C ∧ (rowOf C' j < a ∨ rowOf C' j = a ∧ colOf C' j < b)
  · rw [if_pos c, if_pos ⟨c.1, c.2.1, by omega⟩]
  · rw [if_neg c, if_neg (by omega)]

theorem resP_end {f : Nat → Int} {R C R' C' : Nat} {x : Int} {a : Nat} (h : R' ≤ a ∨ R ≤ a) (j : Nat) (hj : j < R' * C') : resP f R C C' x a 0 j = resF f R C C' x (R * C) j := by
  have h1 := rowOf_lt hj
  unfold resP resF
  by_cases c : rowOf C' j < R ∧ colOf C' j < C
  · have := place_lt c.1 c.2
    rw [if_pos ⟨c.1, c.2, by omega⟩, if_pos ⟨c.1, c.2, this⟩]
  · rw [if_neg (fun h => c ⟨h.1, h.2.1⟩), if_neg (fun h => c ⟨h.1, h.2.1⟩)]

set_option maxHeartbeats 2000000 in
theorem resizeR (g t cap R C R' C' : Nat) (f : Nat → Int) (x : Int) (w : World) (hg : RefAt w g t cap R C f) (h1 : 1 ≤ R') (h2 : R' ≤ 255) (h3 : 1 ≤ C') (h4 : C' ≤ 255) :
    Calls Try.prog 39 #[.pointer (some ⟨g, 0, none⟩), .int .i64 R', .int .i64 C', .int .i64 x] w fun e w' =>
      ∃ g' t' cap', e = .returned (.pointer (some ⟨g', 0, none⟩)) ∧ w.heap.size ≤ g' ∧ w.heap.size ≤ t' ∧ RefAt w' g' t' cap' R' C' (resF f R C C' x (R * C)) ∧ Kept0 w w' := by
  have hgl := hg.lt
  have htl := hg.row.lt
  have hR2 := hg.R2
  have hC2 := hg.C2
  have hC1 := hg.C1
  go_enter Try.func39, Try.ntmps39
  go_wp2_with fail
  refine (newR R' C' x _ h1 h2 h3 h4).mono ?_
  rintro e w1 ⟨g1, t1, cap1, rfl, hg1, ht1, hN1, hk1⟩
  go_wp2_with fail
  go_loopw [10, 11] (fun i s11 wr => ∃ a : Nat, a ≤ R' ∧ i = .int .i64 (a : Int) ∧ RefAt wr g1 t1 cap1 R' C' (resP f R C C' x a 0) ∧ RefAt wr g t cap R C f ∧ Kept0 w wr) (fun i _ _ => R' - (intOf i).toNat)
  case atStart => exact ⟨0, by omega, rfl, hN1.congr (fun k _ => by simp [resP]), hg.kept hk1 (fun e => e) (fun e => e), hk1⟩
  case round =>
    obtain ⟨a, ha, rfl, hr, hold, hkp⟩ := hrel
    have c0 := hold.c0
    by_cases hlt : a < R'
    · have d1 : decide (a < R') = true := by simpa using hlt
      by_cases hlt2 : a < R
      · have d2 : decide (a < R) = true := by simpa using hlt2
        go_wp2_with fail
        go_loopw [11] (fun i wq => ∃ b : Nat, b ≤ C' ∧ i = .int .i64 (b : Int) ∧ RefAt wq g1 t1 cap1 R' C' (resP f R C C' x a b) ∧ RefAt wq g t cap R C f ∧ Kept0 w wq) (fun i _ => C' - (intOf i).toNat)
        case atStart => exact ⟨0, by omega, rfl, hr, hold, hkp⟩
        case round =>
          obtain ⟨b, hb, rfl, hq, holdq, hkq⟩ := hrel
          have c1 := holdq.c1
          clear hr hold hkp c0
          by_cases hlt3 : b < C'
          · have d3 : decide (b < C') = true := by simpa using hlt3
            by_cases hlt4 : b < C
            · have d4 : decide (b < C) = true := by simpa using hlt4
              have HI : Hid (idx C (a : Int) (b : Int) = a * C + b) := by simp [Hid, idx]
              have HI' : Hid (idx C' (a : Int) (b : Int) = a * C' + b) := by simp [Hid, idx]
              go_wp2_with fail
              refine (getR g t cap R C f _ _ _ holdq ⟨by omega, by omega, by omega, by omega⟩).mono ?_
              rintro e9 w3 ⟨rfl, hk3⟩
              replace hq := hq.kept hk3 (fun e => e) (fun e => e)
              replace holdq := holdq.kept hk3 (fun e => e) (fun e => e)
              replace hkq := hkq.trans hk3
              clear hk3 c1
              go_wp2_with fail
              refine (setR_in g1 t1 cap1 R' C' _ _ _ _ _ hq ⟨by omega, by omega, by omega, by omega⟩).mono ?_
              rintro e9 w4 ⟨rfl, hr4, hk4⟩
              have hold4 := holdq.kept hk4 (by omega) (by omega)
              go_wp2_with fail
              go_roundw
              case rel =>
                have hfin : RefAt w4 g1 t1 cap1 R' C' (resP f R C C' x a (b + 1)) := hr4.congr (fun j _ => by
                  rw [HI.out, HI'.out]
                  exact resP_step hlt2 hlt4 hlt3 j)
                exact ⟨b + 1, by omega, by go_num, hfin, hold4, hkq.later hk4 (fun i hi e => by omega)⟩
              case measure => simp [intOf]; omega
            · have d4 : decide (b < C) = false := by simpa using hlt4
              go_wp2_with fail
              go_roundw
              case rel => exact ⟨a + 1, by omega, by go_num, hq.congr (fun j _ => resP_row (Or.inl (by omega)) h3 j), holdq, hkq⟩
              case measure => simp [intOf]; omega
          · have d3 : decide (b < C') = false := by simpa using hlt3
            go_wp2_with fail
            go_roundw
            case rel => exact ⟨a + 1, by omega, by go_num, hq.congr (fun j _ => resP_row (Or.inr (by omega)) h3 j), holdq, hkq⟩
            case measure => simp [intOf]; omega
      · have d2 : decide (a < R) = false := by simpa using hlt2
        go_wp2_with fail
        go_ret
        exact ⟨g1, t1, cap1, rfl, hg1, ht1, hr.congr (fun j hj => resP_end (Or.inr (by omega)) j hj), hkp⟩
    · have d1 : decide (a < R') = false := by simpa using hlt
      go_wp2_with fail
      go_ret
      exact ⟨g1, t1, cap1, rfl, hg1, ht1, hr.congr (fun j hj => resP_end (Or.inl (by omega)) j hj), hkp⟩
end Go.Proofs.Ytekjjnfbahmjcaa
