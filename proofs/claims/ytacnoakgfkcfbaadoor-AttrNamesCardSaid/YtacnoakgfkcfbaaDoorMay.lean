/-
  What May answers, the code's and the document's.
-/
import Derived.Test.YtacnoakgfkcfbaaDoorTab
import Derived.Laws.Rows
import Derived.Laws.Tables
import Derived.Deep.DeepCutAuto
namespace Go.Proofs.YtacnoakgfkcfbaaDoor
open Go.RowKit

theorem take_any (b : Nat) (m r : Int) (w : World) (hc : w.cell? ⟨b, 0, none⟩ = some (.int .i64 r)) (hf : w.frozen? ⟨b, 0, none⟩ = false) :
    Calls Tryd.prog 24 #[.int .i64 m, .pointer (some ⟨b, 0, none⟩)] w fun e w' => (∃ v, e = .returned v) ∧ w' = w.setCell ⟨b, 0, none⟩ (.int .i64 (bits .andNot .i64 r m)) := by
  go_enter Tryd.func24, Tryd.ntmps24
  go_wp2_with fail
  go_end0
  exact ⟨⟨_, rfl⟩, rfl⟩

/-- What May answers. -/
def mayE (a : Int) : Int := if mayB a then 0 else 1

set_option maxRecDepth 100000 in
set_option maxHeartbeats 4000000 in
theorem may_any (a : Int) (h0 : -9223372036854775808 ≤ a) (h1 : a ≤ 9223372036854775807) (w : World) (hw : WordsAt w) :
    Calls Tryd.prog 9 #[.int .i64 a] w fun e w' => e = .returned (.int .i64 (mayE a)) ∧ Kept0 w w' := by
  have hmf : ∀ (fn : Fn) (first cap : Array Value) (w : World), (Instr.makeFunc fn first cap).run Tryd.prog w = .ok (.func fn first cap) w := fun _ _ _ _ => rfl
  have hwl := hw.lt
  have hm := may_rest h0 h1
  go_enter Tryd.func9, Tryd.ntmps9
  go_upto_region 3 with fail
  obtain ⟨t, ht⟩ := hw.kept ((Kept.refl _ w).alloc (.cells #[.int .i64 a] 3))
  go_wp2_with (refine wpList_load_row rfl 49 _ rfl 0 rfl t wcells _ _ ht Tryd.underlying49 rfl info49 ?_)
  have hh1 : (w.alloc (.cells #[.int .i64 a] 3)).heap[w.heap.size]? = some (.cells #[.int .i64 a] 3 (0, 0)) := heap_new w _
  obtain ⟨w1, hw1⟩ : ∃ w1, w1 = w.alloc (.cells #[.int .i64 a] 3) := ⟨_, rfl⟩
  have hk1 : Kept0 w w1 := by rw [hw1]; exact (Kept.refl _ w).alloc _
  have hs1 : w1.heap.size = w.heap.size + 1 := by rw [hw1]; simp
  rw [← hw1] at hh1 ht ⊢
  clear hw1
  go_loopw [10] (fun s10 wr => ∃ k : Nat, k ≤ 8 ∧ s10 = .int .i64 (k : Int) ∧ wr.cell? ⟨w.heap.size, 0, none⟩ = some (.int .i64 (restF a k)) ∧ wr.frozen? ⟨w.heap.size, 0, none⟩ = false ∧ Kept0 w wr ∧ w.heap.size < wr.heap.size) (fun s10 _ => 8 - (intOf s10).toNat)
  case atStart => exact ⟨0, by omega, rfl, by simp [World.cell?, hh1, restF], by simp [World.frozen?, hh1], hk1, by omega⟩
  case round =>
    obtain ⟨k, hk, rfl, hc, hf, hkr, hsr⟩ := hrel
    by_cases hlt : k < 8
    · have hix := word_index hlt
      unfold wcell at hix
      have hb1 := bitOf_lt k
      have hu1 := unitOf_le k
      by_cases hz : bits .and .i64 a (bitOf k : Int) = 0
      · have hz2 : (bits .and .i64 a (bitOf k : Int) == 0) = true := by simpa using hz
        go_wp2_with fail
        go_roundw
        case rel =>
          refine ⟨k + 1, by omega, by go_num, ?_, ?_, hkr.alloc _, by simp; omega⟩
          · rw [show restF a (k + 1) = restF a k by simp only [restF, hz2, if_true]]
            simp [go_sem, hc, hsr]
          · simp [go_sem, hf, hsr]
        case measure => simp [intOf]; omega
      · have hz2 : (bits .and .i64 a (bitOf k : Int) == 0) = false := by simpa using hz
        go_wp2_with fail
        obtain ⟨w2, hw2⟩ : ∃ w2, w2 = wr.alloc (.cells #[.string ⟨(nameOf k).toArray⟩, .int .i64 (bitOf k : Int), .int .i64 (unitOf k : Int)] 48) := ⟨_, rfl⟩
        have hc2 : w2.cell? ⟨w.heap.size, 0, none⟩ = some (.int .i64 (restF a k)) := by rw [hw2]; simp [go_sem, hc, hsr]
        have hf2 : w2.frozen? ⟨w.heap.size, 0, none⟩ = false := by rw [hw2]; simp [go_sem, hf, hsr]
        have hk2 : Kept0 w w2 := by rw [hw2]; exact hkr.alloc _
        have hs2 : w.heap.size < w2.heap.size := by rw [hw2]; simp; omega
        rw [← hw2]
        clear hw2
        refine (take_any _ _ _ _ hc2 hf2).mono ?_
        rintro e w3 ⟨⟨v, rfl⟩, rfl⟩
        go_wp2_with fail
        go_roundw
        case rel =>
          refine ⟨k + 1, by omega, by go_num, ?_, ?_, hk2.setCell _ (Or.inl (by simp)) _, by simpa [World.setCell] using hs2⟩
          · rw [show restF a (k + 1) = bits .andNot .i64 (restF a k) (bits .or .i64 (bitOf k : Int) (7 * (unitOf k : Int))) by simp only [restF, hz2]; simp]
            simp [go_sem, hc2]
          · simp [go_sem, hf2]
        case measure => simp [intOf]; omega
    · obtain rfl : k = 8 := by omega
      have hme : mayE a = if (restF a 8 == 0) then 0 else 1 := by unfold mayE; rw [hm]
      clear hm
      by_cases hr : restF a 8 = 0
      · rw [hr] at hc
        have HM := Lib.hid hme
        clear hme
        go_wp2_with fail
        go_ret
        exact ⟨by rw [HM.out, hr]; rfl, hkr⟩
      · have hr2 : (restF a 8 == 0) = false := by simpa using hr
        have HM := Lib.hid hme
        clear hme
        go_wp2_with fail
        go_ret
        exact ⟨by rw [HM.out, hr2]; rfl, hkr⟩

/-- Has a number a bit? -/
def bitN (n b : Nat) : Bool := n / b % 2 == 1

theorem bit_int (a b : Int) (h0 : 0 ≤ a) (h1 : a ≤ 9223372036854775807) (hb : 0 < b) (hb1 : b ≤ 16384) (w : World) :
    Calls Tryd.prog 23 #[.int .i64 a, .int .i64 b] w fun e w' => e = .returned (.bool ((a / b).tmod 2 == 1)) ∧ w' = w := by
  go_enter Tryd.func23, Tryd.ntmps23
  go_wp2_with fail
  go_ret
  exact ⟨rfl, rfl⟩
theorem bit_any (n b : Nat) (h1 : n ≤ 9223372036854775807) (hb : 0 < b) (hb1 : b ≤ 16384) (w : World) :
    Calls Tryd.prog 23 #[.int .i64 (n : Int), .int .i64 (b : Int)] w fun e w' => e = .returned (.bool (bitN n b)) ∧ w' = w := by
  have e : (((n : Int) / (b : Int)).tmod 2 == 1) = bitN n b := by
    unfold bitN
    rw [← Int.natCast_ediv, Int.tmod_eq_emod_of_nonneg (Int.natCast_nonneg _)]
    by_cases h : n / b % 2 = 1
    · have h2 : ((n / b : Nat) : Int) % 2 = 1 := by omega
      rw [h, h2]; rfl
    · have h2 : ¬ ((n / b : Nat) : Int) % 2 = 1 := by omega
      rw [beq_eq_false_iff_ne.2 h2, beq_eq_false_iff_ne.2 h]
  have := bit_int n b (by omega) (by omega) (by omega) (by omega) w
  rw [e] at this
  exact this

theorem mayB_nat (n : Nat) : mayB (n : Int) = mayN n := by simp [mayB]
theorem mayN_eq (n : Nat) : mayN n = (decide (n < 16384) && !(bitN n 128) && (bitN n 64 || decide (n < 64))) := rfl

set_option maxRecDepth 100000 in
set_option maxHeartbeats 1000000 in
theorem refMay_any (a : Int) (h1 : a ≤ 9223372036854775807) (w : World) : Calls Tryd.prog 8 #[.int .i64 a] w fun e w' => e = .returned (.bool (mayB a)) ∧ w' = w := by
  by_cases h0 : 0 ≤ a
  · obtain ⟨n, rfl⟩ := Int.eq_ofNat_of_zero_le h0
    have h128 := Lib.hid (fun w => bit_any n 128 (by omega) (by omega) (by omega) w)
    have h64 := Lib.hid (fun w => bit_any n 64 (by omega) (by omega) (by omega) w)
    rw [mayB_nat, mayN_eq]
    by_cases h2 : n < 16384
    · have e2 : decide (n < 16384) = true := by simpa using h2
      rw [e2]
      cases h5 : bitN n 128
      · rw [h5] at h128
        cases h6 : bitN n 64
        · rw [h6] at h64
          by_cases h3 : n < 64
          · have e3 : decide (n < 64) = true := by simpa using h3
            have e4 : decide ((n : Int) < 64) = true := by simp; omega
            rw [e3]
            clear h3 e3
            go_enter Tryd.func8, Tryd.ntmps8
            go_wp2_with fail
            refine (h128.out _).mono ?_
            rintro e w1 ⟨rfl, rfl⟩
            go_wp2_with fail
            refine (h64.out _).mono ?_
            rintro e w1 ⟨rfl, rfl⟩
            go_wp2_with fail
            go_ret
            exact ⟨rfl, rfl⟩
          · have e3 : decide (n < 64) = false := by simpa using h3
            have e4 : decide ((n : Int) < 64) = false := by simp; omega
            rw [e3]
            clear h3 e3
            go_enter Tryd.func8, Tryd.ntmps8
            go_wp2_with fail
            refine (h128.out _).mono ?_
            rintro e w1 ⟨rfl, rfl⟩
            go_wp2_with fail
            refine (h64.out _).mono ?_
            rintro e w1 ⟨rfl, rfl⟩
            go_wp2_with fail
            go_ret
            exact ⟨rfl, rfl⟩
        · rw [h6] at h64
          go_enter Tryd.func8, Tryd.ntmps8
          go_wp2_with fail
          refine (h128.out _).mono ?_
          rintro e w1 ⟨rfl, rfl⟩
          go_wp2_with fail
          refine (h64.out _).mono ?_
          rintro e w1 ⟨rfl, rfl⟩
          go_wp2_with fail
          go_ret
          exact ⟨rfl, rfl⟩
      · rw [h5] at h128
        go_enter Tryd.func8, Tryd.ntmps8
        go_wp2_with fail
        refine (h128.out _).mono ?_
        rintro e w1 ⟨rfl, rfl⟩
        go_wp2_with fail
        go_ret
        exact ⟨rfl, rfl⟩
    · have e2 : decide (n < 16384) = false := by simpa using h2
      rw [e2]
      go_enter Tryd.func8, Tryd.ntmps8
      go_wp2_with fail
      go_ret
      exact ⟨rfl, rfl⟩
  · have e : mayB a = false := by simp [mayB, h0]
    rw [e]
    go_enter Tryd.func8, Tryd.ntmps8
    go_wp2_with fail
    go_ret
    exact ⟨rfl, rfl⟩

#print axioms may_any
#print axioms refMay_any
end Go.Proofs.YtacnoakgfkcfbaaDoor
