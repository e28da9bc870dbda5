/-
  What Next, Prev and Go answer.
-/
import Derived.Test.YtkfphgcbpphbnaaLeaf
namespace Go.Proofs.Ytkfphgcbpphbnaa
open Go.RowKit Go.Maps Go.ChangeMaps Go.MapKept

theorem if_yes {f : Nat → Bool} {k : Nat} {p : Prop} [Decidable p] {a b : Int} (hf : f k = true) (hp : p) : (if f k = true ∧ p then a else b) = a := if_pos ⟨hf, hp⟩

set_option maxHeartbeats 1000000 in
theorem next_any (t m N : Nat) (f : Nat → Bool) (c : Int) (w : World) (h : TabsAt w t m N f) :
    Calls Try.prog 21 #[.pointer (some ⟨t, 0, none⟩), .int .i64 c] w fun e w' => e = .returned (.int .i64 (nextN N f c)) ∧ Kept0 w w' := by
  have c0 := h.c0
  have h1 := h.N1
  have h2 := h.N2
  go_enter Try.func21, Try.ntmps21
  go_wp2_with fail
  go_loopw [12] (fun i wr => ∃ k : Nat, k ≤ N ∧ i = .int .i64 (k : Int) ∧ nextN N f c = nextRem N f c (N - k) ∧ Kept0 w wr) (fun i _ => N - (num i).toNat)
  case atStart => exact ⟨0, by omega, rfl, rfl, Kept.refl _ _⟩
  case round =>
    obtain ⟨k, hk, rfl, hp, hkr⟩ := hrel
    have c0' := kcell hkr c0
    by_cases hlt : k < N
    · have HS := Lib.hid (nextRem_step N f c k hlt)
      have HP := Lib.hid hp
      clear hp
      by_cases hg : c < (k : Int)
      · have HT := Lib.hid (h.kept0 hkr)
        cases hf : f k with
        | true =>
          have HF := Lib.hid hf
          clear hf
          go_wp2_with fail
          refine (stopsAt_any t m N f k _ HT.out hlt).mono ?_
          rw [HF.out]
          rintro e w1 ⟨rfl, hk1⟩
          go_wp2_with fail
          go_ret
          exact ⟨ret_int (by rw [HP.out, HS.out, if_pos ⟨HF.out, hg⟩]), hkr.trans hk1⟩
        | false =>
          have HF := Lib.hid hf
          clear hf
          go_wp2_with fail
          refine (stopsAt_any t m N f k _ HT.out hlt).mono ?_
          rw [HF.out]
          rintro e w1 ⟨rfl, hk1⟩
          go_wp2_with fail
          go_roundw
          case rel => exact ⟨k + 1, by omega, by go_num, by rw [HP.out, HS.out, if_neg (by rw [HF.out]; simp)], hkr.trans hk1⟩
          case measure => simp [num]; omega
      · go_wp2_with fail
        go_roundw
        case rel => exact ⟨k + 1, by omega, by go_num, by rw [HP.out, HS.out, if_neg (fun e => hg e.2)], hkr⟩
        case measure => simp [num]; omega
    · have HP := Lib.hid hp
      clear hp
      go_wp2_with fail
      go_ret
      exact ⟨ret_int (by rw [HP.out, show N - k = 0 by omega]; rfl), hkr⟩

set_option maxHeartbeats 1000000 in
theorem prev_any (t m N : Nat) (f : Nat → Bool) (c : Int) (w : World) (h : TabsAt w t m N f) :
    Calls Try.prog 22 #[.pointer (some ⟨t, 0, none⟩), .int .i64 c] w fun e w' => e = .returned (.int .i64 (prevN N f c)) ∧ Kept0 w w' := by
  have c0 := h.c0
  have h1 := h.N1
  have h2 := h.N2
  go_enter Try.func22, Try.ntmps22
  go_wp2_with fail
  go_loopw [5] (fun i wr => ∃ k : Nat, k < N ∧ i = .int .i64 (k : Int) ∧ prevN N f c = prevUp f c (k + 1) ∧ Kept0 w wr) (fun i _ => (num i).toNat)
  case atStart => exact ⟨N - 1, by omega, by go_num, by rw [show N - 1 + 1 = N by omega]; rfl, Kept.refl _ _⟩
  case round =>
    obtain ⟨k, hk, rfl, hp, hkr⟩ := hrel
    have c0' := kcell hkr c0
    have HP := Lib.hid hp
    clear hp
    by_cases hlt : 0 < k
    · by_cases hg : (k : Int) < c
      · have HT := Lib.hid (h.kept0 hkr)
        cases hf : f k with
        | true =>
          have HF := Lib.hid hf
          clear hf
          go_wp2_with fail
          refine (stopsAt_any t m N f k _ HT.out hk).mono ?_
          rw [HF.out]
          rintro e w1 ⟨rfl, hk1⟩
          go_wp2_with fail
          go_ret
          exact ⟨ret_int (by rw [HP.out, prevUp, if_pos ⟨HF.out, hg⟩]), hkr.trans hk1⟩
        | false =>
          have HF := Lib.hid hf
          clear hf
          go_wp2_with fail
          refine (stopsAt_any t m N f k _ HT.out hk).mono ?_
          rw [HF.out]
          rintro e w1 ⟨rfl, hk1⟩
          go_wp2_with fail
          go_roundw
          case rel => exact ⟨k - 1, by omega, by go_num, by rw [HP.out, prevUp, if_neg (by rw [HF.out]; simp), show k - 1 + 1 = k by omega], hkr.trans hk1⟩
          case measure => simp [num]; omega
      · go_wp2_with fail
        go_roundw
        case rel => exact ⟨k - 1, by omega, by go_num, by rw [HP.out, prevUp, if_neg (fun e => hg e.2), show k - 1 + 1 = k by omega], hkr⟩
        case measure => simp [num]; omega
    · go_wp2_with fail
      go_ret
      refine ⟨ret_int ?_, hkr⟩
      rw [HP.out]
      obtain rfl : k = 0 := by omega
      rw [prevUp]
      split <;> simp [prevUp]

set_option maxHeartbeats 2000000 in
theorem go_core (t m N : Nat) (f : Nat → Bool) (c n A B M : Int) (w : World) (hT : TabsAt w t m N f) (hc : A ≤ N ∧ M = -B ∧ B ≤ 9223372036854775807 ∧ -9223372036854775807 ≤ B)
    (hcase : (n ≤ (N : Int) ∧ A = n ∨ (N : Int) < n ∧ A = N) ∧ (-(N : Int) ≤ n ∧ M = n ∨ n < -(N : Int) ∧ M = -(N : Int))) :
    Calls Try.prog 23 #[.pointer (some ⟨t, 0, none⟩), .int .i64 c, .int .i64 n] w fun e w' => e = .returned (.int .i64 (nr (itF (prevN N f) B.toNat (itF (nextN N f) A.toNat c)) N)) ∧ Kept0 w w' := by
  have c0 := hT.c0
  have h1 := hT.N1
  have h2 := hT.N2
  obtain ⟨hA1, hM, hB1, hB2⟩ := hc
  obtain ⟨hcA, hcM⟩ := hcase
  have eN : wrap64 (-(N : Int)) = -(N : Int) := w64 (by omega) (by omega)
  have eM : wrap64 (-M) = B := by rw [w64 (by omega) (by omega)]; omega
  have HM := Lib.hid hM
  clear hM
  rcases hcA with ⟨q1, q2⟩ | ⟨q1, q2⟩ <;> rcases hcM with ⟨q3, q4⟩ | ⟨q3, q4⟩
  rotate_left 3
  · exact absurd q1 (by omega)
  all_goals
    have HT := Lib.hid hT
    clear hT
    have HQ : Hid (A ≤ N) := hA1
    obtain ⟨A', hA'⟩ : ∃ A', A' = A := ⟨_, rfl⟩
    rw [← hA']
    have HA' := Lib.hid hA'
    clear hA'
    subst q2
    subst q4
    go_enter Try.func23, Try.ntmps23
    go_wp2_with fail
    go_loopw [1, 15] (fun s1 i wr => ∃ k : Nat, (k : Int) ≤ max 0 A' ∧ i = .int .i64 (k : Int) ∧ s1 = .int .i64 (itF (nextN N f) k c) ∧ Kept0 w wr) (fun _ i _ => A'.toNat - (num i).toNat)
    case atStart => exact ⟨0, by omega, rfl, rfl, Kept.refl _ _⟩
    case round =>
      obtain ⟨k, hk, rfl, rfl, hkr⟩ := hrel
      have c0' := kcell hkr c0
      have HT1 := Lib.hid (HT.out.kept0 hkr)
      by_cases hlt : (k : Int) < A'
      · have ha := HA'.out
        rw [ha] at hlt
        clear ha
        go_wp2_with fail
        refine (next_any t m N f _ _ HT1.out).mono ?_
        rintro e w1 ⟨rfl, hk1⟩
        go_wp2_with fail
        have ha := HA'.out
        go_roundw
        case rel => exact ⟨k + 1, by omega, by go_num, rfl, hkr.trans hk1⟩
        case measure => simp [num]; omega
      · have hkA : k = A'.toNat := by omega
        obtain ⟨C1, hC1⟩ : ∃ C1, C1 = itF (nextN N f) k c := ⟨_, rfl⟩
        rw [← hC1]
        have HC : Hid (C1 = itF (nextN N f) A'.toNat c) := by rw [hC1, hkA]; exact Lib.hid rfl
        have ha := HA'.out
        rw [ha] at hlt
        clear hC1 hkA ha hk
        go_wp2_with fail
        go_loopw [1, 29] (fun s1 i wr => ∃ k : Nat, (k : Int) ≤ max 0 B ∧ i = .int .i64 (k : Int) ∧ s1 = .int .i64 (itF (prevN N f) k C1) ∧ Kept0 w wr) (fun _ i _ => B.toNat - (num i).toNat)
        case atStart => exact ⟨0, by omega, rfl, rfl, hkr⟩
        case round =>
          clear hkr c0' hlt HT1
          obtain ⟨k, hk, rfl, rfl, hkr⟩ := hrel
          have c0' := kcell hkr c0
          have HT1 := Lib.hid (HT.out.kept0 hkr)
          have hB := HM.out
          by_cases hlt : (k : Int) < B
          · try (have ht : (k : Int) < -M := by omega)
            try (have ht : (k : Int) < (N : Int) := by omega)
            clear hB
            go_wp2_with fail
            refine (prev_any t m N f _ _ HT1.out).mono ?_
            rintro e w1 ⟨rfl, hk1⟩
            go_wp2_with fail
            go_roundw
            case rel => exact ⟨k + 1, by omega, by go_num, rfl, hkr.trans hk1⟩
            case measure => simp [num]; omega
          · have hkB : k = B.toNat := by omega
            have HKB := Lib.hid hkB
            try (have ht : ¬ (k : Int) < -M := by omega)
            try (have ht : ¬ (k : Int) < (N : Int) := by omega)
            clear hkB hB
            go_wp2_with fail
            refine (near_any t N _ _ c0' h1 h2).mono ?_
            rintro e w1 ⟨rfl, rfl⟩
            go_wp2_with fail
            go_ret
            exact ⟨ret_int (by rw [HKB.out, HC.out]), hkr⟩

theorem go_any (t m N : Nat) (f : Nat → Bool) (c n : Int) (w : World) (h : TabsAt w t m N f) (hn : -9223372036854775808 ≤ n ∧ n ≤ 9223372036854775807) :
    Calls Try.prog 23 #[.pointer (some ⟨t, 0, none⟩), .int .i64 c, .int .i64 n] w fun e w' => e = .returned (.int .i64 (goN N f c n)) ∧ Kept0 w w' := by
  have h1 := h.N1
  have h2 := h.N2
  rw [← goC h1 f c n]
  refine go_core t m N f c n (min n N) (-(max n (-(N : Int)))) (max n (-(N : Int))) w h ⟨by omega, by omega, by omega, by omega⟩ ⟨by omega, by omega⟩
end Go.Proofs.Ytkfphgcbpphbnaa
