/-
  The document's answer: New, There, Put, Next, Prev and Go.
-/
import Derived.Test.YtkfphgcbpphbnaaCopy
namespace Go.Proofs.Ytkfphgcbpphbnaa
open Go.RowKit Go.Maps Go.ChangeMaps Go.MapKept

set_option maxHeartbeats 400000 in
theorem refThere_any (r b N : Nat) (f : Nat → Bool) (c : Int) (w : World) (h : RefAt w r b N f) :
    Calls Try.prog 36 #[.pointer (some ⟨r, 0, none⟩), .int .i64 c] w fun e w' => e = .returned (.bool (decide (0 ≤ c ∧ c < (N : Int)))) ∧ w = w' := by
  have c0 := h.c0
  go_enter Try.func36, Try.ntmps36
  go_wp2
  all_goals
    go_ret
    refine ⟨ret_bool ?_, rfl⟩
    rw [Bool.eq_iff_iff]
    simp
    try omega

set_option maxHeartbeats 1000000 in
theorem refNext_any (r b N : Nat) (f : Nat → Bool) (c : Int) (w : World) (h : RefAt w r b N f) :
    Calls Try.prog 28 #[.pointer (some ⟨r, 0, none⟩), .int .i64 c] w fun e w' => e = .returned (.int .i64 (nextN N f c)) ∧ w = w' := by
  have c0 := h.c0
  have h1 := h.N1
  have h2 := h.N2
  go_enter Try.func28, Try.ntmps28
  go_wp2_with fail
  go_loopw [5] (fun i wr => ∃ k : Nat, k ≤ N ∧ i = .int .i64 (k : Int) ∧ nextN N f c = nextRem N f c (N - k) ∧ w = wr) (fun i _ => N - (num i).toNat)
  case atStart => exact ⟨0, by omega, rfl, rfl, rfl⟩
  case round =>
    obtain ⟨k, hk, rfl, hp, rfl⟩ := hrel
    by_cases hlt : k < N
    · have HS := Lib.hid (nextRem_step N f c k hlt)
      have HP := Lib.hid hp
      have cb := h.cell hlt
      clear hp
      by_cases hg : c < (k : Int)
      · cases hf : f k with
        | true =>
          rw [hf] at cb
          have HF := Lib.hid hf
          clear hf
          go_wp2_with fail
          go_ret
          exact ⟨ret_int (by rw [HP.out, HS.out, if_pos ⟨HF.out, hg⟩]), rfl⟩
        | false =>
          rw [hf] at cb
          have HF := Lib.hid hf
          clear hf
          go_wp2_with fail
          go_roundw
          case rel => exact ⟨k + 1, by omega, by go_num, by rw [HP.out, HS.out, if_neg (by rw [HF.out]; simp)], by trivial⟩
          case measure => simp [num]; omega
      · go_wp2_with fail
        go_roundw
        case rel => exact ⟨k + 1, by omega, by go_num, by rw [HP.out, HS.out, if_neg (fun e => hg e.2)], by trivial⟩
        case measure => simp [num]; omega
    · have HP := Lib.hid hp
      clear hp
      go_wp2_with fail
      go_ret
      exact ⟨ret_int (by rw [HP.out, show N - k = 0 by omega]; rfl), rfl⟩

set_option maxHeartbeats 1000000 in
theorem refPrev_any (r b N : Nat) (f : Nat → Bool) (c : Int) (w : World) (h : RefAt w r b N f) :
    Calls Try.prog 29 #[.pointer (some ⟨r, 0, none⟩), .int .i64 c] w fun e w' => e = .returned (.int .i64 (prevN N f c)) ∧ w = w' := by
  have c0 := h.c0
  have h1 := h.N1
  have h2 := h.N2
  go_enter Try.func29, Try.ntmps29
  go_wp2_with fail
  go_loopw [5, 6] (fun s5 i wr => ∃ k : Nat, k ≤ N ∧ i = .int .i64 (k : Int) ∧ s5 = .int .i64 (prevUp f c k) ∧ w = wr) (fun _ i _ => N - (num i).toNat)
  case atStart => exact ⟨0, by omega, rfl, rfl, rfl⟩
  case round =>
    obtain ⟨k, hk, rfl, rfl, rfl⟩ := hrel
    by_cases hlt : k < N
    · have cb := h.cell hlt
      by_cases hg : (k : Int) < c
      · cases hf : f k with
        | true =>
          rw [hf] at cb
          have HF := Lib.hid hf
          clear hf
          go_wp2_with fail
          go_roundw
          case rel => exact ⟨k + 1, by omega, by go_num, by rw [prevUp, if_pos ⟨HF.out, hg⟩], by trivial⟩
          case measure => simp [num]; omega
        | false =>
          rw [hf] at cb
          have HF := Lib.hid hf
          clear hf
          go_wp2_with fail
          go_roundw
          case rel => exact ⟨k + 1, by omega, by go_num, by rw [prevUp, if_neg (by rw [HF.out]; simp)], by trivial⟩
          case measure => simp [num]; omega
      · go_wp2_with fail
        go_roundw
        case rel => exact ⟨k + 1, by omega, by go_num, by rw [prevUp, if_neg (fun e => hg e.2)], by trivial⟩
        case measure => simp [num]; omega
    · go_wp2_with fail
      go_ret
      obtain rfl : k = N := by omega
      exact ⟨rfl, rfl⟩

set_option maxHeartbeats 1000000 in
theorem refGo_any (r b N : Nat) (f : Nat → Bool) (c n : Int) (w : World) (h : RefAt w r b N f) :
    Calls Try.prog 30 #[.pointer (some ⟨r, 0, none⟩), .int .i64 c, .int .i64 n] w fun e w' => e = .returned (.int .i64 (goN N f c n)) ∧ w = w' := by
  have c0 := h.c0
  have h1 := h.N1
  have h2 := h.N2
  by_cases hz : n = 0
  · subst hz
    have HG : Hid (goN N f c 0 = nr c N) := if_pos rfl
    by_cases hc : c < 0
    · go_enter Try.func30, Try.ntmps30
      go_wp2_with fail
      go_ret
      exact ⟨ret_int (by rw [HG.out]; unfold nr; omega), rfl⟩
    · by_cases hc2 : (N : Int) ≤ c
      · go_enter Try.func30, Try.ntmps30
        go_wp2_with fail
        go_ret
        exact ⟨ret_int (by rw [HG.out]; unfold nr; omega), rfl⟩
      · go_enter Try.func30, Try.ntmps30
        go_wp2_with fail
        go_loopw [1, 7] (fun s1 i wr => s1 = .int .i64 c ∧ i = .int .i64 0 ∧ w = wr) (fun _ _ _ => 0)
        case atStart => exact ⟨rfl, rfl, rfl⟩
        case round =>
          obtain ⟨rfl, rfl, rfl⟩ := hrel
          go_wp2_with fail
          go_loopw [1, 8] (fun s1 i wr => s1 = .int .i64 c ∧ i = .int .i64 0 ∧ w = wr) (fun _ _ _ => 0)
          case atStart => exact ⟨rfl, rfl, rfl⟩
          case round =>
            obtain ⟨rfl, rfl, rfl⟩ := hrel
            go_wp2_with fail
            go_ret
            exact ⟨ret_int (by rw [HG.out]; unfold nr; omega), rfl⟩
  · obtain ⟨A, hA⟩ : ∃ A : Nat, A = (min n 300).toNat := ⟨_, rfl⟩
    obtain ⟨B, hB⟩ : ∃ B : Nat, B = (min (-n) 300).toNat := ⟨_, rfl⟩
    have HG : Hid (goN N f c n = itF (prevN N f) B (itF (nextN N f) A c)) := by rw [hA, hB]; exact (goR h1 h2 f c n hz).symm
    have HA := Lib.hid hA
    have HB := Lib.hid hB
    have hz' : (n == 0) = false := by simpa using hz
    clear hA hB hz
    go_enter Try.func30, Try.ntmps30
    go_wp2_with fail
    go_loopw [1, 7] (fun s1 i wr => ∃ k : Nat, k ≤ A ∧ i = .int .i64 (k : Int) ∧ s1 = .int .i64 (itF (nextN N f) k c) ∧ w = wr) (fun _ i _ => A - (num i).toNat)
    case atStart => exact ⟨0, by omega, rfl, rfl, rfl⟩
    case round =>
      obtain ⟨k, hk, rfl, rfl, rfl⟩ := hrel
      have hA := HA.out
      by_cases hlt : k < A
      · have t1 : (k : Int) < n := by omega
        have t2 : (k : Int) < 300 := by omega
        clear hA
        go_wp2_with fail
        refine (refNext_any r b N f _ _ h).mono ?_
        rintro e w1 ⟨rfl, rfl⟩
        go_wp2_with fail
        go_roundw
        case rel => exact ⟨k + 1, by omega, by go_num, rfl, by trivial⟩
        case measure => simp [num]; omega
      · obtain rfl : k = A := by omega
        have t3 : ¬ (k : Int) < n ∨ ((k : Int) < n ∧ ¬ (k : Int) < 300) := by omega
        clear hA hlt hk
        obtain ⟨C1, hC1⟩ : ∃ C1, C1 = itF (nextN N f) k c := ⟨_, rfl⟩
        rw [← hC1] at HG ⊢
        clear hC1
        rcases t3 with t3 | ⟨t3, t4⟩
        all_goals
          go_wp2_with fail
          go_loopw [1, 8] (fun s1 i wr => ∃ k : Nat, k ≤ B ∧ i = .int .i64 (-(k : Int)) ∧ s1 = .int .i64 (itF (prevN N f) k C1) ∧ w = wr) (fun _ i _ => B - (-(num i)).toNat)
          case atStart => exact ⟨0, by omega, rfl, rfl, rfl⟩
          case round =>
            clear t3
            try clear t4
            obtain ⟨k, hk, rfl, rfl, rfl⟩ := hrel
            have hB := HB.out
            by_cases hlt : k < B
            · have t1 : n < -(k : Int) := by omega
              have t2 : -300 < -(k : Int) := by omega
              clear hB
              go_wp2_with fail
              refine (refPrev_any r b N f _ _ h).mono ?_
              rintro e w1 ⟨rfl, rfl⟩
              go_wp2_with fail
              go_roundw
              case rel => exact ⟨k + 1, by omega, by go_num, rfl, by trivial⟩
              case measure => simp [num]; omega
            · obtain rfl : k = B := by omega
              have t3 : ¬ n < -(k : Int) ∨ (n < -(k : Int) ∧ ¬ -300 < -(k : Int)) := by omega
              clear hB hlt hk
              rcases t3 with t3 | ⟨t3, t4⟩
              all_goals
                go_wp2_with fail
                go_ret
                exact ⟨ret_int HG.out.symm, rfl⟩
end Go.Proofs.Ytkfphgcbpphbnaa
