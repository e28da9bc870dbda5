/-
  ParamsZeros: noughts ahead of a number do not count.
-/
import Derived.Test.YtadcnfenchemhaaDoorAwC
namespace Go.Proofs.YtadcnfenchemhaaDoor
open Go.RowKit Go.Maps

theorem zero_snoc (k : Nat) : str (List.replicate k 48) ++ ⟨#[48]⟩ = str (List.replicate (k + 1) 48) := by
  apply ByteArray.ext
  apply Array.ext'
  simp [str, List.replicate_succ']
theorem zero_size (k : Nat) : (str (List.replicate k 48)).size = k := by simp [str, ByteArray.size]

/-- Where texts are too long, or there are none. -/
theorem zeros_out (s : ByteArray) (z : Int) (h : s.size < 1 ∨ 300 < s.size ∨ z < 0 ∨ 300 < z) (w : World) : Calls Tryd.prog 8 #[.string s, .int .i64 z] w fun e w' => e = .returned (.bool true) ∧ Kept0 w w' := by
  by_cases h1 : (s.size : Int) < 1
  · have d1 : decide ((s.size : Int) < 1) = true := by simpa using h1
    clear h h1
    go_enter Tryd.func8, Tryd.ntmps8
    go_wp2_with fail
    refine (awake_any w).mono ?_
    rintro e w1 ⟨rfl, k1⟩
    go_wp2_with fail
    go_ret
    exact ⟨rfl, k1⟩
  have d1 : decide ((s.size : Int) < 1) = false := by simpa using h1
  by_cases h2 : (300 : Int) < s.size
  · have d2 : decide ((300 : Int) < (s.size : Int)) = true := by simpa using h2
    clear h h1 h2
    go_enter Tryd.func8, Tryd.ntmps8
    go_wp2_with fail
    refine (awake_any w).mono ?_
    rintro e w1 ⟨rfl, k1⟩
    go_wp2_with fail
    go_ret
    exact ⟨rfl, k1⟩
  have d2 : decide ((300 : Int) < (s.size : Int)) = false := by simpa using h2
  by_cases h3 : z < 0
  · have d3 : decide (z < 0) = true := by simpa using h3
    clear h h1 h2 h3
    go_enter Tryd.func8, Tryd.ntmps8
    go_wp2_with fail
    refine (awake_any w).mono ?_
    rintro e w1 ⟨rfl, k1⟩
    go_wp2_with fail
    go_ret
    exact ⟨rfl, k1⟩
  have d3 : decide (z < 0) = false := by simpa using h3
  have d4 : decide (300 < z) = true := by simp; omega
  clear h h1 h2 h3
  go_enter Tryd.func8, Tryd.ntmps8
  go_wp2_with fail
  refine (awake_any w).mono ?_
  rintro e w1 ⟨rfl, k1⟩
  go_wp2_with fail
  go_ret
  exact ⟨rfl, k1⟩

set_option maxRecDepth 100000 in
set_option maxHeartbeats 4000000 in
theorem zeros_in (s : ByteArray) (z : Nat) (h1 : 1 ≤ s.size) (h2 : s.size ≤ 300) (h3 : z ≤ 300) (w : World) : Calls Tryd.prog 8 #[.string s, .int .i64 (z : Int)] w fun e w' => e = .returned (.bool true) ∧ Kept0 w w' := by
  have d1 : decide ((s.size : Int) < 1) = false := by simp; omega
  have d2 : decide ((300 : Int) < (s.size : Int)) = false := by simp; omega
  have d3 : decide ((z : Int) < 0) = false := by simp
  have d4 : decide ((300 : Int) < (z : Int)) = false := by simp; omega
  have HZ : Hid (∀ k, str (List.replicate k 48) ++ ⟨#[48]⟩ = str (List.replicate (k + 1) 48)) := zero_snoc
  go_enter Tryd.func8, Tryd.ntmps8
  go_wp2_with fail
  go_loopw [5, 6] (fun s5 s6 wr => ∃ k : Nat, k ≤ z ∧ s6 = .int .i64 (k : Int) ∧ s5 = .string (str (List.replicate k 48)) ∧ wr = w) (fun _ s6 _ => z - (intOf s6).toNat)
  case atStart => exact ⟨0, by omega, rfl, rfl, rfl⟩
  case round =>
    obtain ⟨k, hk, rfl, rfl, rfl⟩ := hrel
    by_cases hlt : k < z
    · have dk : decide ((k : Int) < (z : Int)) = true := by simp; omega
      have hz := zero_size k
      have hz2 : (str (List.replicate k 48)).size + 1 ≤ 9223372036854775807 := by omega
      obtain ⟨t, ht⟩ : ∃ t, t = str (List.replicate k 48) := ⟨_, rfl⟩
      have HT := Lib.hid ht
      rw [← ht] at hz2 ⊢
      clear hz ht
      go_wp2_with fail
      go_roundw
      case rel => exact ⟨k + 1, by omega, by go_num, by rw [HT.out, HZ.out], trivial⟩
      case measure => simp [intOf]; omega
    · obtain rfl : k = z := by omega
      have dk : decide ((k : Int) < (k : Int)) = false := by simp
      obtain ⟨t, ht⟩ : ∃ t, t = str (List.replicate k 48) := ⟨_, rfl⟩
      have HT := Lib.hid ht
      have htz : t.size = k := by rw [ht]; exact zero_size k
      rw [← ht]
      clear ht
      go_wp2_with fail
      go_loopw [7] (fun s7 w2 => ∃ j : Nat, j ≤ s.size ∧ s7 = .int .i64 (j : Int) ∧ Hid (∀ c ∈ s.data.toList.take j, noDig c = false) ∧ w2 = wr) (fun s7 _ => s.size - (intOf s7).toNat)
      case atStart => exact ⟨0, by omega, rfl, fun c hc => by simp at hc, rfl⟩
      case round =>
        obtain ⟨j, hj, rfl, HD, rfl⟩ := hrel
        by_cases hjt : j < s.size
        · have dj : decide ((j : Int) < (s.size : Int)) = true := by simp; omega
          have hl : j < s.data.toList.length := by simpa using hjt
          obtain ⟨c, hcc⟩ : ∃ c, c = s[j]'hjt := ⟨_, rfl⟩
          have hd : (s[j]'hjt).toNat = c.toNat := by rw [hcc]
          have HS : Hid (noDig c = false → ∀ d ∈ s.data.toList.take (j + 1), noDig d = false) := fun h d hx => by
            rw [List.take_add_one, List.getElem?_eq_getElem hl] at hx
            rcases List.mem_append.1 hx with hx | hx
            · exact HD.out d hx
            · simp at hx
              rw [hx]
              rw [hcc] at h
              exact h
          clear hl hcc HD
          cases hnd : noDig c with
          | true =>
            simp [noDig] at hnd
            by_cases h48 : (c.toNat : Int) < 48
            · have d48 : decide ((c.toNat : Int) < 48) = true := by simpa using h48
              clear hnd h48
              go_wp2_with fail
              refine (awake_any _).mono ?_
              rintro e w5 ⟨rfl, k5⟩
              go_wp2_with fail
              go_ret
              exact ⟨rfl, k5⟩
            · have h57 : decide ((57 : Int) < (c.toNat : Int)) = true := by simp; omega
              have d48 : decide ((c.toNat : Int) < 48) = false := by simpa using h48
              clear hnd h48
              go_wp2_with fail
              refine (awake_any _).mono ?_
              rintro e w5 ⟨rfl, k5⟩
              go_wp2_with fail
              go_ret
              exact ⟨rfl, k5⟩
          | false =>
            have HN := Lib.hid hnd
            simp [noDig] at hnd
            have d48 : decide ((c.toNat : Int) < 48) = false := by simp; omega
            have d57 : decide ((57 : Int) < (c.toNat : Int)) = false := by simp; omega
            clear hnd
            go_wp2_with fail
            go_roundw
            case rel => exact ⟨j + 1, by omega, by go_num, HS.out HN.out, trivial⟩
            case measure => simp [intOf]; omega
        · obtain rfl : j = s.size := by omega
          have dj : decide ((s.size : Int) < (s.size : Int)) = false := by simp
          have hne : s.data.toList ≠ [] := by
            intro e
            have : s.data.toList.length = s.size := by simp
            rw [e] at this
            simp at this
            omega
          obtain ⟨m, m1, m2, m3⟩ := numV_zeros hne (fun c hc => HD.out c (by rw [List.take_of_length_le (by simp)]; exact hc)) k
          have H1 : Hid (∀ w, Calls Tryd.prog 10 #[.string s] w fun e w' => NumsAns (some [m]) e w' ∧ Kept0 w w') := fun w => by
            have := numbers_any s (by omega) w
            rwa [m1] at this
          have H2 : Hid (∀ w, Calls Tryd.prog 10 #[.string (t ++ s)] w fun e w' => NumsAns (some [m]) e w' ∧ Kept0 w w') := fun w => by
            have := numbers_any (t ++ s) (by simp; omega) w
            rw [show (t ++ s).data.toList = List.replicate k 48 ++ s.data.toList by rw [HT.out]; simp [str], m2] at this
            exact this
          have hsum : t.size + s.size ≤ 9223372036854775807 := by omega
          have dm : decide (0 ≤ m) = true := by simpa using m3
          clear hne m1 m2 m3 HD
          go_wp2_with fail
          refine (H1.out _).mono ?_
          rintro e w1 ⟨⟨a, cap, rfl, hi⟩, k1⟩
          have HI := Lib.hid hi
          clear hi
          go_wp2_with fail
          refine (H2.out w1).mono ?_
          rintro e w2 ⟨⟨a', cap', rfl, hj⟩, k2⟩
          have HJ := Lib.hid hj
          have HI2 : Hid (IntsIn w2 a [m]) := HI.out.kept0 k2
          clear hj HI
          go_wp2_with fail
          refine (ints_same a a' cap cap' [m] w2 HI2.out HJ.out (by simp)).mono ?_
          rintro e w3 ⟨rfl, k3⟩
          obtain ⟨b, off, rfl, hc⟩ := (HI2.out.kept0 k3) 0 m rfl
          clear HI2 HJ
          simp only [Nat.add_zero] at hc
          go_wp2_with fail
          refine (awake_any _).mono ?_
          rintro e w5 ⟨rfl, k5⟩
          go_wp2_with fail
          go_ret
          exact ⟨rfl, ((k1.trans k2).trans k3).trans k5⟩
theorem zeros_calls (s : ByteArray) (z : Int) (w : World) : Calls Tryd.prog 8 #[.string s, .int .i64 z] w fun e w' => e = .returned (.bool true) ∧ Below w.heap.size w w' := by
  by_cases h : s.size < 1 ∨ 300 < s.size ∨ z < 0 ∨ 300 < z
  · exact (zeros_out s z h w).mono fun e w' ⟨h1, h2⟩ => ⟨h1, Kept0.below h2⟩
  · obtain ⟨k, rfl⟩ := Int.eq_ofNat_of_zero_le (show 0 ≤ z by omega)
    exact (zeros_in s k (by omega) (by omega) (by omega) w).mono fun e w' ⟨h1, h2⟩ => ⟨h1, Kept0.below h2⟩
end Go.Proofs.YtadcnfenchemhaaDoor
