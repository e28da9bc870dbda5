/-
  ParamsNumbers: which numbers a text has, and what is taken for one that is not told.
-/
import Derived.Test.YtadcnfenchemhaaDoorAwC
namespace Go.Proofs.YtadcnfenchemhaaDoor
open Go.RowKit Go.Maps

theorem semis_le (s : List UInt8) : semis s ≤ s.length := List.countP_le_length
theorem numV_len {s : List UInt8} {l : List Int} (h : numV s = some l) : l.length ≤ s.length + 1 := by
  rcases numV_bounds h with ⟨_, rfl⟩ | ⟨_, h1, _⟩
  · simp
  · have := semis_le s; omega

/-- The law over what the two Numbers answer. -/
theorem law_none (s : ByteArray) (at_ other : Int) (hs : ¬ (500 : Int) < s.size) (w : World)
    (h1 : ∀ w, Calls Tryd.prog 10 #[.string s] w fun e w' => NumsAns none e w' ∧ Kept0 w w') (h2 : ∀ w, Calls Tryd.prog 11 #[.string s] w fun e w' => NumsAns none e w' ∧ Kept0 w w') :
    Calls Tryd.prog 3 #[.string s, .int .i64 at_, .int .i64 other] w fun e w' => e = .returned (.bool true) ∧ Kept0 w w' := by
  have H1 := Lib.hid h1
  have H2 := Lib.hid h2
  have ds : decide ((500 : Int) < (s.size : Int)) = false := by simpa using hs
  have HN : Hid (∀ w, IntsIn w none []) := fun w i x hx => by simp at hx
  have HO : Hid (orV [] at_ other = other) := if_neg (by simp <;> omega)
  clear h1 h2 hs
  by_cases hat : 0 ≤ at_
  · have d1 : decide (0 ≤ at_) = true := by simpa using hat
    have d2 : decide (at_ < 0) = false := by simp; omega
    go_enter Tryd.func3, Tryd.ntmps3
    go_wp2_with fail
    refine (H1.out w).mono ?_
    rintro e w1 ⟨rfl, k1⟩
    go_wp2_with fail
    refine (H2.out w1).mono ?_
    rintro e w2 ⟨rfl, k2⟩
    go_wp2_with fail
    refine (ints_same none none 0 0 [] w2 (HN.out w2) (HN.out w2) (by simp)).mono ?_
    rintro e w3 ⟨rfl, k3⟩
    go_wp2_with fail
    refine (or_any none 0 [] at_ other w3 (HN.out w3)).mono ?_
    rintro e w4 ⟨rfl, k4⟩
    rw [HO.out]
    go_wp2_with fail
    refine (awake_any w4).mono ?_
    rintro e w5 ⟨rfl, k5⟩
    go_wp2_with fail
    go_ret
    exact ⟨rfl, ((k1.trans k2).trans (k3.trans k4)).trans k5⟩
  · have d1 : decide (0 ≤ at_) = false := by simpa using hat
    clear hat
    go_enter Tryd.func3, Tryd.ntmps3
    go_wp2_with fail
    refine (H1.out w).mono ?_
    rintro e w1 ⟨rfl, k1⟩
    go_wp2_with fail
    refine (H2.out w1).mono ?_
    rintro e w2 ⟨rfl, k2⟩
    go_wp2_with fail
    refine (ints_same none none 0 0 [] w2 (HN.out w2) (HN.out w2) (by simp)).mono ?_
    rintro e w3 ⟨rfl, k3⟩
    go_wp2_with fail
    refine (or_any none 0 [] at_ other w3 (HN.out w3)).mono ?_
    rintro e w4 ⟨rfl, k4⟩
    rw [HO.out]
    go_wp2_with fail
    refine (awake_any w4).mono ?_
    rintro e w5 ⟨rfl, k5⟩
    go_wp2_with fail
    go_ret
    exact ⟨rfl, ((k1.trans k2).trans (k3.trans k4)).trans k5⟩

theorem law_some (s : ByteArray) (l : List Int) (at_ other : Int) (hs : ¬ (500 : Int) < s.size) (hl : l.length ≤ 1000) (w : World)
    (h1 : ∀ w, Calls Tryd.prog 10 #[.string s] w fun e w' => NumsAns (some l) e w' ∧ Kept0 w w') (h2 : ∀ w, Calls Tryd.prog 11 #[.string s] w fun e w' => NumsAns (some l) e w' ∧ Kept0 w w') :
    Calls Tryd.prog 3 #[.string s, .int .i64 at_, .int .i64 other] w fun e w' => e = .returned (.bool true) ∧ Kept0 w w' := by
  have H1 := Lib.hid h1
  have H2 := Lib.hid h2
  have ds : decide ((500 : Int) < (s.size : Int)) = false := by simpa using hs
  clear h1 h2 hs
  by_cases hat : 0 ≤ at_
  · have d1 : decide (0 ≤ at_) = true := by simpa using hat
    by_cases hin : at_ < l.length
    · obtain ⟨k, rfl⟩ := Int.eq_ofNat_of_zero_le hat
      have hk : k < l.length := by omega
      obtain ⟨x, hx⟩ : ∃ x, l[k]? = some x := ⟨_, List.getElem?_eq_getElem hk⟩
      have hg : l.getD k 0 = x := by rw [List.getD, hx]; rfl
      have HX := Lib.hid hx
      have dk : decide ((k : Int) < (l.length : Int)) = true := by simp; omega
      by_cases hx0 : 0 ≤ x
      · have HO : Hid (orV l k other = x) := by
          unfold orV
          rw [Int.toNat_natCast, hg, if_pos ⟨hat, hin, hx0⟩]
          exact rfl
        have dx : decide (0 ≤ x) = true := by simpa using hx0
        clear hx hg hat hin hx0
        go_enter Tryd.func3, Tryd.ntmps3
        go_wp2_with fail
        refine (H1.out w).mono ?_
        rintro e w1 ⟨⟨a, cap, rfl, hi⟩, k1⟩
        have HI := Lib.hid hi
        clear hi
        go_wp2_with fail
        refine (H2.out w1).mono ?_
        rintro e w2 ⟨⟨a', cap', rfl, hj⟩, k2⟩
        have HJ := Lib.hid hj
        obtain ⟨b, off, rfl, hc⟩ := hj k x HX.out
        have HI2 : Hid (IntsIn w2 a l) := HI.out.kept0 k2
        clear hj HI
        go_wp2_with fail
        refine (ints_same a (some ⟨b, off, none⟩) cap cap' l w2 HI2.out HJ.out (by omega)).mono ?_
        rintro e w3 ⟨rfl, k3⟩
        have HJ3 : Hid (IntsIn w3 (some ⟨b, off, none⟩) l) := HJ.out.kept0 k3
        clear HI2 HJ
        go_wp2_with fail
        refine (or_any (some ⟨b, off, none⟩) cap' l k other w3 HJ3.out).mono ?_
        rintro e w4 ⟨rfl, k4⟩
        rw [HO.out]
        go_wp2_with fail
        refine (awake_any w4).mono ?_
        rintro e w5 ⟨rfl, k5⟩
        go_wp2_with fail
        go_ret
        exact ⟨rfl, ((k1.trans k2).trans (k3.trans k4)).trans k5⟩
      · have HO : Hid (orV l k other = other) := if_neg (by rw [Int.toNat_natCast, hg]; omega)
        have dx : decide (0 ≤ x) = false := by simpa using hx0
        clear hx hg hat hin hx0
        go_enter Tryd.func3, Tryd.ntmps3
        go_wp2_with fail
        refine (H1.out w).mono ?_
        rintro e w1 ⟨⟨a, cap, rfl, hi⟩, k1⟩
        have HI := Lib.hid hi
        clear hi
        go_wp2_with fail
        refine (H2.out w1).mono ?_
        rintro e w2 ⟨⟨a', cap', rfl, hj⟩, k2⟩
        have HJ := Lib.hid hj
        obtain ⟨b, off, rfl, hc⟩ := hj k x HX.out
        have HI2 : Hid (IntsIn w2 a l) := HI.out.kept0 k2
        clear hj HI
        go_wp2_with fail
        refine (ints_same a (some ⟨b, off, none⟩) cap cap' l w2 HI2.out HJ.out (by omega)).mono ?_
        rintro e w3 ⟨rfl, k3⟩
        have HJ3 : Hid (IntsIn w3 (some ⟨b, off, none⟩) l) := HJ.out.kept0 k3
        clear HI2 HJ
        go_wp2_with fail
        refine (or_any (some ⟨b, off, none⟩) cap' l k other w3 HJ3.out).mono ?_
        rintro e w4 ⟨rfl, k4⟩
        rw [HO.out]
        go_wp2_with fail
        refine (awake_any w4).mono ?_
        rintro e w5 ⟨rfl, k5⟩
        go_wp2_with fail
        go_ret
        exact ⟨rfl, ((k1.trans k2).trans (k3.trans k4)).trans k5⟩
    · have HO : Hid (orV l at_ other = other) := if_neg (by omega)
      have dk : decide (at_ < (l.length : Int)) = false := by simpa using hin
      clear hin hat
      go_enter Tryd.func3, Tryd.ntmps3
      go_wp2_with fail
      refine (H1.out w).mono ?_
      rintro e w1 ⟨⟨a, cap, rfl, hi⟩, k1⟩
      have HI := Lib.hid hi
      clear hi
      go_wp2_with fail
      refine (H2.out w1).mono ?_
      rintro e w2 ⟨⟨a', cap', rfl, hj⟩, k2⟩
      have HJ := Lib.hid hj
      have HI2 : Hid (IntsIn w2 a l) := HI.out.kept0 k2
      clear hj HI
      go_wp2_with fail
      refine (ints_same a a' cap cap' l w2 HI2.out HJ.out (by omega)).mono ?_
      rintro e w3 ⟨rfl, k3⟩
      have HJ3 : Hid (IntsIn w3 a' l) := HJ.out.kept0 k3
      clear HI2 HJ
      go_wp2_with fail
      refine (or_any a' cap' l at_ other w3 HJ3.out).mono ?_
      rintro e w4 ⟨rfl, k4⟩
      rw [HO.out]
      go_wp2_with fail
      refine (awake_any w4).mono ?_
      rintro e w5 ⟨rfl, k5⟩
      go_wp2_with fail
      go_ret
      exact ⟨rfl, ((k1.trans k2).trans (k3.trans k4)).trans k5⟩
  · have HO : Hid (orV l at_ other = other) := if_neg (by omega)
    have d1 : decide (0 ≤ at_) = false := by simpa using hat
    clear hat
    go_enter Tryd.func3, Tryd.ntmps3
    go_wp2_with fail
    refine (H1.out w).mono ?_
    rintro e w1 ⟨⟨a, cap, rfl, hi⟩, k1⟩
    have HI := Lib.hid hi
    clear hi
    go_wp2_with fail
    refine (H2.out w1).mono ?_
    rintro e w2 ⟨⟨a', cap', rfl, hj⟩, k2⟩
    have HJ := Lib.hid hj
    have HI2 : Hid (IntsIn w2 a l) := HI.out.kept0 k2
    clear hj HI
    go_wp2_with fail
    refine (ints_same a a' cap cap' l w2 HI2.out HJ.out (by omega)).mono ?_
    rintro e w3 ⟨rfl, k3⟩
    have HJ3 : Hid (IntsIn w3 a' l) := HJ.out.kept0 k3
    clear HI2 HJ
    go_wp2_with fail
    refine (or_any a' cap' l at_ other w3 HJ3.out).mono ?_
    rintro e w4 ⟨rfl, k4⟩
    rw [HO.out]
    go_wp2_with fail
    refine (awake_any w4).mono ?_
    rintro e w5 ⟨rfl, k5⟩
    go_wp2_with fail
    go_ret
    exact ⟨rfl, ((k1.trans k2).trans (k3.trans k4)).trans k5⟩
theorem numbers_calls (s : ByteArray) (at_ other : Int) (w : World) :
    Calls Tryd.prog 3 #[.string s, .int .i64 at_, .int .i64 other] w fun e w' => e = .returned (.bool true) ∧ Below w.heap.size w w' := by
  have main : Calls Tryd.prog 3 #[.string s, .int .i64 at_, .int .i64 other] w fun e w' => e = .returned (.bool true) ∧ Kept0 w w' := by
    by_cases hs : (500 : Int) < s.size
    · have ds : decide ((500 : Int) < (s.size : Int)) = true := by simpa using hs
      clear hs
      go_enter Tryd.func3, Tryd.ntmps3
      go_wp2_with fail
      refine (awake_any w).mono ?_
      rintro e w1 ⟨rfl, k1⟩
      go_wp2_with fail
      go_ret
      exact ⟨rfl, k1⟩
    · have hz : s.data.toList.length = s.size := by simp
      have h1 := fun w => numbers_any s (by omega) w
      have h2 := fun w => refNumbers_any s (by omega) w
      rw [← num_ref] at h2
      cases ho : numV s.data.toList with
      | none =>
        rw [ho] at h1 h2
        exact law_none s at_ other hs w h1 h2
      | some l =>
        have := numV_len ho
        rw [ho] at h1 h2
        exact law_some s l at_ other hs (by omega) w h1 h2
  exact main.mono fun e w' ⟨h1, h2⟩ => ⟨h1, Kept0.below h2⟩
end Go.Proofs.YtadcnfenchemhaaDoor
