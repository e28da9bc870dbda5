/-
  The law AttrNames: what attributes are as a text, and which texts are attributes; what the document's Parse answers.
-/
import Derived.Test.YtacnoakgfkcfbaaDoorApart
import Derived.Test.YtacnoakgfkcfbaaDoorParse
namespace Go.Proofs.YtacnoakgfkcfbaaDoor
open Go.RowKit

/-- No attributes below k that may be have that text. -/
def noneTo (s : List UInt8) (k : Nat) : Prop := ∀ j, j < k → mayN j = true → namesN j ≠ s

/-- What the document's Parse answers: the attributes whose text it is, or -1. -/
def parseR (s : List UInt8) : Int := if mayN (parseN s) = true ∧ namesN (parseN s) = s then (parseN s : Int) else -1

theorem parseR_found {s : List UInt8} {k : Nat} (hk : k < 16384) (hm : mayN k = true) (he : namesN k = s) : parseR s = (k : Int) := by
  have hp : parseN s = k := by rw [← he]; exact parse_names hm hk
  unfold parseR
  rw [hp, if_pos ⟨hm, he⟩]
theorem parseR_none {s : List UInt8} (h : noneTo s 16384) : parseR s = -1 := by
  unfold parseR
  rw [if_neg]
  rintro ⟨h1, h2⟩
  exact h (parseN s) (orAll_lt _) h1 h2

set_option maxRecDepth 100000 in
set_option maxHeartbeats 4000000 in
theorem refParse_any (s : ByteArray) (HN : Hid (∀ (n : Nat), n < 16384 → mayN n = true → ∀ w, Calls Tryd.prog 20 #[.int .i64 (n : Int)] w fun e w' => e = .returned (.string (str (namesN n))) ∧ Kept0 w w')) (w : World) :
    Calls Tryd.prog 22 #[.string s] w fun e w' => e = .returned (.int .i64 (parseR s.data.toList)) ∧ Kept0 w w' := by
  have HM := Lib.hid (fun (n : Nat) (h : (n : Int) ≤ 9223372036854775807) w => refMay_any (n : Int) h w)
  have HF : Hid (∀ k : Nat, k < 16384 → mayN k = true → namesN k = s.data.toList → parseR s.data.toList = (k : Int)) := fun k h1 h2 h3 => parseR_found h1 h2 h3
  have HX : Hid (noneTo s.data.toList 16384 → parseR s.data.toList = -1) := fun h => parseR_none h
  obtain ⟨R, hR⟩ : ∃ R, R = parseR s.data.toList := ⟨_, rfl⟩
  rw [← hR] at HF HX ⊢
  clear hR
  go_enter Tryd.func22, Tryd.ntmps22
  go_wp2_with fail
  go_loopw [3] (fun s3 wr => ∃ k : Nat, k ≤ 16384 ∧ s3 = .int .i64 (k : Int) ∧ Hid (noneTo s.data.toList k) ∧ Kept0 w wr) (fun s3 _ => 16384 - (intOf s3).toNat)
  case atStart => exact ⟨0, by omega, rfl, fun j hj => absurd hj (by omega), Kept.refl _ _⟩
  case round =>
    obtain ⟨k, hk, rfl, hno, hkr⟩ := hrel
    by_cases hlt : k < 16384
    · have H1 := HM.out k (by omega)
      cases hm : mayN k
      · rw [mayB_nat, hm] at H1
        replace H1 := Lib.hid H1
        have HNX : Hid (noneTo s.data.toList (k + 1)) := fun j hj hj2 => by
          rcases Nat.lt_succ_iff_lt_or_eq.1 hj with h3 | h3
          · exact hno.out j h3 hj2
          · subst h3; rw [hm] at hj2; cases hj2
        clear hno
        go_wp2_with fail
        refine (H1.out _).mono ?_
        rintro e w1 ⟨rfl, rfl⟩
        go_wp2_with fail
        go_roundw
        case rel => exact ⟨k + 1, by omega, by go_num, HNX, hkr⟩
        case measure => simp [intOf]; omega
      · rw [mayB_nat, hm] at H1
        replace H1 := Lib.hid H1
        have H2 := Lib.hid (HN.out k hlt hm)
        have hte : ((str (namesN k)).toList == s.toList) = (namesN k == s.data.toList) := by
          rw [Lib.toList_data, Lib.toList_data]; rfl
        cases ht : (namesN k == s.data.toList)
        · rw [ht] at hte
          have HNX : Hid (noneTo s.data.toList (k + 1)) := fun j hj hj2 => by
            rcases Nat.lt_succ_iff_lt_or_eq.1 hj with h3 | h3
            · exact hno.out j h3 hj2
            · subst h3; exact beq_eq_false_iff_ne.1 ht
          clear hno ht
          go_wp2_with fail
          refine (H1.out _).mono ?_
          rintro e w1 ⟨rfl, rfl⟩
          go_wp2_with fail
          refine (H2.out _).mono ?_
          rintro e w2 ⟨rfl, hk2⟩
          go_wp2_with fail
          go_roundw
          case rel => exact ⟨k + 1, by omega, by go_num, HNX, hkr.trans hk2⟩
          case measure => simp [intOf]; omega
        · rw [ht] at hte
          have HRR := Lib.hid (HF.out k hlt hm (beq_iff_eq.1 ht))
          clear hno ht
          go_wp2_with fail
          refine (H1.out _).mono ?_
          rintro e w1 ⟨rfl, rfl⟩
          go_wp2_with fail
          refine (H2.out _).mono ?_
          rintro e w2 ⟨rfl, hk2⟩
          go_wp2_with fail
          go_ret
          exact ⟨by rw [HRR.out]; rfl, hkr.trans hk2⟩
    · obtain rfl : k = 16384 := by omega
      have HRR := Lib.hid (HX.out hno.out)
      clear hno
      go_wp2_with fail
      go_ret
      exact ⟨by rw [HRR.out]; rfl, hkr⟩

/-- The code's Parse is the document's. -/
theorem parse_agree (s : List UInt8) : parseV s = if parseR s < 0 then .tuple #[.int .i64 0, .int .i64 14] else .tuple #[.int .i64 (parseR s), .int .i64 0] := by
  have hl : parseN s < 16384 := orAll_lt _
  by_cases hm : mayN (parseN s) = true
  · have e : namesOf (parseN s : Int) = namesN (parseN s) := by simp only [namesOf, mayB_nat, hm, if_true, Int.toNat_natCast]
    by_cases hs : namesN (parseN s) = s
    · have r : parseR s = (parseN s : Int) := by unfold parseR; rw [if_pos ⟨hm, hs⟩]
      rw [r, if_neg (by omega)]
      unfold parseV
      rw [e, if_pos (beq_iff_eq.2 hs)]
    · have r : parseR s = -1 := by unfold parseR; rw [if_neg (fun h => hs h.2)]
      rw [r, if_pos (by omega)]
      unfold parseV
      rw [e, if_neg (fun h => hs (beq_iff_eq.1 h))]
  · have e : namesOf (parseN s : Int) = [] := by simp only [namesOf, mayB_nat]; rw [if_neg hm]
    have r : parseR s = -1 := by unfold parseR; rw [if_neg (fun h => hm h.1)]
    rw [r, if_pos (by omega)]
    unfold parseV
    rw [e, if_neg]
    intro h
    have hs : [] = s := beq_iff_eq.1 h
    subst hs
    exact hm (by decide +kernel)

set_option maxRecDepth 100000 in
theorem says_long (a : Int) (s : ByteArray) (hs : 100 < s.size) (w : World) (hw : WordsAt w) (H14 : Hid (Says 14 #[] (.bool true))) :
    Calls Tryd.prog 5 #[.int .i64 a, .string s] w fun e w' => e = .returned (.bool true) ∧ Below w.heap.size w w' := by
  have hd : decide ((100 : Int) < (s.size : Int)) = true := by simp; omega
  go_enter Tryd.func5, Tryd.ntmps5
  go_wp2_with fail
  refine (H14.out _ _ hw (Kept.refl _ w)).mono ?_
  rintro e w1 ⟨rfl, hk⟩
  go_wp2_with fail
  go_ret
  exact ⟨rfl, Kept0.below hk⟩

set_option maxRecDepth 100000 in
set_option maxHeartbeats 4000000 in
theorem says_core (a : Int) (s S : ByteArray) (hs : s.size ≤ 100) (r x er : Int) (hr : (r < 0 ∧ x = 0 ∧ er = 14) ∨ (0 ≤ r ∧ x = r ∧ er = 0)) (w : World) (hw : WordsAt w) (H14 : Hid (Says 14 #[] (.bool true)))
    (H19 : Hid (Says 19 #[.int .i64 a] (.string S))) (H20 : Hid (Says 20 #[.int .i64 a] (.string S))) (H21 : Hid (Says 21 #[.string s] (.tuple #[.int .i64 x, .int .i64 er]))) (H22 : Hid (Says 22 #[.string s] (.int .i64 r))) :
    Calls Tryd.prog 5 #[.int .i64 a, .string s] w fun e w' => e = .returned (.bool true) ∧ Below w.heap.size w w' := by
  have hd : decide ((100 : Int) < (s.size : Int)) = false := by simp; omega
  rcases hr with ⟨h1, rfl, rfl⟩ | ⟨h1, rfl, rfl⟩
  all_goals
    go_enter Tryd.func5, Tryd.ntmps5
    go_wp2_with fail
    refine (H19.out _ _ hw (Kept.refl _ w)).mono ?_
    rintro e w1 ⟨rfl, hk⟩
    go_wp2_with fail
    refine (H20.out _ _ hw hk).mono ?_
    rintro e w2 ⟨rfl, hk⟩
    go_wp2_with fail
    refine (H21.out _ _ hw hk).mono ?_
    rintro e w3 ⟨rfl, hk⟩
    go_wp2_with fail
    refine (H22.out _ _ hw hk).mono ?_
    rintro e w4 ⟨rfl, hk⟩
    go_wp2_with fail
    refine (H14.out _ _ hw hk).mono ?_
    rintro e w5 ⟨rfl, hk⟩
    go_wp2_with fail
    go_ret
    exact ⟨rfl, Kept0.below hk⟩

theorem says_calls (a : Int) (s : ByteArray) (ha0 : -9223372036854775808 ≤ a) (ha1 : a ≤ 9223372036854775807) (HN : ∀ (a : Int), a ≤ 9223372036854775807 → ∀ w, Calls Tryd.prog 20 #[.int .i64 a] w fun e w' => e = .returned (.string (str (namesOf a))) ∧ Kept0 w w') (w : World) (hw : WordsAt w) :
    Calls Tryd.prog 5 #[.int .i64 a, .string s] w fun e w' => e = .returned (.bool true) ∧ Below w.heap.size w w' := by
  have H14 := Says.words awake_any
  by_cases hs : 100 < s.size
  · exact says_long a s hs w hw H14
  have H19 := Says.words (fun w' => names_any a ha0 ha1 w')
  have H20 := Says.words (fun w' (_ : WordsAt w') => HN a ha1 w')
  have H21 := Says.words (fun w' => parse_any s (by omega) w')
  have HN2 : Hid (∀ (n : Nat), n < 16384 → mayN n = true → ∀ w, Calls Tryd.prog 20 #[.int .i64 (n : Int)] w fun e w' => e = .returned (.string (str (namesN n))) ∧ Kept0 w w') := fun n hn hm w => by
    have := HN (n : Int) (by omega) w
    rwa [show namesOf (n : Int) = namesN n by simp only [namesOf, mayB_nat, hm, if_true, Int.toNat_natCast]] at this
  have H22 := Says.words (fun w' (_ : WordsAt w') => refParse_any s HN2 w')
  rw [parse_agree] at H21
  by_cases hr : parseR s.data.toList < 0
  · rw [if_pos hr] at H21
    exact says_core a s _ (by omega) _ 0 14 (Or.inl ⟨hr, rfl, rfl⟩) w hw H14 H19 H20 H21 H22
  · rw [if_neg hr] at H21
    exact says_core a s _ (by omega) _ _ 0 (Or.inr ⟨by omega, rfl, rfl⟩) w hw H14 H19 H20 H21 H22

#print axioms says_calls
end Go.Proofs.YtacnoakgfkcfbaaDoor
