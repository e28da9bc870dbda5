/-
  The law AttrBack: Parse of Names is the attributes, Keep twice is Keep once, Paint leaves what is no colour, and what is Hidden has one colour.
-/
import Derived.Test.YtacnoakgfkcfbaaDoorApart
import Derived.Test.YtacnoakgfkcfbaaDoorParse
import Derived.Test.YtacnoakgfkcfbaaDoorSums
namespace Go.Proofs.YtacnoakgfkcfbaaDoor
open Go.RowKit

def twoC (y0 y1 : Int) : Array Value := #[.int .i64 y0, .int .i64 y1]

set_option maxRecDepth 100000 in
theorem back_first (a p y0 y1 : Int) (w : World) (hw : WordsAt w) (H8 : Hid (Says 8 #[.int .i64 a] (.bool false))) (H14 : Hid (Says 14 #[] (.bool true))) :
    Calls Tryd.prog 6 #[.int .i64 a, .int .i64 p, .agg (twoC y0 y1)] w fun e w' => e = .returned (.bool true) ∧ Below w.heap.size w w' := by
  have hk0 := (Kept.refl (fun _ => False) w).alloc (.cells (twoC y0 y1) 42)
  go_enter Tryd.func6, Tryd.ntmps6
  go_wp2_with fail
  refine (H8.out _ _ hw hk0).mono ?_
  rintro e w1 ⟨rfl, hk⟩
  go_wp2_with fail
  refine (H14.out _ _ hw hk).mono ?_
  rintro e w2 ⟨rfl, hk⟩
  go_wp2_with fail
  go_ret
  exact ⟨rfl, Kept0.below hk⟩

set_option maxRecDepth 100000 in
set_option maxHeartbeats 4000000 in
theorem back_core (a p y0 y1 : Int) (S : ByteArray) (k f g c : Nat) (er : Int) (m : Int) (t32 : Bool) (ha0 : 0 ≤ a) (ha1 : a < 16384) (hka : (k : Int) ≤ a) (hf : f ≤ 7) (hg : g ≤ 7) (ht : (a / 32 % 2 == 1) = t32) (hfg : t32 = true → f = g)
    (her : er = 0 ∨ er = 11) (hm1 : er = 0 → c < 16384 ∧ (c : Int) % 64 = m) (hm2 : a % 64 = m) (w : World) (hw : WordsAt w)
    (H8 : Hid (Says 8 #[.int .i64 a] (.bool true))) (H14 : Hid (Says 14 #[] (.bool true))) (H19 : Hid (Says 19 #[.int .i64 a] (.string S)))
    (H21 : Hid (Says 21 #[.string S] (.tuple #[.int .i64 a, .int .i64 0]))) (H13 : Hid (Says 13 #[.int .i64 p, .int .i64 a] (.int .i64 (k : Int)))) (H13b : Hid (Says 13 #[.int .i64 p, .int .i64 (k : Int)] (.int .i64 (k : Int))))
    (H9 : Hid (Says 9 #[.int .i64 (k : Int)] (.int .i64 0))) (H16 : Hid (Says 16 #[.int .i64 a] (.tuple #[.int .i64 (f : Int), .int .i64 (g : Int)])))
    (H15 : Hid (Says 15 #[.int .i64 a, .int .i64 y0, .int .i64 y1] (.tuple #[.int .i64 (c : Int), .int .i64 er])))
    (H15b : Hid (er = 0 → Says 15 #[.int .i64 (c : Int), .int .i64 (-1), .int .i64 (-1)] (.tuple #[.int .i64 (c : Int), .int .i64 0])))
    (H16b : Hid (Says 16 #[.int .i64 0] (.tuple #[.int .i64 7, .int .i64 0]))) (H9b : Hid (er = 0 → Says 9 #[.int .i64 (c : Int)] (.int .i64 0))) :
    Calls Tryd.prog 6 #[.int .i64 a, .int .i64 p, .agg (twoC y0 y1)] w fun e w' => e = .returned (.bool true) ∧ Below w.heap.size w w' := by
  have hk0 := (Kept.refl (fun _ => False) w).alloc (.cells (twoC y0 y1) 42)
  have c00 : (w.alloc (.cells (twoC y0 y1) 42)).cell? ⟨w.heap.size, 0, none⟩ = some (.int .i64 y0) := by
    simp only [World.cell?, show (w.alloc (.cells (twoC y0 y1) 42)).heap[w.heap.size]? = some (.cells (twoC y0 y1) 42) from heap_new w _]; rfl
  have c01 : (w.alloc (.cells (twoC y0 y1) 42)).cell? ⟨w.heap.size, 1, none⟩ = some (.int .i64 y1) := by
    simp only [World.cell?, show (w.alloc (.cells (twoC y0 y1) 42)).heap[w.heap.size]? = some (.cells (twoC y0 y1) 42) from heap_new w _]; rfl
  have C0 := Lib.hid c00
  have C1 := Lib.hid c01
  clear c00 c01
  go_enter Tryd.func6, Tryd.ntmps6
  go_wp2_with fail
  obtain ⟨w1, hw1⟩ : ∃ w1, w1 = w.alloc (.cells (twoC y0 y1) 42) := ⟨_, rfl⟩
  rw [← hw1] at hk0 C0 C1 ⊢
  have hwW := hw.kept hk0
  clear hw1 hw
  refine (H8.out _ _ hwW (Kept.refl _ w1)).mono ?_
  rintro e w2 ⟨rfl, hk⟩
  go_wp2_with fail
  refine (H19.out _ _ hwW hk).mono ?_
  rintro e w3 ⟨rfl, hk⟩
  go_wp2_with fail
  refine (H21.out _ _ hwW hk).mono ?_
  rintro e w4 ⟨rfl, hk⟩
  go_wp2_with fail
  refine (H13.out _ _ hwW hk).mono ?_
  rintro e w5 ⟨rfl, hk⟩
  go_wp2_with fail
  refine (H13b.out _ _ hwW hk).mono ?_
  rintro e w6 ⟨rfl, hk⟩
  go_wp2_with fail
  refine (H9.out _ _ hwW hk).mono ?_
  rintro e w7 ⟨rfl, hk⟩
  go_wp2_with fail
  refine (H16.out _ _ hwW hk).mono ?_
  rintro e w8 ⟨rfl, hk⟩
  have c0 := kcell hk C0.out
  have c1 := kcell hk C1.out
  clear H8 H19 H21 H13 H13b H9 H16
  have hfg2 : t32 = false ∨ (t32 = true ∧ f = g) := by
    cases t32
    · exact Or.inl rfl
    · exact Or.inr ⟨rfl, hfg rfl⟩
  have HM1 := Lib.hid hm1
  clear hfg hm1
  rcases hfg2 with rfl | ⟨rfl, rfl⟩
  all_goals
    go_wp2_with fail
    refine (H15.out _ _ hwW hk).mono ?_
    rintro e w9 ⟨rfl, hk⟩
    clear c0 c1 H15
    rcases her with rfl | rfl
    · obtain ⟨hc1, hc2⟩ := HM1.out rfl
      have K15 := Lib.hid (H15b.out rfl)
      have K9 := Lib.hid (H9b.out rfl)
      clear HM1 H15b H9b
      go_wp2_with fail
      refine (K15.out _ _ hwW hk).mono ?_
      rintro e w10 ⟨rfl, hk⟩
      go_wp2_with fail
      refine (H16b.out _ _ hwW hk).mono ?_
      rintro e w11 ⟨rfl, hk⟩
      go_wp2_with fail
      refine (K9.out _ _ hwW hk).mono ?_
      rintro e w12 ⟨rfl, hk⟩
      go_wp2_with fail
      refine (H14.out _ _ hwW hk).mono ?_
      rintro e w13 ⟨rfl, hk⟩
      go_wp2_with fail
      go_ret
      exact ⟨rfl, Kept0.below (hk0.trans hk)⟩
    · clear HM1 H15b H9b
      go_wp2_with fail
      refine (H14.out _ _ hwW hk).mono ?_
      rintro e w13 ⟨rfl, hk⟩
      go_wp2_with fail
      go_ret
      exact ⟨rfl, Kept0.below (hk0.trans hk)⟩

theorem may_low : allB (fun n => mayN n) 64 = true := by kernel_rfl
theorem may_keep : allB2 (fun n => !(mayN n) || mayN (n &&& 16253)) 128 = true := by kernel_rfl
theorem keep_may {n : Nat} (h : mayN n = true) (hn : n < 16384) (p : Int) : mayN (n &&& maskN p) = true := by
  have small : ∀ m, m < 64 → mayN (n &&& m) = true := fun m hm => allB_spec may_low _ (Nat.lt_of_le_of_lt Nat.and_le_right hm)
  unfold maskN
  by_cases h2 : p = 2
  · rw [if_pos h2]
    have := allB2_spec may_keep n (by omega)
    rw [h] at this
    simpa using this
  rw [if_neg h2]
  by_cases h3 : p = 3
  · rw [if_pos h3]; exact small 62 (by omega)
  rw [if_neg h3]
  by_cases h4 : p = 4
  · rw [if_pos h4]; exact small 60 (by omega)
  rw [if_neg h4]
  exact small 0 (by omega)

theorem namesN_len (n : Nat) : (namesN n).length ≤ 72 := by
  unfold namesN
  split
  · decide
  · exact names_len n

theorem back_calls (a p y0 y1 : Int) (ha0 : -9223372036854775808 ≤ a) (ha1 : a ≤ 9223372036854775807) (w : World) (hw : WordsAt w) :
    Calls Tryd.prog 6 #[.int .i64 a, .int .i64 p, .agg (twoC y0 y1)] w fun e w' => e = .returned (.bool true) ∧ Below w.heap.size w w' := by
  have H8 := Says.pure (refMay_any a ha1)
  have H14 := Says.words awake_any
  cases hm : mayB a
  · rw [hm] at H8
    exact back_first a p y0 y1 w hw H8 H14
  rw [hm] at H8
  have hl := mayB_lt hm
  obtain ⟨n, rfl⟩ := Int.eq_ofNat_of_zero_le hl.1
  have hn : n < 16384 := by omega
  have hmn : mayN n = true := by rw [← mayB_nat]; exact hm
  have e1 : namesOf (n : Int) = namesN n := by simp [namesOf, hm]
  have H19 := Says.words (fun w' => names_any (n : Int) ha0 ha1 w')
  have H21 := Says.words (fun w' => parse_any (str (namesOf (n : Int))) (by rw [e1]; show (namesN n).toArray.size ≤ 1000; rw [List.size_toArray]; have := namesN_len n; omega) w')
  have eP : parseV (str (namesOf (n : Int))).data.toList = .tuple #[.int .i64 (n : Int), .int .i64 0] := by
    rw [show (str (namesOf (n : Int))).data.toList = namesOf (n : Int) by simp [str]]
    have hp : parseN (namesOf (n : Int)) = n := by rw [e1]; exact parse_names hmn hn
    unfold parseV
    rw [hp]
    simp
  rw [eP] at H21
  have hkk : mayB ((n &&& maskN p : Nat) : Int) = true := by rw [mayB_nat]; exact keep_may hmn hn p
  have hkl := (mayB_lt hkk).2
  have H13 := Says.words (fun w' => keep_any p (n : Int) ha0 ha1 w')
  rw [show keepN p (n : Int) = n &&& maskN p by simp [keepN, hm]] at H13
  have H13b := Says.words (fun w' => keep_any p ((n &&& maskN p : Nat) : Int) (by omega) (by omega) w')
  rw [show keepN p ((n &&& maskN p : Nat) : Int) = n &&& maskN p by simp only [keepN, hkk, if_true, Int.toNat_natCast]; rw [Nat.and_assoc, Nat.and_self]] at H13b
  have H9 := Says.words (fun w' => may_any ((n &&& maskN p : Nat) : Int) (by omega) (by omega) w')
  rw [show mayE ((n &&& maskN p : Nat) : Int) = 0 by simp [mayE, hkk]] at H9
  have H16 := Says.words (fun w' => colours_any (n : Int) ha0 ha1 w')
  rw [show colF (n : Int) = seeF n by simp [colF, hm], show colB (n : Int) = seeB n by simp [colB, hm]] at H16
  have H15 := Says.words (fun w' => paint_any (n : Int) y0 y1 ha0 ha1 w')
  have H16b := Says.words (fun w' => colours_any 0 (by omega) (by omega) w')
  rw [show (colF 0 : Int) = 7 by decide +kernel, show (colB 0 : Int) = 0 by decide +kernel] at H16b
  have hfo := foN_lt n
  have hba := baN_lt n
  have her : paintE (n : Int) y0 y1 = 0 ∨ paintE (n : Int) y0 y1 = 11 := by
    simp only [paintE, hm, if_true]
    split
    · exact Or.inl rfl
    · exact Or.inr rfl
  have hc : paintE (n : Int) y0 y1 = 0 → ∃ F B, F < 8 ∧ B < 8 ∧ paintN (n : Int) y0 y1 = n % 64 + 64 + 256 * F + 2048 * B := by
    intro h
    simp only [paintE, hm, if_true] at h
    cases hpp : (paintsB y0 && paintsB y1)
    · rw [hpp] at h; simp at h
    · refine ⟨if y0 < 0 then foN n else y0.toNat, if y1 < 0 then baN n else y1.toNat, ?_, ?_, ?_⟩
      · simp only [Bool.and_eq_true, paintsB, decide_eq_true_eq] at hpp
        split <;> omega
      · simp only [Bool.and_eq_true, paintsB, decide_eq_true_eq] at hpp
        split <;> omega
      · simp only [paintN, hm, hpp, if_true, mixN, Int.toNat_natCast]
  refine back_core (n : Int) p y0 y1 (str (namesOf (n : Int))) (n &&& maskN p) (seeF n) (seeB n) (paintN (n : Int) y0 y1) (paintE (n : Int) y0 y1) ((n % 64 : Nat) : Int) (bitN n 32) hl.1 hl.2 ?_ ?_ ?_ ?_ ?_ her ?_ (by omega) w hw H8 H14 H19 H21 H13 H13b H9 H16 H15 ?_ H16b ?_
  · have := Nat.and_le_left (n := n) (m := maskN p)
    omega
  · unfold seeF; (repeat' split) <;> omega
  · unfold seeB; (repeat' split) <;> omega
  · unfold bitN
    by_cases h : n / 32 % 2 = 1
    · have h2 : (n : Int) / 32 % 2 = 1 := by omega
      rw [h, h2]; rfl
    · have h2 : ¬ (n : Int) / 32 % 2 = 1 := by omega
      rw [beq_eq_false_iff_ne.2 h2, beq_eq_false_iff_ne.2 h]
  · intro h
    unfold seeF seeB
    rw [h, if_pos rfl]
  · intro h
    obtain ⟨F, B, hF, hB, hx⟩ := hc h
    obtain ⟨x1, _, x3, _⟩ := mix_facts (by omega) hF hB hx
    exact ⟨x1, by omega⟩
  · intro h
    obtain ⟨F, B, hF, hB, hx⟩ := hc h
    obtain ⟨x1, x2, x3, x4, x5, _⟩ := mix_facts (by omega) hF hB hx
    have hmx : mayB (paintN (n : Int) y0 y1 : Int) = true := by rw [mayB_nat]; exact x2
    have K := Says.words (fun w' => paint_any (paintN (n : Int) y0 y1 : Int) (-1) (-1) (by omega) (by omega) w')
    rw [show paintE (paintN (n : Int) y0 y1 : Int) (-1) (-1) = 0 by simp only [paintE, hmx]; rfl] at K
    rw [show paintN (paintN (n : Int) y0 y1 : Int) (-1) (-1) = paintN (n : Int) y0 y1 by
      rw [paintN, hmx]
      simp only [if_true, show (paintsB (-1) && paintsB (-1)) = true from rfl, Int.toNat_natCast, mixN, x3, x4, x5]
      rw [if_pos (by omega), if_pos (by omega), hx]] at K
    exact K.out
  · intro h
    obtain ⟨F, B, hF, hB, hx⟩ := hc h
    obtain ⟨x1, x2, _⟩ := mix_facts (by omega) hF hB hx
    have hmx : mayB (paintN (n : Int) y0 y1 : Int) = true := by rw [mayB_nat]; exact x2
    have K := Says.words (fun w' => may_any (paintN (n : Int) y0 y1 : Int) (by omega) (by omega) w')
    rw [show mayE (paintN (n : Int) y0 y1 : Int) = 0 by simp [mayE, hmx]] at K
    exact K.out

#print axioms back_calls
end Go.Proofs.YtacnoakgfkcfbaaDoor
