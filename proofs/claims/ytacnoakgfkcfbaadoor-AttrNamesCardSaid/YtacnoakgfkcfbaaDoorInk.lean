/-
  What Mask, Keep, Paint and Colours answer, the code's and the document's.
-/
import Derived.Test.YtacnoakgfkcfbaaDoorMay
namespace Go.Proofs.YtacnoakgfkcfbaaDoor
open Go.RowKit

theorem and_pow (n k : Nat) : (n &&& 2 ^ k == 0) = !(bitN n (2 ^ k)) := by
  have hb : bitN n (2 ^ k) = n.testBit k := by
    rw [Nat.testBit_eq_decide_div_mod_eq]
    unfold bitN
    by_cases h : n / 2 ^ k % 2 = 1 <;> simp [h]
  rw [hb]
  cases ht : n.testBit k
  · have : n &&& 2 ^ k = 0 := by
      apply Nat.eq_of_testBit_eq
      intro i
      rw [Nat.testBit_and, Nat.testBit_two_pow, Nat.zero_testBit]
      by_cases e : k = i
      · subst e; simp [ht]
      · simp [e]
    rw [this]; rfl
  · have : ¬ n &&& 2 ^ k = 0 := by
      intro e
      have h2 : (n &&& 2 ^ k).testBit k = false := by rw [e]; exact Nat.zero_testBit k
      rw [Nat.testBit_and, Nat.testBit_two_pow, ht] at h2
      simp at h2
    rw [beq_eq_false_iff_ne.2 this]; rfl
theorem and_bit (n k : Nat) (hn : n < 16384) (hk : 2 ^ k < 16384) : (bits .and .i64 (n : Int) ((2 ^ k : Nat) : Int) == 0) = !(bitN n (2 ^ k)) := by
  rw [i64_and n (2 ^ k) (by omega) (by omega), ← and_pow]
  by_cases h : n &&& 2 ^ k = 0
  · rw [h]; rfl
  · have h2 : ¬ ((n &&& 2 ^ k : Nat) : Int) = 0 := by omega
    rw [beq_eq_false_iff_ne.2 h2, beq_eq_false_iff_ne.2 h]
theorem and_seven (n : Nat) (hn : n < 16384) : bits .and .i64 (n : Int) 7 = ((n % 8 : Nat) : Int) := by
  have := i64_and n 7 (by omega) (by omega)
  rw [show ((7 : Nat) : Int) = 7 from rfl] at this
  rw [this, Nat.and_two_pow_sub_one_eq_mod n 3]

/-- The colours that attributes have. -/
def foN (n : Nat) : Nat := if bitN n 64 then n / 256 % 8 else 7
def baN (n : Nat) : Nat := if bitN n 64 then n / 2048 % 8 else 0
theorem foN_lt (n : Nat) : foN n < 8 := by unfold foN; split <;> omega
theorem baN_lt (n : Nat) : baN n < 8 := by unfold baN; split <;> omega

/-- As they are seen. -/
def seeF (n : Nat) : Nat := if bitN n 32 then (if bitN n 16 then foN n else baN n) else (if bitN n 16 then baN n else foN n)
def seeB (n : Nat) : Nat := if bitN n 16 then foN n else baN n
def colF (a : Int) : Nat := if mayB a then seeF a.toNat else 7
def colB (a : Int) : Nat := if mayB a then seeB a.toNat else 0

theorem own_any (n : Nat) (hn : n < 16384) (w : World) : Calls Tryd.prog 27 #[.int .i64 (n : Int)] w fun e w' => e = .returned (.tuple #[.int .i64 (foN n : Int), .int .i64 (baN n : Int)]) ∧ w' = w := by
  have h64 := and_bit n 6 hn (by omega)
  rw [show ((2 ^ 6 : Nat) : Int) = 64 from rfl, show (2 ^ 6 : Nat) = 64 from rfl] at h64
  obtain ⟨F, hF⟩ : ∃ F : Int, F = (foN n : Int) := ⟨_, rfl⟩
  obtain ⟨B, hB⟩ : ∃ B : Int, B = (baN n : Int) := ⟨_, rfl⟩
  rw [← hF, ← hB]
  unfold foN at hF
  unfold baN at hB
  cases hb : bitN n 64
  · rw [hb] at hF hB
    rw [hb, Bool.not_false] at h64
    subst hF hB
    go_enter Tryd.func27, Tryd.ntmps27
    go_wp2_with fail
    go_ret2
    exact ⟨rfl, rfl⟩
  · rw [hb, if_pos rfl] at hF hB
    rw [hb, Bool.not_true] at h64
    rw [← and_seven (n / 256) (by omega), Int.natCast_ediv] at hF
    rw [← and_seven (n / 2048) (by omega), Int.natCast_ediv] at hB
    have HF := Lib.hid hF
    have HB := Lib.hid hB
    clear hF hB
    go_enter Tryd.func27, Tryd.ntmps27
    go_wp2_with fail
    go_ret2
    exact ⟨by rw [HF.out, HB.out]; rfl, rfl⟩

theorem coloured_any (f b : Nat) (hf : f < 8) (hb : b < 8) (w : World) : Calls Tryd.prog 25 #[.int .i64 (f : Int), .int .i64 (b : Int)] w fun e w' => e = .returned (.int .i64 ((64 + 256 * f + 2048 * b : Nat) : Int)) ∧ w' = w := by
  have e : bits .or .i64 (bits .or .i64 64 ((f : Int) * 256)) ((b : Int) * 2048) = ((64 + 256 * f + 2048 * b : Nat) : Int) := by
    have q : ∀ f b : Fin 8, 64 ||| f.val * 256 ||| b.val * 2048 = 64 + 256 * f.val + 2048 * b.val := by decide +kernel
    have q1 := i64_or 64 (f * 256) (by omega) (by omega)
    have q2 := i64_or (64 ||| f * 256) (b * 2048) (Nat.lt_trans (Nat.or_lt_two_pow (n := 14) (by omega) (by omega)) (by omega)) (by omega)
    rw [← q ⟨f, hf⟩ ⟨b, hb⟩, ← q2, ← q1]
    simp
  obtain ⟨R, hR⟩ : ∃ R : Int, R = ((64 + 256 * f + 2048 * b : Nat) : Int) := ⟨_, rfl⟩
  rw [← hR] at e ⊢
  have E := Lib.hid e
  clear e hR
  go_enter Tryd.func25, Tryd.ntmps25
  go_wp2_with fail
  go_ret
  exact ⟨by rw [← E.out]; rfl, rfl⟩

def paintsB (c : Int) : Bool := decide (-1 ≤ c) && decide (c ≤ 7)
theorem paints_any (c : Int) (w : World) : Calls Tryd.prog 26 #[.int .i64 c] w fun e w' => e = .returned (.bool (paintsB c)) ∧ w' = w := by
  obtain ⟨R, hR⟩ : ∃ R, R = paintsB c := ⟨_, rfl⟩
  rw [← hR]
  by_cases h : -1 ≤ c
  · have e1 : R = decide (c ≤ 7) := by rw [hR, paintsB]; simp [h]
    subst e1
    clear hR
    go_enter Tryd.func26, Tryd.ntmps26
    go_wp2_with fail
    go_ret
    exact ⟨rfl, rfl⟩
  · have e1 : R = false := by rw [hR, paintsB]; simp [h]
    subst e1
    clear hR
    go_enter Tryd.func26, Tryd.ntmps26
    go_wp2_with fail
    go_ret
    exact ⟨rfl, rfl⟩

def maskN (p : Int) : Nat := if p = 2 then 16253 else if p = 3 then 62 else if p = 4 then 60 else 0
theorem maskN_lt (p : Int) : maskN p < 16384 := by unfold maskN; (repeat' split) <;> omega
theorem mask_any (p : Int) (w : World) : Calls Tryd.prog 12 #[.int .i64 p] w fun e w' => e = .returned (.int .i64 (maskN p : Int)) ∧ w' = w := by
  unfold maskN
  by_cases h2 : p = 2
  · subst h2
    have e : bits .or .i64 61 16192 = 16253 := by decide +kernel
    go_enter Tryd.func12, Tryd.ntmps12
    go_wp2_with fail
    refine (coloured_any 7 7 (by omega) (by omega) _).mono ?_
    rintro e w1 ⟨rfl, rfl⟩
    go_wp2_with fail
    go_ret
    exact ⟨rfl, rfl⟩
  by_cases h3 : p = 3
  · subst h3
    go_enter Tryd.func12, Tryd.ntmps12
    go_wp2_with fail
    go_ret
    exact ⟨rfl, rfl⟩
  by_cases h4 : p = 4
  · subst h4
    go_enter Tryd.func12, Tryd.ntmps12
    go_wp2_with fail
    go_ret
    exact ⟨rfl, rfl⟩
  rw [if_neg h2, if_neg h3, if_neg h4]
  go_enter Tryd.func12, Tryd.ntmps12
  go_wp2_with fail
  go_ret
  exact ⟨rfl, rfl⟩

def keepN (p a : Int) : Nat := if mayB a then a.toNat &&& maskN p else 0

theorem mayB_lt {a : Int} (h : mayB a = true) : 0 ≤ a ∧ a < 16384 := by
  simp only [mayB, mayN, Bool.and_eq_true, decide_eq_true_eq] at h
  omega

theorem keep_any (p a : Int) (h0 : -9223372036854775808 ≤ a) (h1 : a ≤ 9223372036854775807) (w : World) (hw : WordsAt w) :
    Calls Tryd.prog 13 #[.int .i64 p, .int .i64 a] w fun e w' => e = .returned (.int .i64 (keepN p a : Int)) ∧ Kept0 w w' := by
  have hM := may_any a h0 h1 w hw
  unfold mayE at hM
  unfold keepN
  cases hm : mayB a
  · rw [hm] at hM
    have HM := Lib.hid hM
    clear hM
    go_enter Tryd.func13, Tryd.ntmps13
    go_wp2_with fail
    refine HM.out.mono ?_
    rintro e w1 ⟨rfl, hk1⟩
    go_wp2_with fail
    go_ret
    exact ⟨rfl, hk1⟩
  · rw [hm] at hM
    have HM := Lib.hid hM
    clear hM
    obtain ⟨n, rfl⟩ := Int.eq_ofNat_of_zero_le (mayB_lt hm).1
    have hn := (mayB_lt hm).2
    obtain ⟨R, hR⟩ : ∃ R : Int, R = ((if true = true then (n : Int).toNat &&& maskN p else 0 : Nat) : Int) := ⟨_, rfl⟩
    rw [← hR]
    rw [if_pos rfl, Int.toNat_natCast, ← i64_and n (maskN p) (by omega) (by have := maskN_lt p; omega)] at hR
    have E := Lib.hid hR
    clear hR
    go_enter Tryd.func13, Tryd.ntmps13
    go_wp2_with fail
    refine HM.out.mono ?_
    rintro e w1 ⟨rfl, hk1⟩
    go_wp2_with fail
    refine (mask_any p _).mono ?_
    rintro e w2 ⟨rfl, rfl⟩
    go_wp2_with fail
    go_ret
    exact ⟨by rw [E.out]; rfl, hk1⟩

theorem colours_any (a : Int) (h0 : -9223372036854775808 ≤ a) (h1 : a ≤ 9223372036854775807) (w : World) (hw : WordsAt w) :
    Calls Tryd.prog 16 #[.int .i64 a] w fun e w' => e = .returned (.tuple #[.int .i64 (colF a : Int), .int .i64 (colB a : Int)]) ∧ Kept0 w w' := by
  have hM := may_any a h0 h1 w hw
  unfold mayE at hM
  obtain ⟨F, hF⟩ : ∃ F : Int, F = (colF a : Int) := ⟨_, rfl⟩
  obtain ⟨B, hB⟩ : ∃ B : Int, B = (colB a : Int) := ⟨_, rfl⟩
  rw [← hF, ← hB]
  unfold colF at hF
  unfold colB at hB
  cases hm : mayB a
  · rw [hm] at hM hF hB
    subst hF hB
    have HM := Lib.hid hM
    clear hM
    go_enter Tryd.func16, Tryd.ntmps16
    go_wp2_with fail
    refine HM.out.mono ?_
    rintro e w1 ⟨rfl, hk1⟩
    go_wp2_with fail
    go_ret2
    exact ⟨rfl, hk1⟩
  · rw [hm, if_pos rfl] at hF hB
    rw [hm] at hM
    have HM := Lib.hid hM
    clear hM
    obtain ⟨n, rfl⟩ := Int.eq_ofNat_of_zero_le (mayB_lt hm).1
    have hn : n < 16384 := by have := (mayB_lt hm).2; omega
    rw [Int.toNat_natCast] at hF hB
    have hO := Lib.hid (own_any n hn)
    unfold seeF at hF
    unfold seeB at hB
    have h16 := and_bit n 4 hn (by omega)
    rw [show ((2 ^ 4 : Nat) : Int) = 16 from rfl, show (2 ^ 4 : Nat) = 16 from rfl] at h16
    have h32 := and_bit n 5 hn (by omega)
    rw [show ((2 ^ 5 : Nat) : Int) = 32 from rfl, show (2 ^ 5 : Nat) = 32 from rfl] at h32
    clear hm
    obtain ⟨fo, hfo⟩ : ∃ fo, fo = foN n := ⟨_, rfl⟩
    obtain ⟨ba, hba⟩ : ∃ ba, ba = baN n := ⟨_, rfl⟩
    rw [← hfo, ← hba] at hF hB hO
    clear hfo hba
    cases hb16 : bitN n 16 <;> cases hb32 : bitN n 32
    all_goals
      rw [hb16] at hF hB h16
      rw [hb32] at hF h32
      simp only [Bool.not_true, Bool.not_false, if_true, Bool.false_eq_true, if_false] at hF hB h16 h32
      subst hF hB
      clear hb16 hb32
      go_enter Tryd.func16, Tryd.ntmps16
      go_wp2_with fail
      refine HM.out.mono ?_
      rintro e w1 ⟨rfl, hk1⟩
      go_wp2_with fail
      refine (hO.out _).mono ?_
      rintro e w2 ⟨rfl, rfl⟩
      go_wp2_with fail
      go_ret2
      exact ⟨rfl, hk1⟩

/-- Paint: the attributes, and the error. -/
def mixN (n : Nat) (fore back : Int) : Nat := n % 64 + 64 + 256 * (if fore < 0 then foN n else fore.toNat) + 2048 * (if back < 0 then baN n else back.toNat)
def paintE (a fore back : Int) : Int := if mayB a then (if paintsB fore && paintsB back then 0 else 11) else 1
def paintN (a fore back : Int) : Nat := if mayB a then (if paintsB fore && paintsB back then mixN a.toNat fore back else 0) else 0

theorem strip_all : allB2 (fun n => !(mayN n) || (n &&& (18446744073709551615 - 16192) == n % 64)) 128 = true := by kernel_rfl
theorem strip_eq {n : Nat} (h : mayN n = true) (hn : n < 16384) : bits .andNot .i64 (n : Int) 16192 = ((n % 64 : Nat) : Int) := by
  have h1 := allB2_spec strip_all n (by omega)
  rw [h] at h1
  have h2 := i64_andNot n 16192 (by omega) (by omega)
  rw [show ((16192 : Nat) : Int) = 16192 from rfl] at h2
  rw [h2]
  simp only [Bool.not_true, Bool.false_or, beq_iff_eq] at h1
  rw [h1]
theorem mix_all : allB (fun n => allB (fun f => allB (fun b => n ||| (64 + 256 * f + 2048 * b) == n + 64 + 256 * f + 2048 * b) 8) 8) 64 = true := by kernel_rfl
theorem mix_eq {n f b : Nat} (hn : n < 64) (hf : f < 8) (hb : b < 8) : bits .or .i64 (n : Int) ((64 + 256 * f + 2048 * b : Nat) : Int) = ((n + 64 + 256 * f + 2048 * b : Nat) : Int) := by
  have h1 := allB_spec (allB_spec (allB_spec mix_all n hn) f hf) b hb
  rw [i64_or n (64 + 256 * f + 2048 * b) (by omega) (by omega)]
  simp only [beq_iff_eq] at h1
  rw [h1]

theorem paint_core (n : Nat) (hn : n < 16384) (hmn : mayN n = true) (fore back : Int) (fo ba F B : Nat) (h1 : fore = (F : Int) ∨ (fore = -1 ∧ F = fo)) (h3 : back = (B : Int) ∨ (back = -1 ∧ B = ba)) (hF : F < 8) (hB : B < 8) (w : World)
    (hM : Calls Tryd.prog 9 #[.int .i64 (n : Int)] w fun e w' => e = .returned (.int .i64 0) ∧ Kept0 w w') (hO : Hid (∀ w, Calls Tryd.prog 27 #[.int .i64 (n : Int)] w fun e w' => e = .returned (.tuple #[.int .i64 (fo : Int), .int .i64 (ba : Int)]) ∧ w' = w)) :
    Calls Tryd.prog 15 #[.int .i64 (n : Int), .int .i64 fore, .int .i64 back] w fun e w' => e = .returned (.tuple #[.int .i64 ((n % 64 + 64 + 256 * F + 2048 * B : Nat) : Int), .int .i64 0]) ∧ Kept0 w w' := by
  have HM := Lib.hid hM
  have hs := strip_eq hmn hn
  have he := mix_eq (n := n % 64) (f := F) (b := B) (by omega) hF hB
  rw [← hs] at he
  have hp1 : paintsB fore = true := by rcases h1 with rfl | ⟨rfl, _⟩ <;> simp [paintsB] <;> omega
  have hp2 : paintsB back = true := by rcases h3 with rfl | ⟨rfl, _⟩ <;> simp [paintsB] <;> omega
  have HP1 := paints_any fore
  have HP2 := paints_any back
  rw [hp1] at HP1
  rw [hp2] at HP2
  replace HP1 := Lib.hid HP1
  replace HP2 := Lib.hid HP2
  have HC := coloured_any F B hF hB
  obtain ⟨C, hC⟩ : ∃ C : Int, C = ((64 + 256 * F + 2048 * B : Nat) : Int) := ⟨_, rfl⟩
  obtain ⟨R, hR⟩ : ∃ R : Int, R = ((n % 64 + 64 + 256 * F + 2048 * B : Nat) : Int) := ⟨_, rfl⟩
  rw [← hR] at he
  rw [← hR]
  rw [← hC] at HC he
  replace HC := Lib.hid HC
  have HE := Lib.hid he
  have HC7 := Lib.hid (coloured_any 7 7 (by omega) (by omega))
  clear hM hp1 hp2 hmn hR hC he hs
  rcases h1 with rfl | ⟨rfl, rfl⟩ <;> rcases h3 with rfl | ⟨rfl, rfl⟩
  all_goals
    go_enter Tryd.func15, Tryd.ntmps15
    go_wp2_with fail
    refine HM.out.mono ?_
    rintro e w1 ⟨rfl, hk1⟩
    go_wp2_with fail
    refine (HP1.out _).mono ?_
    rintro e w2 ⟨rfl, rfl⟩
    go_wp2_with fail
    refine (HP2.out _).mono ?_
    rintro e w2 ⟨rfl, rfl⟩
    go_wp2_with fail
    refine (hO.out _).mono ?_
    rintro e w2 ⟨rfl, rfl⟩
    go_wp2_with fail
    refine (HC7.out _).mono ?_
    rintro e w2 ⟨rfl, rfl⟩
    go_wp2_with fail
    refine (HC.out _).mono ?_
    rintro e w2 ⟨rfl, rfl⟩
    go_wp2_with fail
    go_ret2
    exact ⟨by rw [← HE.out]; rfl, hk1⟩

theorem paint_any (a fore back : Int) (h0 : -9223372036854775808 ≤ a) (h1 : a ≤ 9223372036854775807) (w : World) (hw : WordsAt w) :
    Calls Tryd.prog 15 #[.int .i64 a, .int .i64 fore, .int .i64 back] w fun e w' => e = .returned (.tuple #[.int .i64 (paintN a fore back : Int), .int .i64 (paintE a fore back)]) ∧ Kept0 w w' := by
  have hM := may_any a h0 h1 w hw
  unfold mayE at hM
  cases hm : mayB a
  · rw [hm] at hM
    have e1 : paintN a fore back = 0 := by simp [paintN, hm]
    have e2 : paintE a fore back = 1 := by simp [paintE, hm]
    rw [e1, e2]
    have HM := Lib.hid hM
    clear hM
    go_enter Tryd.func15, Tryd.ntmps15
    go_wp2_with fail
    refine HM.out.mono ?_
    rintro e w1 ⟨rfl, hk1⟩
    go_wp2_with fail
    go_ret2
    exact ⟨rfl, hk1⟩
  · rw [hm] at hM
    by_cases hp : paintsB fore = true
    · by_cases hq : paintsB back = true
      · obtain ⟨n, rfl⟩ := Int.eq_ofNat_of_zero_le (mayB_lt hm).1
        have hn : n < 16384 := by have := (mayB_lt hm).2; omega
        have hmn : mayN n = true := by rw [← mayB_nat]; exact hm
        have e1 : paintN (n : Int) fore back = mixN n fore back := by simp [paintN, hm, hp, hq]
        have e2 : paintE (n : Int) fore back = 0 := by simp [paintE, hm, hp, hq]
        rw [e1, e2]
        simp only [paintsB, Bool.and_eq_true, decide_eq_true_eq] at hp hq
        have hfl := foN_lt n
        have hbl := baN_lt n
        exact paint_core n hn hmn fore back (foN n) (baN n) _ _ (by split <;> omega) (by split <;> omega) (by split <;> omega) (by split <;> omega) w hM (Lib.hid (own_any n hn))
      · have e1 : paintN a fore back = 0 := by simp [paintN, hq]
        have e2 : paintE a fore back = 11 := by simp [paintE, hm, hq]
        rw [e1, e2]
        have HP1 := paints_any fore
        have HP2 := paints_any back
        rw [hp] at HP1
        rw [eq_false_of_ne_true hq] at HP2
        replace HP1 := Lib.hid HP1
        replace HP2 := Lib.hid HP2
        have HM := Lib.hid hM
        clear hM hp hq hm
        go_enter Tryd.func15, Tryd.ntmps15
        go_wp2_with fail
        refine HM.out.mono ?_
        rintro e w1 ⟨rfl, hk1⟩
        go_wp2_with fail
        refine (HP1.out _).mono ?_
        rintro e w2 ⟨rfl, rfl⟩
        go_wp2_with fail
        refine (HP2.out _).mono ?_
        rintro e w2 ⟨rfl, rfl⟩
        go_wp2_with fail
        go_ret2
        exact ⟨rfl, hk1⟩
    · have e1 : paintN a fore back = 0 := by simp [paintN, hp]
      have e2 : paintE a fore back = 11 := by simp [paintE, hm, hp]
      rw [e1, e2]
      have HP1 := paints_any fore
      rw [eq_false_of_ne_true hp] at HP1
      replace HP1 := Lib.hid HP1
      have HM := Lib.hid hM
      clear hM hp hm
      go_enter Tryd.func15, Tryd.ntmps15
      go_wp2_with fail
      refine HM.out.mono ?_
      rintro e w1 ⟨rfl, hk1⟩
      go_wp2_with fail
      refine (HP1.out _).mono ?_
      rintro e w2 ⟨rfl, rfl⟩
      go_wp2_with fail
      go_ret2
      exact ⟨rfl, hk1⟩

#print axioms paint_any
end Go.Proofs.YtacnoakgfkcfbaaDoor
