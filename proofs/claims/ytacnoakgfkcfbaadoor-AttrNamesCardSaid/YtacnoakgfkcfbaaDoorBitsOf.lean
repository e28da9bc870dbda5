/-
  What a part of a text tells.
-/
import Derived.Test.YtacnoakgfkcfbaaDoorSplit
namespace Go.Proofs.YtacnoakgfkcfbaaDoor
open Go.RowKit

/-- What is cut off, and whether it was there. -/
def cutV (s p : ByteArray) : Value := if Lib.hasPrefix s.data.toList p.data.toList then .tuple #[.string (str (s.data.toList.drop p.size)), .bool true] else .tuple #[.string s, .bool false]
theorem hasPrefix_le {s p : ByteArray} (h : Lib.hasPrefix s.data.toList p.data.toList = true) : p.size ≤ s.size := by
  have h1 : p.data.toList <+: s.data.toList := List.isPrefixOf_iff_prefix.1 h
  have := h1.length_le
  simpa using this
theorem extract_str (s : ByteArray) (i : Nat) : s.extract i s.size = str (s.data.toList.drop i) := by
  apply ByteArray.ext
  rw [ByteArray.data_extract]
  apply Array.ext'
  simp only [str, Array.toList_extract]
  rw [List.extract_eq_take_drop]
  exact List.take_of_length_le (by simp)
theorem cutlite_any (s p : ByteArray) (w : World) : Calls Tryd.prog 48 #[.string s, .string p] w fun e w' => e = .returned (cutV s p) ∧ w' = w := by
  have H := hasPrefix_any s p
  obtain ⟨R, hR⟩ : ∃ R, R = cutV s p := ⟨_, rfl⟩
  rw [← hR]
  unfold cutV at hR
  cases hp : Lib.hasPrefix s.data.toList p.data.toList
  · rw [hp] at H hR
    have HR := Lib.hid hR
    have HH := Lib.hid H
    clear hR H hp
    go_enter Tryd.func48, Tryd.ntmps48
    go_wp2_with fail
    refine (HH.out _).mono ?_
    rintro e w1 ⟨rfl, rfl⟩
    go_wp2_with fail
    go_ret2
    exact ⟨by rw [HR.out]; rfl, rfl⟩
  · rw [hp] at H hR
    have hle := hasPrefix_le hp
    rw [if_pos rfl, ← extract_str] at hR
    have HR := Lib.hid hR
    have HH := Lib.hid H
    clear hR H hp
    go_enter Tryd.func48, Tryd.ntmps48
    go_wp2_with fail
    refine (HH.out _).mono ?_
    rintro e w1 ⟨rfl, rfl⟩
    go_wp2_with fail
    go_ret2
    exact ⟨by rw [HR.out]; rfl, rfl⟩
theorem cut_any (s p : ByteArray) (w : World) : Calls Tryd.prog 40 #[.string s, .string p] w fun e w' => e = .returned (cutV s p) ∧ w' = w := by
  have H := cutlite_any s p
  unfold cutV at H ⊢
  cases hp : Lib.hasPrefix s.data.toList p.data.toList
  all_goals
    rw [hp] at H
    have HH := Lib.hid H
    clear H hp
    go_enter Tryd.func40, Tryd.ntmps40
    go_wp2_with fail
    refine (HH.out _).mono ?_
    rintro e w1 ⟨rfl, rfl⟩
    go_wp2_with fail
    go_ret2
    exact ⟨rfl, rfl⟩

set_option maxRecDepth 100000 in
theorem read_any (k : Nat) (rest : ByteArray) (w : World) : Calls Tryd.prog 41 #[.agg (wcell k), .string rest] w fun e w' => e = .returned (.int .i64 (readP k rest.data.toList : Int)) ∧ Kept0 w w' := by
  have hbl := bitOf_lt k
  have hul := unitOf_le k
  unfold wcell
  by_cases hu : unitOf k = 0
  · have e1 : readP k rest.data.toList = bitOf k := by simp [readP, hu]
    rw [e1, hu]
    go_enter Tryd.func41, Tryd.ntmps41
    go_wp2_with fail
    go_ret
    exact ⟨rfl, (Kept.refl _ w).alloc _⟩
  · have hu2 : ((unitOf k : Int) == 0) = false := by simp; omega
    by_cases hsz : rest.size = 1
    · obtain ⟨d, hd⟩ : ∃ d : Nat, (rest[0]'(by omega)).toNat = d := ⟨_, rfl⟩
      have hl : rest.data.toList = [rest[0]'(by omega)] := by
        obtain ⟨⟨l⟩⟩ := rest
        match l, hsz with
        | [c], _ => rfl
      have e1 : readP k rest.data.toList = if d < 48 ∨ 55 < d then 0 else bitOf k ||| (d - 48) * unitOf k := by
        rw [hl]
        simp only [readP, hu, if_false, UInt8.lt_iff_toNat_lt, hd]
        rfl
      have hd8 : d < 256 := by rw [← hd]; exact UInt8.toNat_lt _
      obtain ⟨R, hR⟩ : ∃ R, R = readP k rest.data.toList := ⟨_, rfl⟩
      rw [← hR] at e1 ⊢
      clear hR hl
      by_cases h1 : d < 48
      · rw [if_pos (Or.inl h1)] at e1
        subst e1
        go_enter Tryd.func41, Tryd.ntmps41
        go_wp2_with fail
        go_ret
        exact ⟨rfl, (Kept.refl _ w).alloc _⟩
      · by_cases h2 : 55 < d
        · rw [if_pos (Or.inr h2)] at e1
          subst e1
          go_enter Tryd.func41, Tryd.ntmps41
          go_wp2_with fail
          go_ret
          exact ⟨rfl, (Kept.refl _ w).alloc _⟩
        · rw [if_neg (by omega)] at e1
          obtain ⟨u, hu3⟩ : ∃ u, u = unitOf k := ⟨_, rfl⟩
          rw [← hu3] at e1 hul hu hu2 ⊢
          have hmul : (d - 48) * u ≤ 7 * 2048 := Nat.mul_le_mul (by omega) hul
          have hor := i64_or (bitOf k) ((d - 48) * u) (by omega) (by omega)
          have hz : (((d - 48) * u : Nat) : Int) = ((d : Int) - 48) * (u : Int) := by
            rw [Int.natCast_mul, Int.ofNat_sub (by omega)]; rfl
          rw [hz, ← e1] at hor
          have HO := Lib.hid hor
          have hw8 : IntKind.u8.wrap ((d : Int) - 48) = (d : Int) - 48 := by
            simp [IntKind.wrap, IntKind.bits, IntKind.signed]
            omega
          have hw64 : IntKind.i64.wrap (((d : Int) - 48) * (u : Int)) = ((d : Int) - 48) * (u : Int) := by
            rw [← hz]; exact wrap_in _ (by omega) (by omega)
          have hw65 : IntKind.i64.wrap ((d : Int) - 48) = (d : Int) - 48 := wrap_in _ (by omega) (by omega)
          clear hor hz e1 hu3
          go_enter Tryd.func41, Tryd.ntmps41
          go_wp2_with fail
          go_quiet (fail)
          go_wp2
          go_ret
          exact ⟨by rw [← HO.out]; rfl, ((Kept.refl _ w).alloc _).drewN _⟩
    · have e1 : readP k rest.data.toList = 0 := by
        unfold readP
        rw [if_neg hu]
        obtain ⟨⟨l⟩⟩ := rest
        match l, hsz with
        | [], _ => rfl
        | [c], h => exact absurd rfl h
        | _ :: _ :: _, _ => rfl
      have hsz2 : ((rest.size : Int) == 1) = false := by simp; omega
      rw [e1]
      go_enter Tryd.func41, Tryd.ntmps41
      go_wp2_with fail
      go_ret
      exact ⟨rfl, (Kept.refl _ w).alloc _⟩

set_option maxRecDepth 100000 in
set_option maxHeartbeats 4000000 in
theorem bits_any (p : ByteArray) (w : World) (hw : WordsAt w) : Calls Tryd.prog 34 #[.string p] w fun e w' => e = .returned (.int .i64 (bitsP p.data.toList : Int)) ∧ Kept0 w w' := by
  obtain ⟨t, ht⟩ := hw
  have H0 : Hid (bitsP p.data.toList = bitsFrom p.data.toList 0 (8 - 0)) := rfl
  obtain ⟨R, hR⟩ : ∃ R, R = bitsP p.data.toList := ⟨_, rfl⟩
  rw [← hR] at H0 ⊢
  clear hR
  go_enter Tryd.func34, Tryd.ntmps34
  go_upto_region 1 with fail
  go_wp2_with (refine wpList_load_row rfl 49 _ rfl 0 rfl t wcells _ _ ht Tryd.underlying49 rfl info49 ?_)
  clear ht
  go_loopw [8] (fun s8 wr => ∃ k : Nat, k ≤ 8 ∧ s8 = .int .i64 (k : Int) ∧ Hid (R = bitsFrom p.data.toList k (8 - k)) ∧ Kept0 w wr) (fun s8 _ => 8 - (intOf s8).toNat)
  case atStart => exact ⟨0, by omega, rfl, H0, Kept.refl _ _⟩
  case round =>
    clear H0
    obtain ⟨k, hk, rfl, HR, hkr⟩ := hrel
    by_cases hlt : k < 8
    · have hix := word_index hlt
      have HC := cut_any p ⟨(nameOf k).toArray⟩
      have HD := Lib.hid (read_any k)
      unfold wcell at hix HD
      have e8 : 8 - k = (8 - (k + 1)) + 1 := by omega
      have hst : R = if Lib.hasPrefix p.data.toList (nameOf k) then readP k (p.data.toList.drop (nameOf k).length) else bitsFrom p.data.toList (k + 1) (8 - (k + 1)) := by
        rw [HR.out, e8]; rfl
      unfold cutV at HC
      rw [show (⟨(nameOf k).toArray⟩ : ByteArray).data.toList = nameOf k by simp, show (⟨(nameOf k).toArray⟩ : ByteArray).size = (nameOf k).length from rfl] at HC
      clear HR e8
      cases hp : Lib.hasPrefix p.data.toList (nameOf k)
      · rw [hp] at HC hst
        replace HC := Lib.hid HC
        have HS := Lib.hid hst
        clear hst hp
        go_wp2_with fail
        refine (HC.out _).mono ?_
        rintro e w1 ⟨rfl, rfl⟩
        go_wp2_with fail
        go_roundw
        case rel => exact ⟨k + 1, by omega, by go_num, HS.out, hkr.alloc _⟩
        case measure => simp [intOf]; omega
      · rw [hp, if_pos rfl] at hst
        rw [hp] at HC
        replace HC := Lib.hid HC
        have HS := Lib.hid hst
        clear hst hp
        go_wp2_with fail
        refine (HC.out _).mono ?_
        rintro e w1 ⟨rfl, rfl⟩
        go_wp2_with fail
        refine (HD.out _ _).mono ?_
        rintro e w2 ⟨rfl, hk2⟩
        go_wp2_with fail
        go_ret
        refine ⟨?_, (hkr.alloc _).trans hk2⟩
        rw [HS.out]
        simp [str]
    · obtain rfl : k = 8 := by omega
      have e0 : R = 0 := HR.out
      subst e0
      go_wp2_with fail
      go_ret
      exact ⟨rfl, hkr⟩
#print axioms bits_any
end Go.Proofs.YtacnoakgfkcfbaaDoor
