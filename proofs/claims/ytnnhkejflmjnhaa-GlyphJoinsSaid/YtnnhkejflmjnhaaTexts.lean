/-
  GlyphText answers true.
-/
import Derived.Test.YtnnhkejflmjnhaaText
import Derived.Laws.Runes
namespace Go.Proofs.Ytnnhkejflmjnhaa
open Go.RowKit

/-- Bytes as a string. -/
def str (l : List UInt8) : ByteArray := ⟨l.toArray⟩
theorem str_append (l m : List UInt8) : str l ++ str m = str (l ++ m) := by
  apply ByteArray.ext
  rw [ByteArray.data_append]
  simp [str]
theorem str_size (l : List UInt8) : (str l).size = l.length := by simp [str, ByteArray.size]

theorem byte_nat (n : Nat) : ((n : Int)).toNat.toUInt8 = UInt8.ofNat n := rfl
theorem encode_eq (r : Nat) (h : r < 65536) : Utf8.encode (r : Int) = str (Lib.encodeRune (r : Int)) := by
  by_cases h1 : r < 128
  · have hv : Utf8.valid (r : Int) = true := by simp [Utf8.valid]; omega
    rw [Lib.encodeRune, Lib.encodeRuneZ_one (by omega) (by omega)]
    simp only [Utf8.encode, hv, if_true, Int.toNat_natCast, h1, str, List.map_cons, List.map_nil]
  by_cases h2 : r < 2048
  · have hv : Utf8.valid (r : Int) = true := by simp [Utf8.valid]; omega
    rw [Lib.encodeRune, Lib.encodeRuneZ_two (by omega) (by omega)]
    simp only [Utf8.encode, hv, if_true, Int.toNat_natCast, h1, h2, if_false, str, List.map_cons, List.map_nil]
    rw [show (192 + (r : Int) / 64).toNat = 192 + r / 64 by omega, show (128 + (r : Int) % 64).toNat = 128 + r % 64 by omega]
  by_cases h3 : r < 55296 ∨ 57343 < r
  · have hv : Utf8.valid (r : Int) = true := by simp [Utf8.valid]; omega
    rw [Lib.encodeRune, Lib.encodeRuneZ_three (by omega)]
    simp only [Utf8.encode, hv, if_true, Int.toNat_natCast, h1, h2, h, if_false, str, List.map_cons, List.map_nil]
    rw [show (224 + (r : Int) / 4096).toNat = 224 + r / 4096 by omega, show (128 + (r : Int) / 64 % 64).toNat = 128 + r / 64 % 64 by omega, show (128 + (r : Int) % 64).toNat = 128 + r % 64 by omega]
  · have hv : Utf8.valid (r : Int) = false := by simp [Utf8.valid]; omega
    rw [Lib.encodeRune, Lib.encodeRuneZ_bad (by omega)]
    simp only [Utf8.encode, hv, Bool.false_eq_true, if_false]
    rfl

set_option maxRecDepth 100000 in
set_option maxHeartbeats 4000000 in
theorem texts_calls (set : Int) (s : ByteArray) (hm : s.size ≤ maxLen) (w : World) : Calls Try.prog 5 #[.int .i64 set, .string s] w fun e w' => e = .returned (.bool true) ∧ Below w.heap.size w w' := by
  unfold maxLen at hm
  by_cases hs : 300 < s.size
  · go_enter Try.func5, Try.ntmps5
    go_wp2_with fail
    refine (awake_any _).mono ?_
    rintro e w1 ⟨rfl, hk1⟩
    go_wp2_with fail
    go_ret
    exact ⟨rfl, Kept0.below hk1⟩
  · have hT := text_any set s (by omega)
    have e0 : (⟨(textN set s.data.toList).toArray⟩ : ByteArray) = str (textN set s.data.toList) := rfl
    rw [e0] at hT
    have HT := Lib.hid hT
    clear hT e0
    go_enter Try.func5, Try.ntmps5
    go_wp2_with fail
    go_loopw [5, 6] (fun s5 s6 wr => ∃ (k : Nat) (x : ByteArray), k ≤ s.size ∧ s6 = .int .i64 (k : Int) ∧ s5 = .string x ∧ Hid (x = str (textN set (s.data.toList.take k))) ∧ x.size ≤ 1200 ∧ Kept0 w wr) (fun _ s6 _ => s.size - (intOf s6).toNat)
    case atStart => exact ⟨0, _, by omega, rfl, rfl, rfl, by decide, Kept.refl _ w⟩
    case round =>
      obtain ⟨k, x, hk, rfl, rfl, hx, hxs, hkr⟩ := hrel
      by_cases hlt : k < s.size
      · have hc256 : (s[k]'hlt).toNat < 256 := UInt8.toNat_lt _
        have htake : s.data.toList.take (k + 1) = s.data.toList.take k ++ [s[k]'hlt] := by
          rw [List.take_add_one, List.getElem?_eq_getElem (by simpa using hlt)]
          rfl
        have hrl := refN_lt set hc256
        have HTK := Lib.hid htake
        clear htake
        go_wp2_with fail
        refine (ref_any set _ hc256 _).mono ?_
        obtain ⟨r, hr⟩ : ∃ r, r = refN set (s[k]'hlt).toNat := ⟨_, rfl⟩
        rw [← hr] at hrl ⊢
        obtain ⟨E, hE⟩ : ∃ E, Utf8.encode (r : Int) = E := ⟨_, rfl⟩
        have hE2 : E = str (Lib.encodeRune (r : Int)) := hE.symm.trans (encode_eq r (by omega))
        have hE3 : E.size ≤ 4 := by rw [hE2, str_size]; exact Nat.le_trans (by simp [Lib.encodeRune]) (Lib.encodeRuneZ_length (r : Int)).2
        have HE2 := Lib.hid hE2
        have HR := Lib.hid hr
        clear hE2 hr hrl
        rintro e w1 ⟨rfl, hk1⟩
        go_wp2_with fail
        have hxe : x ++ E = str (textN set (s.data.toList.take (k + 1))) := by
          rw [hx.out, HE2.out, str_append, HTK.out, textN_append, HR.out]
          simp [textN]
        refine ⟨⟨k + 1, _, by omega, by go_num, rfl, hxe, ?_, hkr.trans hk1⟩, by simp [intOf]; omega⟩
        rw [hxe, str_size]
        have h1 := textN_length set (s.data.toList.take (k + 1))
        have h2 : (s.data.toList.take (k + 1)).length ≤ k + 1 := by simp; omega
        omega
      · obtain rfl : k = s.size := by omega
        have hx2 : x = str (textN set s.data.toList) := by
          rw [hx.out, List.take_of_length_le (by simp)]
        subst hx2
        go_wp2_with fail
        refine (HT.out _).mono ?_
        rintro e w1 ⟨rfl, hk1⟩
        go_wp2_with fail
        refine (awake_any _).mono ?_
        rintro e w2 ⟨rfl, hk2⟩
        go_wp2_with fail
        go_ret
        exact ⟨rfl, Kept0.below ((hkr.trans hk1).trans hk2)⟩

#print axioms texts_calls
end Go.Proofs.Ytnnhkejflmjnhaa
