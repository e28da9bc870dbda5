/-
  GlyphJoins answers true.
-/
import Derived.Test.YtnnhkejflmjnhaaTexts
namespace Go.Proofs.Ytnnhkejflmjnhaa
open Go.RowKit

theorem str_get (l : List UInt8) (i : Nat) (b : UInt8) (h : l[i]? = some b) : (str l).get! i = b := by
  show l.toArray[i]! = b
  rw [Array.getElem!_eq_getD]
  simp [Array.getD_eq_getD_getElem?, h]

theorem mid_get (pre bs post : List UInt8) (j : Nat) (b : UInt8) (h : bs[j]? = some b) : (str (pre ++ bs ++ post)).get! (pre.length + j) = b := by
  refine str_get _ _ _ ?_
  have hlt : j < bs.length := (List.getElem?_eq_some_iff.1 h).1
  rw [List.append_assoc, List.getElem?_append_right (by omega), Nat.add_sub_cancel_left, List.getElem?_append_left hlt]
  exact h

theorem dec2 {S : ByteArray} {i v0 v1 r : Nat} (g0 : (S.get! (i + 0)).toNat = v0) (g1 : (S.get! (i + 1)).toNat = v1) (hz : i + 1 < S.size) (c0 : ¬ v0 < 128) (c1 : v0 / 32 = 6) (c2 : v1 / 64 = 2)
    (c3 : v0 % 32 * 64 + v1 % 64 = r) (c4 : r ≥ 128) : (Utf8.decode S i).2 = 2 := by
  simp only [Utf8.decode, g0, g1]
  simp [c0, c1, c2, c3, c4, hz]
theorem dec3 {S : ByteArray} {i v0 v1 v2 r : Nat} (g0 : (S.get! (i + 0)).toNat = v0) (g1 : (S.get! (i + 1)).toNat = v1) (g2 : (S.get! (i + 2)).toNat = v2) (hz1 : i + 1 < S.size) (hz : i + 2 < S.size) (c0 : ¬ v0 < 128) (c1 : v0 / 32 = 7) (c5 : v0 / 16 = 14)
    (c2 : v1 / 64 = 2) (c6 : v2 / 64 = 2) (c3 : v0 % 16 * 4096 + v1 % 64 * 64 + v2 % 64 = r) (c4 : r ≥ 2048) (hval : Utf8.valid (r : Int) = true) : (Utf8.decode S i).2 = 3 := by
  simp only [Utf8.decode, g0, g1, g2]
  simp [c0, c1, c2, c3, c4, c5, c6, hz, hz1, hval]

/-- How many bytes a rune's UTF-8 has, told by its first one. -/
theorem decode_width (pre post : List UInt8) (r : Nat) (h : r < 65536) (hv : r < 55296 ∨ 57343 < r) :
    (Utf8.decode (str (pre ++ Lib.encodeRune (r : Int) ++ post)) pre.length).2 = (Lib.encodeRune (r : Int)).length := by
  have hval : Utf8.valid (r : Int) = true := by simp [Utf8.valid]; omega
  by_cases h1 : r < 128
  · have e : Lib.encodeRune (r : Int) = [UInt8.ofNat r] := by
      rw [Lib.encodeRune, Lib.encodeRuneZ_one (by omega) (by omega)]; rfl
    rw [e]
    have g0 := mid_get pre [UInt8.ofNat r] post 0 (UInt8.ofNat r) rfl
    have t0 : (UInt8.ofNat r).toNat = r := by simp; omega
    simp only [Utf8.decode, g0, t0, h1, if_true]
    rfl
  by_cases h2 : r < 2048
  · have e : Lib.encodeRune (r : Int) = [UInt8.ofNat (192 + r / 64), UInt8.ofNat (128 + r % 64)] := by
      rw [Lib.encodeRune, Lib.encodeRuneZ_two (by omega) (by omega)]
      simp only [List.map_cons, List.map_nil]
      rw [show (192 + (r : Int) / 64).toNat = 192 + r / 64 by omega, show (128 + (r : Int) % 64).toNat = 128 + r % 64 by omega]
    rw [e]
    have g0 := mid_get pre [UInt8.ofNat (192 + r / 64), UInt8.ofNat (128 + r % 64)] post 0 _ rfl
    have g1 := mid_get pre [UInt8.ofNat (192 + r / 64), UInt8.ofNat (128 + r % 64)] post 1 _ rfl
    have t0 : (UInt8.ofNat (192 + r / 64)).toNat = 192 + r / 64 := by simp; omega
    have t1 : (UInt8.ofNat (128 + r % 64)).toNat = 128 + r % 64 := by simp; omega
    exact dec2 (r := r) ((congrArg UInt8.toNat g0).trans t0) ((congrArg UInt8.toNat g1).trans t1) (by rw [str_size]; simp) (by omega) (by omega) (by omega) (by omega) (by omega)
  · have e : Lib.encodeRune (r : Int) = [UInt8.ofNat (224 + r / 4096), UInt8.ofNat (128 + r / 64 % 64), UInt8.ofNat (128 + r % 64)] := by
      rw [Lib.encodeRune, Lib.encodeRuneZ_three (by omega)]
      simp only [List.map_cons, List.map_nil]
      rw [show (224 + (r : Int) / 4096).toNat = 224 + r / 4096 by omega, show (128 + (r : Int) / 64 % 64).toNat = 128 + r / 64 % 64 by omega, show (128 + (r : Int) % 64).toNat = 128 + r % 64 by omega]
    rw [e]
    have g0 := mid_get pre [UInt8.ofNat (224 + r / 4096), UInt8.ofNat (128 + r / 64 % 64), UInt8.ofNat (128 + r % 64)] post 0 _ rfl
    have g1 := mid_get pre [UInt8.ofNat (224 + r / 4096), UInt8.ofNat (128 + r / 64 % 64), UInt8.ofNat (128 + r % 64)] post 1 _ rfl
    have g2 := mid_get pre [UInt8.ofNat (224 + r / 4096), UInt8.ofNat (128 + r / 64 % 64), UInt8.ofNat (128 + r % 64)] post 2 _ rfl
    have t0 : (UInt8.ofNat (224 + r / 4096)).toNat = 224 + r / 4096 := by simp; omega
    have t1 : (UInt8.ofNat (128 + r / 64 % 64)).toNat = 128 + r / 64 % 64 := by simp; omega
    have t2 : (UInt8.ofNat (128 + r % 64)).toNat = 128 + r % 64 := by simp; omega
    exact dec3 (r := r) ((congrArg UInt8.toNat g0).trans t0) ((congrArg UInt8.toNat g1).trans t1) ((congrArg UInt8.toNat g2).trans t2) (by rw [str_size]; simp) (by rw [str_size]; simp) (by omega) (by omega) (by omega) (by omega) (by omega) (by omega) (by omega) hval

theorem ref_plain1 : ∀ b : Fin 256, refN 1 b < 55296 ∨ 57343 < refN 1 b := by decide +kernel
theorem ref_plain2 : ∀ b : Fin 256, refN 2 b < 55296 ∨ 57343 < refN 2 b := by decide +kernel
theorem ref_plain3 : ∀ b : Fin 256, refN 3 b < 55296 ∨ 57343 < refN 3 b := by decide +kernel
theorem ref_plain4 : ∀ b : Fin 256, refN 4 b < 55296 ∨ 57343 < refN 4 b := by decide +kernel
theorem ref_plain5 : ∀ b : Fin 256, refN 5 b < 55296 ∨ 57343 < refN 5 b := by decide +kernel
theorem ref_plain (set : Int) {b : Nat} (hb : b < 256) : refN set b < 55296 ∨ 57343 < refN set b :=
  set_cases (Q := fun set => refN set b < 55296 ∨ 57343 < refN set b) (ref_plain1 ⟨b, hb⟩) (ref_plain2 ⟨b, hb⟩) (ref_plain3 ⟨b, hb⟩) (ref_plain4 ⟨b, hb⟩) (ref_plain5 ⟨b, hb⟩)
    (fun set h1 h2 h3 h4 h5 => by rw [refN_other b h1 h2 h3 h4 h5]; omega) set

/-- How far the glyphs of k bytes reach. -/
def reach (set : Int) (l : List UInt8) (k : Nat) : Nat := (textN set (l.take k)).length
theorem textN_cons (set : Int) (c : UInt8) (l : List UInt8) : textN set (c :: l) = Lib.encodeRune (refN set c.toNat : Int) ++ textN set l := rfl
theorem reach_step (set : Int) (l : List UInt8) (k : Nat) (hk : k < l.length) :
    reach set l k < (str (textN set l)).size ∧ reach set l k + (Utf8.decode (str (textN set l)) (reach set l k)).2 = reach set l (k + 1) := by
  have hsplit : l = l.take k ++ l[k] :: l.drop (k + 1) := by rw [← List.drop_eq_getElem_cons hk, List.take_append_drop]
  have hc := UInt8.toNat_lt l[k]
  have hlt := refN_lt set hc
  have hpos : 1 ≤ (Lib.encodeRune (refN set l[k].toNat : Int)).length := by
    have := (Lib.encodeRuneZ_length (refN set l[k].toNat : Int)).1
    simpa [Lib.encodeRune] using this
  have htx : textN set l = textN set (l.take k) ++ Lib.encodeRune (refN set l[k].toNat : Int) ++ textN set (l.drop (k + 1)) := by
    conv => lhs; rw [hsplit]
    rw [textN_append, textN_cons, List.append_assoc]
  have hd := decode_width (textN set (l.take k)) (textN set (l.drop (k + 1))) (refN set l[k].toNat) (by omega) (ref_plain set hc)
  rw [← htx] at hd
  have hnext : reach set l (k + 1) = reach set l k + (Lib.encodeRune (refN set l[k].toNat : Int)).length := by
    unfold reach
    rw [List.take_add_one, List.getElem?_eq_getElem hk, textN_append, List.length_append]
    simp [textN]
  refine ⟨?_, ?_⟩
  · rw [str_size, htx]
    simp only [reach, List.length_append]
    omega
  · rw [hnext]
    show reach set l k + (Utf8.decode (str (textN set l)) (textN set (l.take k)).length).2 = _
    rw [hd]
theorem reach_end (set : Int) (l : List UInt8) : reach set l l.length = (str (textN set l)).size := by
  rw [str_size, reach, List.take_of_length_le (Nat.le_refl _)]

set_option maxRecDepth 100000 in
set_option maxHeartbeats 4000000 in
theorem joins_calls (set : Int) (s t : ByteArray) (hm : s.size ≤ maxLen) (hm2 : t.size ≤ maxLen) (w : World) :
    Calls Try.prog 7 #[.int .i64 set, .string s, .string t] w fun e w' => e = .returned (.bool true) ∧ Below w.heap.size w w' := by
  unfold maxLen at hm hm2
  have hcase : 300 < s.size ∨ (s.size ≤ 300 ∧ 300 < t.size) ∨ (s.size ≤ 300 ∧ t.size ≤ 300) := by omega
  rcases hcase with h1 | ⟨h1, h2⟩ | ⟨h1, h2⟩
  · go_enter Try.func7, Try.ntmps7
    go_wp2_with fail
    refine (awake_any _).mono ?_
    rintro e w1 ⟨rfl, hk1⟩
    go_wp2_with fail
    go_ret
    exact ⟨rfl, Kept0.below hk1⟩
  · go_enter Try.func7, Try.ntmps7
    go_wp2_with fail
    refine (awake_any _).mono ?_
    rintro e w1 ⟨rfl, hk1⟩
    go_wp2_with fail
    go_ret
    exact ⟨rfl, Kept0.below hk1⟩
  · have hst : (s ++ t).size = s.size + t.size := ByteArray.size_append
    have hT1 := fun w => text_any set s (by omega) w
    have hT2 := fun w => text_any set t (by omega) w
    have hT3 := fun w => text_any set (s ++ t) (by omega) w
    have hd : (s ++ t).data.toList = s.data.toList ++ t.data.toList := by rw [ByteArray.data_append]; simp
    have e3 : (⟨(textN set (s ++ t).data.toList).toArray⟩ : ByteArray) = str (textN set s.data.toList) ++ str (textN set t.data.toList) := by
      rw [str_append, ← textN_append, ← hd]; rfl
    have e1 : (⟨(textN set s.data.toList).toArray⟩ : ByteArray) = str (textN set s.data.toList) := rfl
    have e2 : (⟨(textN set t.data.toList).toArray⟩ : ByteArray) = str (textN set t.data.toList) := rfl
    rw [e3] at hT3
    rw [e1] at hT1
    rw [e2] at hT2
    have l1 := textN_length set s.data.toList
    have l2 := textN_length set t.data.toList
    have z1 : s.data.toList.length = s.size := Array.length_toList
    have z2 : t.data.toList.length = t.size := Array.length_toList
    obtain ⟨X, hX⟩ : ∃ X, X = str (textN set s.data.toList) := ⟨_, rfl⟩
    obtain ⟨Y, hY⟩ : ∃ Y, Y = str (textN set t.data.toList) := ⟨_, rfl⟩
    have x1 : X.size ≤ 1200 := by rw [hX, str_size]; omega
    have y1 : Y.size ≤ 1200 := by rw [hY, str_size]; omega
    have hreach := reach_step set s.data.toList
    have hend := reach_end set s.data.toList
    have hbeg : reach set s.data.toList 0 = 0 := by simp [reach, textN]
    rw [z1] at hreach hend
    rw [← hX, ← hY] at hT3
    rw [← hX] at hT1 hreach hend
    rw [← hY] at hT2
    obtain ⟨R, hR⟩ : ∃ R, R = reach set s.data.toList := ⟨_, rfl⟩
    rw [← hR] at hreach hend hbeg
    have H1 := Lib.hid hT1
    have H2 := Lib.hid hT2
    have H3 := Lib.hid hT3
    have HR := Lib.hid hreach
    have HE := Lib.hid hend
    have HB := Lib.hid hbeg
    clear hT1 hT2 hT3 hreach hend hbeg hR hX hY l1 l2 z1 z2 e1 e2 e3 hd
    go_enter Try.func7, Try.ntmps7
    go_wp2_with fail
    refine (H1.out _).mono ?_
    rintro e w1 ⟨rfl, hk1⟩
    go_wp2_with fail
    go_loopw [7] (fun s7 wr => ∃ k : Nat, k ≤ s.size ∧ s7 = .int .i64 (k : Int) ∧ wr.heap[w1.heap.size]? = some (.stringIter X (R k)) ∧ Kept0 w1 wr) (fun s7 _ => s.size - (intOf s7).toNat)
    case atStart =>
      refine ⟨0, by omega, rfl, ?_, (Kept.refl _ w1).alloc _⟩
      rw [HB.out]
      exact heap_new w1 _
    case round =>
      obtain ⟨k, hk, rfl, hit, hkr⟩ := hrel
      have hsz : w1.heap.size < wr.heap.size := (Array.getElem?_eq_some_iff.1 hit).1
      by_cases hlt : k < s.size
      · obtain ⟨hp, hnext⟩ := HR.out k hlt
        have hnx : ∀ ty, (Instr.next (.pointer (some ⟨w1.heap.size, 0, none⟩)) true ty).run Try.prog wr = _ := fun ty => Lib.run_next_any_at wr w1.heap.size X (R k) ty hit hp
        have hit2 := Lib.iterAt_heap wr w1.heap.size X (R k) (R k + (Utf8.decode X (R k)).2) hit
        have hk2 := kept_iterAt hkr (k := w1.heap.size) (Nat.le_refl _) X (R k + (Utf8.decode X (R k)).2)
        rw [hnext] at hnx hit2 hk2
        obtain ⟨w2, hw2⟩ : ∃ w2, w2 = wr.iterAt w1.heap.size X (R (k + 1)) := ⟨_, rfl⟩
        rw [← hw2] at hnx hit2 hk2
        clear hw2 hnext hp
        go_wp2_with fail
        go_roundw
        case rel => exact ⟨k + 1, by omega, by go_num, hit2, hk2⟩
        case measure => simp [intOf]; omega
      · obtain rfl : k = s.size := by omega
        have hp : ¬ R s.size < X.size := by have := HE.out; omega
        have hnx : ∀ ty, (Instr.next (.pointer (some ⟨w1.heap.size, 0, none⟩)) true ty).run Try.prog wr = _ := fun ty => Lib.run_next_end_at wr w1.heap.size X (R s.size) ty hit hp
        have hk0r := hk1.trans hkr
        clear hp hit
        go_wp2_with fail
        refine (H3.out _).mono ?_
        rintro e w4 ⟨rfl, hk4⟩
        go_wp2_with fail
        refine (H1.out _).mono ?_
        rintro e w5 ⟨rfl, hk5⟩
        go_wp2_with fail
        refine (H2.out _).mono ?_
        rintro e w6 ⟨rfl, hk6⟩
        go_wp2_with fail
        refine (awake_any _).mono ?_
        rintro e w7 ⟨rfl, hk7⟩
        go_wp2_with fail
        go_ret
        exact ⟨rfl, Kept0.below ((((hk0r.trans hk4).trans hk5).trans hk6).trans hk7)⟩

#print axioms joins_calls
end Go.Proofs.Ytnnhkejflmjnhaa
