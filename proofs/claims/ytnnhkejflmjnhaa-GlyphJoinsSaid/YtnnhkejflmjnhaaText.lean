/-
  What Text answers: the glyphs of bytes, as UTF-8.
-/
import Derived.Test.YtnnhkejflmjnhaaTabled
import Derived.Test.YtnnhkejflmjnhaaShelf
namespace Go.Proofs.Ytnnhkejflmjnhaa
open Go.RowKit

/-- The glyphs of bytes, as UTF-8. -/
def textN (set : Int) (l : List UInt8) : List UInt8 := l.flatMap fun c => Lib.encodeRune (refN set c.toNat : Int)
theorem textN_length (set : Int) (l : List UInt8) : (textN set l).length ≤ 4 * l.length := by
  induction l with
  | nil => simp [textN]
  | cons c l ih =>
    have h := (Lib.encodeRuneZ_length (refN set c.toNat : Int)).2
    have h2 : (Lib.encodeRune (refN set c.toNat : Int)).length = (Lib.encodeRuneZ (refN set c.toNat : Int)).length := by simp [Lib.encodeRune]
    have e : textN set (c :: l) = Lib.encodeRune (refN set c.toNat : Int) ++ textN set l := rfl
    rw [e, List.length_append, List.length_cons]
    omega
theorem textN_append (set : Int) (l m : List UInt8) : textN set (l ++ m) = textN set l ++ textN set m := by simp [textN]

set_option maxRecDepth 100000 in
set_option maxHeartbeats 4000000 in
theorem text_any (set : Int) (s : ByteArray) (hs : s.size ≤ 1000000) (w : World) : Calls Try.prog 16 #[.int .i64 set, .string s] w fun e w' => e = .returned (.string ⟨(textN set s.data.toList).toArray⟩) ∧ Kept0 w w' := by
  have hz := zero45
  go_enter Try.func16, Try.ntmps16
  go_wp2_with fail
  refine (tabled_any set _).mono ?_
  rintro e w1 ⟨rfl, hk1⟩
  have hk2 : TabAt (w1.alloc (.cells (tabArr fun _ => 0) 45)) w1.heap.size (fun _ => 0) := heap_new w1 _
  go_wp2_with (refine wpList_store_row rfl 45 _ _ rfl w1.heap.size (tabArr (refN set)) rfl rfl 45 _ hk2 (info45 _) (by rw [tabArr_size, tabArr_size]) (tabArr_one _) ?_)
  obtain ⟨w2, hw2⟩ : ∃ w2, w2 = (w1.alloc (.cells (tabArr fun _ => 0) 45)).setRow w1.heap.size (tabArr (refN set)) := ⟨_, rfl⟩
  have hT2 : TabAt w2 w1.heap.size (refN set) := by rw [hw2]; exact setRow_heap _ _ _ _ _ _ hk2
  have hs2 : w2.heap.size = w1.heap.size + 1 := by rw [hw2, setRow_size]; simp
  have hk12 : Kept0 w1 w2 := by
    rw [hw2]
    have h := (Kept.refl (fun _ => False) w1).alloc (.cells (tabArr fun _ => 0) 45)
    exact ⟨h.os, h.tape, h.output, by rw [setRow_size]; exact h.size, fun k hk hs => (setRow_other _ _ k _ (by omega)).trans (h.block k hk hs)⟩
  have hI2 : Lib.IsBuilderF 50 5 (w1.heap.size + 1) (w1.heap.size + 1) (Lib.byteCells []) (w2.alloc (.cells #[.pointer none, .slice none 0 0] 50)) := by
    have := Lib.IsBuilderF.of (Lib.fresh_isBuilder 50 5 w2)
    rw [hs2] at this
    exact this
  have hk02 : Kept0 w w2 := hk1.trans hk12
  rw [← hw2]
  obtain ⟨w3, hw3⟩ : ∃ w3, w3 = w2.alloc (.cells #[.pointer none, .slice none 0 0] 50) := ⟨_, rfl⟩
  have hT3 : TabAt w3 w1.heap.size (refN set) := by rw [hw3]; exact hT2.kept ((Kept.refl (fun _ => False) w2).alloc _) (fun e => e)
  have hk03 : Kept0 w w3 := by rw [hw3]; exact hk02.alloc _
  have hs3 : w3.heap.size = w1.heap.size + 2 := by rw [hw3]; simp [hs2]
  rw [← hw3] at hI2 ⊢
  have hww : w.heap.size ≤ w1.heap.size := hk1.size
  clear hw3 hT2 hk02 hk12 hw2 hs2 hk2 hk1 hz
  obtain ⟨T, hT⟩ : ∃ T, T = w1.heap.size := ⟨_, rfl⟩
  rw [← hT] at hT3 hI2 hs3 hww ⊢
  clear hT
  go_loopw [12] (fun s12 wr => ∃ k : Nat, k ≤ s.size ∧ s12 = .int .i64 (k : Int) ∧ Lib.IsBuilderF 50 5 (T + 1) (T + 1) (Lib.byteCells (textN set (s.data.toList.take k))) wr ∧ Below (T + 1) w3 wr) (fun s12 _ => s.size - (intOf s12).toNat)
  case atStart => exact ⟨0, by omega, rfl, by simpa [textN] using hI2, Below.refl _ _⟩
  case round =>
    obtain ⟨k, hk, rfl, hI, hbw⟩ := hrel
    have hsz := hbw.size
    by_cases hlt : k < s.size
    · have hcell := (hT3.below hbw (by omega)).cell (i := (s[k]'hlt).toNat) (UInt8.toNat_lt _)
      have hc256 : (s[k]'hlt).toNat < 256 := UInt8.toNat_lt _
      have htake : s.data.toList.take (k + 1) = s.data.toList.take k ++ [s[k]'hlt] := by
        rw [List.take_add_one, List.getElem?_eq_getElem (by simpa using hlt)]
        rfl
      have hlen : (textN set (s.data.toList.take k)).length ≤ 4000000 := by
        have := textN_length set (s.data.toList.take k)
        have h2 : (s.data.toList.take k).length ≤ k := by simp; omega
        omega
      have hrl := refN_lt set hc256
      have HT := Lib.hid htake
      have HL := Lib.hid hlen
      have HI := Lib.hid hI
      clear htake hlen hI
      go_wp2_with fail
      refine (writeRune_any (T + 1) (T + 1) _ _ (by omega) (by omega) _ HI.out (by rw [Lib.byteCells_length]; have := HL.out; omega) (by omega)).mono ?_
      rintro e w4 ⟨rfl, h4, b4, _⟩
      have HI4 : Hid (Lib.IsBuilderF 50 5 (T + 1) (T + 1) (Lib.byteCells (textN set (s.data.toList.take (k + 1)))) w4) := by
        show Lib.IsBuilderF _ _ _ _ _ _
        rw [HT.out, textN_append, Lib.byteCells_append]
        have e1 : textN set [s[k]'hlt] = Lib.encodeRune (refN set (s[k]'hlt).toNat : Int) := by simp [textN]
        rw [e1, Lib.byteCells_encodeRune]
        exact Or.inr h4
      clear h4 HI
      go_wp2_with fail
      go_roundw
      case rel => exact ⟨k + 1, by omega, by go_num, HI4.out, hbw.trans b4⟩
      case measure => simp [intOf]; omega
    · obtain rfl : k = s.size := by omega
      go_wp2_with fail
      refine (string_any (T + 1) (T + 1) _ _ hI (by omega)).mono ?_
      rintro e w4 ⟨rfl, _, b4, _⟩
      go_wp2_with fail
      go_ret
      refine ⟨?_, hk03.thenBelow (hbw.trans b4) (by omega)⟩
      rw [List.take_of_length_le (by simp)]
      rfl

#print axioms text_any
end Go.Proofs.Ytnnhkejflmjnhaa
