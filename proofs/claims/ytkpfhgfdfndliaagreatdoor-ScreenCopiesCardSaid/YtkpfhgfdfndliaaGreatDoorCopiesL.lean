/-
  ScreenCopies: a copy is the same, goes its own way, and comes to the same by the same calls.
-/
import Derived.Test.YtkpfhgfdfndliaaGreatDoorFewZ
import Derived.Test.YtkpfhgfdfndliaaGreatDoorAw
import Derived.Test.YtkpfhgfdfndliaaGreatDoorEq
namespace Go.Proofs.YtkpfhgfdfndliaaGreatDoor
open Go.RowKit

set_option maxRecDepth 100000 in
set_option maxHeartbeats 8000000 in
theorem copies_calls (a1 : Option Addr) (cap1 : Nat) (l : List Op) (a2 : Option Addr) (cap2 : Nat) (m : List Op) (w : World) (hb : Blank w)
    (hl : OpsIn w a1 l) (hm : OpsIn w a2 m) (nl : l.length ≤ 9223372036854775807) (nm : m.length ≤ 9223372036854775807) :
    Calls Tryz.prog 4 #[.slice a1 l.length cap1, .slice a2 m.length cap2] w fun e w' => e = .returned (.bool true) ∧ Below w.heap.size w w' := by
  have HB := Lib.hid hb
  have h0 := hb.lt
  have HO := Lib.hid hm
  have HL : Hid (∀ i, i < m.length → ∃ o, m[i]? = some o) := fun i hi => ⟨_, List.getElem?_eq_getElem hi⟩
  have HTk : Hid (m.take m.length = m) := List.take_length
  have HF1 := Lib.hid (few_any a1 cap1 l w hl nl)
  have HF2 : Hid (∀ w', Kept0 w w' → _) := fun w' k => few_any a2 cap2 m w' (hm.kept0 k) nm
  have HG : Hid (∀ w', Kept0 w w' → _) := fun w' k => begun_any a1 cap1 l w w' k (hb.kept0 k) (hl.kept0 k) nl
  obtain ⟨M, hM⟩ : ∃ M, M = m.length := ⟨_, rfl⟩
  obtain ⟨L, hLl⟩ : ∃ L, L = l.length := ⟨_, rfl⟩
  obtain ⟨y, hy⟩ : ∃ y, y = runZ z59 l := ⟨_, rfl⟩
  rw [← hM] at HL HF2 nm HTk ⊢
  rw [← hLl] at HF1 HG nl ⊢
  rw [← hy] at HG
  clear hb hl hm hM hLl hy
  go_enter Tryz.func4, Tryz.ntmps4
  go_wp2_with fail
  refine HF1.out.mono ?_
  rintro e w1 ⟨⟨t1, rfl⟩, k1⟩
  cases t1
  · go_wp2_with fail
    refine (awake_any _ (HB.out.kept0 k1)).mono ?_
    rintro e w2 ⟨rfl, k2⟩
    go_wp2_with fail
    go_ret
    exact ⟨rfl, Kept0.below (k1.trans k2)⟩
  go_wp2_with fail
  refine (HF2.out w1 k1).mono ?_
  rintro e w2 ⟨⟨t2, rfl⟩, k2⟩
  replace k2 := k1.trans k2
  clear k1
  cases t2
  · go_wp2_with fail
    refine (awake_any _ (HB.out.kept0 k2)).mono ?_
    rintro e w3 ⟨rfl, k3⟩
    go_wp2_with fail
    go_ret
    exact ⟨rfl, Kept0.below (k2.trans k3)⟩
  go_wp2_with fail
  refine (HG.out w2 k2).mono ?_
  rintro e w3 ⟨s, rfl, hu⟩
  clear k2 HF1 HF2 HG
  have HU := Lib.hid hu
  clear hu
  go_wp2_with fail
  refine (uno_copy HU.out).mono ?_
  rintro e w4 ⟨c, rfl, hd, _⟩
  have HD : Hid (Duo no w w4 s y c y) := hd
  clear hd HU
  go_wp2_with fail
  refine (duo_copy HD.out).mono ?_
  rintro e w5 ⟨d, rfl, ht⟩
  have HT : Hid (Trio no w w5 s y c y d y) := by first | exact ht | exact ht.1
  clear ht HD
  go_wp2_with fail
  refine (equal_same w5 HT.out.first.one.scr.choose_spec HT.out.first.swap.one.scr.choose_spec).mono ?_
  rintro e w6 ⟨rfl, k6⟩
  have HT6 : Hid (Trio no w w6 c (runZ y (m.take 0)) d y s y) := (HT.out.keep k6).turn
  clear HT k6
  go_wp2_with fail
  go_loopw [8] (fun s8 wr => ∃ i : Nat, i ≤ M ∧ s8 = .int .i64 (i : Int) ∧ Hid (Trio no w wr c (runZ y (m.take (i))) d y s y)) (fun s8 _ => M - (intOf s8).toNat)
  case atStart => exact ⟨0, by omega, rfl, HT6⟩
  case round =>
    clear HT6
    obtain ⟨i, hi, rfl, HT⟩ := hrel
    by_cases hlt : i < M
    · have hdt : decide ((i : Int) < (M : Int)) = true := by simp; omega
      obtain ⟨o, hoi⟩ := HL.out i hlt
      obtain ⟨hok, b, off, rfl, hcs⟩ := HO.out i o hoi
      have HQ := Lib.hid hok
      have HI := Lib.hid hoi
      have kk := HT.out.old
      have o0 := kcell kk (hcs 0 _ rfl)
      have o1 := kcell kk (hcs 1 _ rfl)
      have o2 := kcell kk (hcs 2 _ rfl)
      have o3 := kcell kk (hcs 3 _ rfl)
      have o4 := kcell kk (hcs 4 _ rfl)
      have o5 := kcell kk (hcs 5 _ rfl)
      have o6 := kcell kk (hcs 6 _ rfl)
      have o7 := kcell kk (hcs 7 _ rfl)
      have o8 := kcell kk (hcs 8 _ rfl)
      have o9 := kcell kk (hcs 9 _ rfl)
      have o10 := kcell kk (hcs 10 _ rfl)
      have o11 := kcell kk (hcs 11 _ rfl)
      clear hcs kk hoi hok
      simp only [Nat.add_zero] at o0
      go_wp2_with fail
      refine (trio_call HT.out h0 (fun B hs hB0 => does_any o wr hs (HB.out.kept0 HT.out.old) hB0 HQ.out)).mono ?_
      rintro e w7 ⟨rfl, ht7⟩
      have HT7 : Hid (Trio no w w7 c (runZ y (m.take (i + 1))) d y s y) := by
        show Trio no w w7 c (runZ y (m.take (i + 1))) d y s y
        rw [runZ_take _ _ _ _ HI.out]
        exact ht7
      clear ht7 HT HQ HI o0 o1 o2 o3 o4 o5 o6 o7 o8 o9 o10 o11
      go_wp2_with fail
      go_roundw
      case rel => exact ⟨i + 1, by omega, by go_num, HT7⟩
      case measure => simp [intOf]; omega
    · obtain rfl : i = M := by omega
      have hdt : decide ((i : Int) < (i : Int)) = false := by simp
      have HT8 : Hid (Trio no w wr c (runZ y m) d y s y) := by
        have := HT.out
        rw [HTk.out] at this
        exact this
      clear HT hi hlt
      go_wp2_with fail
      refine (equal_same wr HT8.out.turn.first.swap.one.scr.choose_spec HT8.out.turn.first.one.scr.choose_spec).mono ?_
      rintro e w9 ⟨rfl, k9⟩
      have HT9 : Hid (Trio no w w9 s (runZ y (m.take 0)) c (runZ y m) d y) := (HT8.out.keep k9).turn.turn
      clear HT8 k9
      go_wp2_with fail
      obtain ⟨M, rfl⟩ : ∃ M, M = i := ⟨_, rfl⟩
      go_loopw [9] (fun s9 wr => ∃ i : Nat, i ≤ M ∧ s9 = .int .i64 (i : Int) ∧ Hid (Trio no w wr s (runZ y (m.take (i))) c (runZ y m) d y)) (fun s9 _ => M - (intOf s9).toNat)
      case atStart => exact ⟨0, by omega, rfl, HT9⟩
      case round =>
        clear HT9 hdt
        obtain ⟨i, hi, rfl, HT⟩ := hrel
        by_cases hlt : i < M
        · have hdt : decide ((i : Int) < (M : Int)) = true := by simp; omega
          obtain ⟨o, hoi⟩ := HL.out i hlt
          obtain ⟨hok, b, off, rfl, hcs⟩ := HO.out i o hoi
          have HQ := Lib.hid hok
          have HI := Lib.hid hoi
          have kk := HT.out.old
          have o0 := kcell kk (hcs 0 _ rfl)
          have o1 := kcell kk (hcs 1 _ rfl)
          have o2 := kcell kk (hcs 2 _ rfl)
          have o3 := kcell kk (hcs 3 _ rfl)
          have o4 := kcell kk (hcs 4 _ rfl)
          have o5 := kcell kk (hcs 5 _ rfl)
          have o6 := kcell kk (hcs 6 _ rfl)
          have o7 := kcell kk (hcs 7 _ rfl)
          have o8 := kcell kk (hcs 8 _ rfl)
          have o9 := kcell kk (hcs 9 _ rfl)
          have o10 := kcell kk (hcs 10 _ rfl)
          have o11 := kcell kk (hcs 11 _ rfl)
          clear hcs kk hoi hok
          simp only [Nat.add_zero] at o0
          go_wp2_with fail
          refine (trio_call HT.out h0 (fun B hs hB0 => does_any o wr hs (HB.out.kept0 HT.out.old) hB0 HQ.out)).mono ?_
          rintro e w7 ⟨rfl, ht7⟩
          have HT7 : Hid (Trio no w w7 s (runZ y (m.take (i + 1))) c (runZ y m) d y) := by
            show Trio no w w7 s (runZ y (m.take (i + 1))) c (runZ y m) d y
            rw [runZ_take _ _ _ _ HI.out]
            exact ht7
          clear ht7 HT HQ HI o0 o1 o2 o3 o4 o5 o6 o7 o8 o9 o10 o11
          go_wp2_with fail
          go_roundw
          case rel => exact ⟨i + 1, by omega, by go_num, HT7⟩
          case measure => simp [intOf]; omega
        · obtain rfl : i = M := by omega
          have hdt : decide ((i : Int) < (i : Int)) = false := by simp
          have HT8 : Hid (Trio no w wr s (runZ y m) c (runZ y m) d y) := by
            have := HT.out
            rw [HTk.out] at this
            exact this
          clear HT hi hlt
          go_wp2_with fail
          refine (equal_same wr HT8.out.first.one.scr.choose_spec HT8.out.first.swap.one.scr.choose_spec).mono ?_
          rintro e w9 ⟨rfl, k9⟩
          have kk := (HT8.out.keep k9).old
          go_wp2_with fail
          refine (awake_any _ (HB.out.kept0 kk)).mono ?_
          rintro e w10 ⟨rfl, k10⟩
          go_wp2_with fail
          go_ret
          exact ⟨rfl, Kept0.below (kk.trans k10)⟩
end Go.Proofs.YtkpfhgfdfndliaaGreatDoor
