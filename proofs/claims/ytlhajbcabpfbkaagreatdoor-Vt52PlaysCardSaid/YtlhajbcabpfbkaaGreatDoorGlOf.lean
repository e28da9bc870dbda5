/-
  What glyphs and Of answer.
-/
import Derived.Test.YtlhajbcabpfbkaaGreatDoorGlCalm
import Derived.Lib.OthersKept
namespace Go.Proofs.YtlhajbcabpfbkaaGreatDoor.Gl
open Go.RowKit

set_option maxRecDepth 100000 in
theorem glyphs_any (set : Int) (w : World) : Calls Tryz.prog 98 #[.int .i64 set] w fun e w' => e = .returned (.tuple #[.int .u8 (firstOf set : Int), .string (textOf set)]) ∧ w' = w := by
  refine set_cases (Q := fun set => Calls Tryz.prog 98 #[.int .i64 set] w fun e w' => e = .returned (.tuple #[.int .u8 (firstOf set : Int), .string (textOf set)]) ∧ w' = w) ?_ ?_ ?_ ?_ ?_ ?_ set
  · go_enter Tryz.func98, Tryz.ntmps98
    go_wp2_with fail
    go_ret2
    exact ⟨by kernel_rfl, rfl⟩
  · go_enter Tryz.func98, Tryz.ntmps98
    go_wp2_with fail
    go_ret2
    exact ⟨by kernel_rfl, rfl⟩
  · go_enter Tryz.func98, Tryz.ntmps98
    go_wp2_with fail
    go_ret2
    exact ⟨by kernel_rfl, rfl⟩
  · go_enter Tryz.func98, Tryz.ntmps98
    go_wp2_with fail
    go_ret2
    exact ⟨by kernel_rfl, rfl⟩
  · go_enter Tryz.func98, Tryz.ntmps98
    go_wp2_with fail
    go_ret2
    exact ⟨by kernel_rfl, rfl⟩
  · intro set h1 h2 h3 h4 h5
    go_enter Tryz.func98, Tryz.ntmps98
    go_wp2_with fail
    go_ret2
    simp [textOf, firstOf, h1, h2, h3, h4, h5]

theorem foldB_lt {set : Int} {b : Nat} (hb : b < 256) : foldB set b < 256 := by unfold foldB; split <;> omega

/-- An iterator's step turns its own block alone. -/
theorem kept_iterAt {S : Nat → Prop} {a w : World} (h : Kept S a w) {k : Nat} (hk : a.heap.size ≤ k) (s : ByteArray) (pos : Nat) : Kept S a (w.iterAt k s pos) :=
  ⟨h.os, h.tape, h.output, by rw [Lib.iterAt_size]; exact h.size, fun i hi hs => (Lib.iterAt_other w k i s pos (by omega)).trans (h.block i hi hs)⟩

set_option maxRecDepth 100000 in
set_option maxHeartbeats 1000000 in
theorem of_any (set : Int) (b : Nat) (hb : b < 256) (w : World) : Calls Tryz.prog 101 #[.int .i64 set, .int .u8 (b : Int)] w fun e w' => e = .returned (.int .i32 (refN set b : Int)) ∧ Kept0 w w' := by
  rw [← of_ref set hb]
  have hdec := decodes_text set
  have hof : ofN set b = seek (firstOf set) (foldB set b) (runesOf set) := rfl
  have hf256 : firstOf set < 256 := by unfold firstOf; (repeat' split) <;> omega
  have hc := foldB_lt (set := set) hb
  obtain ⟨c, hcd⟩ : ∃ c, c = foldB set b := ⟨_, rfl⟩
  rw [← hcd] at hof hc
  obtain ⟨s, hs⟩ : ∃ s, s = textOf set := ⟨_, rfl⟩
  obtain ⟨at0, hat⟩ : ∃ at0, at0 = firstOf set := ⟨_, rfl⟩
  obtain ⟨ans, hans⟩ : ∃ ans, ans = ofN set b := ⟨_, rfl⟩
  rw [← hat] at hof hf256
  rw [← hs] at hdec
  rw [← hans] at hof ⊢
  have G := glyphs_any set w
  rw [← hat, ← hs] at G
  have HD := Lib.hid hdec
  have HO := Lib.hid hof
  have HG := Lib.hid G
  clear hdec hof G hat hs hans
  go_enter Tryz.func101, Tryz.ntmps101
  have step : set = 5 ∧ 128 ≤ b ∨ set = 5 ∧ b < 128 ∨ ¬ set = 5 := by omega
  rcases step with ⟨h5, h128⟩ | ⟨h5, h128⟩ | h5
  · have hcb : (b : Int) - 128 = (c : Int) := by simp only [hcd, foldB, h5, h128, and_self, if_true]; omega
    subst h5
    clear hcd
    go_wp2_with fail
    refine HG.out.mono ?_
    rintro e w1 ⟨rfl, rfl⟩
    clear HG
    go_wp2_with fail
    go_loopw [5] (fun s5 wr => ∃ (pos at' : Nat) (l : List Nat), s5 = .int .u8 (at' : Int) ∧ at' < 256 ∧ Hid (Decodes s pos l) ∧ wr.heap[w1.heap.size]? = some (.stringIter s pos) ∧ Hid (ans = seek at' c l) ∧ Kept0 w1 wr) (fun _ wr => s.size - wr.iterPos w1.heap.size)
    case atStart => exact ⟨0, at0, _, rfl, hf256, HD, heap_new w1 _, HO, (Kept.refl _ w1).alloc _⟩
    case round =>
      clear HD HO
      obtain ⟨pos, at', l, rfl, hat2, hd, hit, ha, hk⟩ := hrel
      have hsz : w1.heap.size < wr.heap.size := (Array.getElem?_eq_some_iff.1 hit).1
      cases l with
      | nil =>
        have hp : ¬ pos < s.size := hd.out
        have hnx : ∀ ty, (Instr.next (.pointer (some ⟨w1.heap.size, 0, none⟩)) true ty).run Tryz.prog wr = _ := fun ty => Lib.run_next_end_at wr w1.heap.size s pos ty hit hp
        go_wp2_with fail
        go_ret
        exact ⟨by rw [ha.out]; rfl, hk⟩
      | cons r l =>
        obtain ⟨hp, hr, hd2⟩ : pos < s.size ∧ (Utf8.decode s pos).1 = r ∧ Decodes s (pos + (Utf8.decode s pos).2) l := hd.out
        have hnx : ∀ ty, (Instr.next (.pointer (some ⟨w1.heap.size, 0, none⟩)) true ty).run Tryz.prog wr = _ := fun ty => Lib.run_next_any_at wr w1.heap.size s pos ty hit hp
        have hwd := width_pos s pos hp
        have hit2 := Lib.iterAt_heap wr w1.heap.size s pos (pos + (Utf8.decode s pos).2) hit
        have hk2 := kept_iterAt hk (k := w1.heap.size) (Nat.le_refl _) s (pos + (Utf8.decode s pos).2)
        have hpos : wr.iterPos w1.heap.size = pos := by simp [World.iterPos, hit]
        have hpos2 : (wr.iterAt w1.heap.size s (pos + (Utf8.decode s pos).2)).iterPos w1.heap.size = pos + (Utf8.decode s pos).2 := by simp [World.iterPos, hit2]
        obtain ⟨w2, hw2⟩ : ∃ w2, w2 = wr.iterAt w1.heap.size s (pos + (Utf8.decode s pos).2) := ⟨_, rfl⟩
        rw [← hw2] at hit2 hk2 hpos2 hnx
        have HD2 := Lib.hid hd2
        clear hd2 hd
        rw [hr] at hnx
        obtain ⟨wd, hwd2⟩ : ∃ wd, wd = (Utf8.decode s pos).2 := ⟨_, rfl⟩
        rw [← hwd2] at HD2 hwd hit2 hpos2
        clear hw2 hwd2
        by_cases hc2 : at' = c
        · subst hc2
          go_wp2_with fail
          go_ret
          exact ⟨by rw [ha.out]; simp [seek], hk2⟩
        · have hc3 : ((at' : Int) == (c : Int)) = false := by simp; omega
          have hw8 : at' = 255 ∨ at' < 255 := by omega
          have hseek : Hid (ans = seek ((at' + 1) % 256) c l) := by show _ = _; rw [ha.out]; simp [seek, hc2]
          rcases hw8 with rfl | hlt
          · go_wp2_with fail
            go_roundw
            case rel => exact ⟨pos + wd, 0, l, by go_num, by omega, HD2, hit2, hseek, hk2⟩
            case measure => rw [hpos, hpos2]; omega
          · go_wp2_with fail
            go_roundw
            case rel => exact ⟨pos + wd, at' + 1, l, by go_num, by omega, HD2, hit2, by rw [Nat.mod_eq_of_lt (by omega)] at hseek; exact hseek, hk2⟩
            case measure => rw [hpos, hpos2]; omega
  · obtain rfl : c = b := by simp only [hcd, foldB]; rw [if_neg (by omega)]
    subst h5
    clear hcd
    go_wp2_with fail
    refine HG.out.mono ?_
    rintro e w1 ⟨rfl, rfl⟩
    clear HG
    go_wp2_with fail
    go_loopw [5] (fun s5 wr => ∃ (pos at' : Nat) (l : List Nat), s5 = .int .u8 (at' : Int) ∧ at' < 256 ∧ Hid (Decodes s pos l) ∧ wr.heap[w1.heap.size]? = some (.stringIter s pos) ∧ Hid (ans = seek at' c l) ∧ Kept0 w1 wr) (fun _ wr => s.size - wr.iterPos w1.heap.size)
    case atStart => exact ⟨0, at0, _, rfl, hf256, HD, heap_new w1 _, HO, (Kept.refl _ w1).alloc _⟩
    case round =>
      clear HD HO
      obtain ⟨pos, at', l, rfl, hat2, hd, hit, ha, hk⟩ := hrel
      have hsz : w1.heap.size < wr.heap.size := (Array.getElem?_eq_some_iff.1 hit).1
      cases l with
      | nil =>
        have hp : ¬ pos < s.size := hd.out
        have hnx : ∀ ty, (Instr.next (.pointer (some ⟨w1.heap.size, 0, none⟩)) true ty).run Tryz.prog wr = _ := fun ty => Lib.run_next_end_at wr w1.heap.size s pos ty hit hp
        go_wp2_with fail
        go_ret
        exact ⟨by rw [ha.out]; rfl, hk⟩
      | cons r l =>
        obtain ⟨hp, hr, hd2⟩ : pos < s.size ∧ (Utf8.decode s pos).1 = r ∧ Decodes s (pos + (Utf8.decode s pos).2) l := hd.out
        have hnx : ∀ ty, (Instr.next (.pointer (some ⟨w1.heap.size, 0, none⟩)) true ty).run Tryz.prog wr = _ := fun ty => Lib.run_next_any_at wr w1.heap.size s pos ty hit hp
        have hwd := width_pos s pos hp
        have hit2 := Lib.iterAt_heap wr w1.heap.size s pos (pos + (Utf8.decode s pos).2) hit
        have hk2 := kept_iterAt hk (k := w1.heap.size) (Nat.le_refl _) s (pos + (Utf8.decode s pos).2)
        have hpos : wr.iterPos w1.heap.size = pos := by simp [World.iterPos, hit]
        have hpos2 : (wr.iterAt w1.heap.size s (pos + (Utf8.decode s pos).2)).iterPos w1.heap.size = pos + (Utf8.decode s pos).2 := by simp [World.iterPos, hit2]
        obtain ⟨w2, hw2⟩ : ∃ w2, w2 = wr.iterAt w1.heap.size s (pos + (Utf8.decode s pos).2) := ⟨_, rfl⟩
        rw [← hw2] at hit2 hk2 hpos2 hnx
        have HD2 := Lib.hid hd2
        clear hd2 hd
        rw [hr] at hnx
        obtain ⟨wd, hwd2⟩ : ∃ wd, wd = (Utf8.decode s pos).2 := ⟨_, rfl⟩
        rw [← hwd2] at HD2 hwd hit2 hpos2
        clear hw2 hwd2
        by_cases hc2 : at' = c
        · subst hc2
          go_wp2_with fail
          go_ret
          exact ⟨by rw [ha.out]; simp [seek], hk2⟩
        · have hc3 : ((at' : Int) == (c : Int)) = false := by simp; omega
          have hw8 : at' = 255 ∨ at' < 255 := by omega
          have hseek : Hid (ans = seek ((at' + 1) % 256) c l) := by show _ = _; rw [ha.out]; simp [seek, hc2]
          rcases hw8 with rfl | hlt
          · go_wp2_with fail
            go_roundw
            case rel => exact ⟨pos + wd, 0, l, by go_num, by omega, HD2, hit2, hseek, hk2⟩
            case measure => rw [hpos, hpos2]; omega
          · go_wp2_with fail
            go_roundw
            case rel => exact ⟨pos + wd, at' + 1, l, by go_num, by omega, HD2, hit2, by rw [Nat.mod_eq_of_lt (by omega)] at hseek; exact hseek, hk2⟩
            case measure => rw [hpos, hpos2]; omega
  · obtain rfl : c = b := by simp only [hcd, foldB]; rw [if_neg (by omega)]
    clear hcd
    go_wp2_with fail
    refine HG.out.mono ?_
    rintro e w1 ⟨rfl, rfl⟩
    clear HG
    go_wp2_with fail
    go_loopw [5] (fun s5 wr => ∃ (pos at' : Nat) (l : List Nat), s5 = .int .u8 (at' : Int) ∧ at' < 256 ∧ Hid (Decodes s pos l) ∧ wr.heap[w1.heap.size]? = some (.stringIter s pos) ∧ Hid (ans = seek at' c l) ∧ Kept0 w1 wr) (fun _ wr => s.size - wr.iterPos w1.heap.size)
    case atStart => exact ⟨0, at0, _, rfl, hf256, HD, heap_new w1 _, HO, (Kept.refl _ w1).alloc _⟩
    case round =>
      clear HD HO
      obtain ⟨pos, at', l, rfl, hat2, hd, hit, ha, hk⟩ := hrel
      have hsz : w1.heap.size < wr.heap.size := (Array.getElem?_eq_some_iff.1 hit).1
      cases l with
      | nil =>
        have hp : ¬ pos < s.size := hd.out
        have hnx : ∀ ty, (Instr.next (.pointer (some ⟨w1.heap.size, 0, none⟩)) true ty).run Tryz.prog wr = _ := fun ty => Lib.run_next_end_at wr w1.heap.size s pos ty hit hp
        go_wp2_with fail
        go_ret
        exact ⟨by rw [ha.out]; rfl, hk⟩
      | cons r l =>
        obtain ⟨hp, hr, hd2⟩ : pos < s.size ∧ (Utf8.decode s pos).1 = r ∧ Decodes s (pos + (Utf8.decode s pos).2) l := hd.out
        have hnx : ∀ ty, (Instr.next (.pointer (some ⟨w1.heap.size, 0, none⟩)) true ty).run Tryz.prog wr = _ := fun ty => Lib.run_next_any_at wr w1.heap.size s pos ty hit hp
        have hwd := width_pos s pos hp
        have hit2 := Lib.iterAt_heap wr w1.heap.size s pos (pos + (Utf8.decode s pos).2) hit
        have hk2 := kept_iterAt hk (k := w1.heap.size) (Nat.le_refl _) s (pos + (Utf8.decode s pos).2)
        have hpos : wr.iterPos w1.heap.size = pos := by simp [World.iterPos, hit]
        have hpos2 : (wr.iterAt w1.heap.size s (pos + (Utf8.decode s pos).2)).iterPos w1.heap.size = pos + (Utf8.decode s pos).2 := by simp [World.iterPos, hit2]
        obtain ⟨w2, hw2⟩ : ∃ w2, w2 = wr.iterAt w1.heap.size s (pos + (Utf8.decode s pos).2) := ⟨_, rfl⟩
        rw [← hw2] at hit2 hk2 hpos2 hnx
        have HD2 := Lib.hid hd2
        clear hd2 hd
        rw [hr] at hnx
        obtain ⟨wd, hwd2⟩ : ∃ wd, wd = (Utf8.decode s pos).2 := ⟨_, rfl⟩
        rw [← hwd2] at HD2 hwd hit2 hpos2
        clear hw2 hwd2
        by_cases hc2 : at' = c
        · subst hc2
          go_wp2_with fail
          go_ret
          exact ⟨by rw [ha.out]; simp [seek], hk2⟩
        · have hc3 : ((at' : Int) == (c : Int)) = false := by simp; omega
          have hw8 : at' = 255 ∨ at' < 255 := by omega
          have hseek : Hid (ans = seek ((at' + 1) % 256) c l) := by show _ = _; rw [ha.out]; simp [seek, hc2]
          rcases hw8 with rfl | hlt
          · go_wp2_with fail
            go_roundw
            case rel => exact ⟨pos + wd, 0, l, by go_num, by omega, HD2, hit2, hseek, hk2⟩
            case measure => rw [hpos, hpos2]; omega
          · go_wp2_with fail
            go_roundw
            case rel => exact ⟨pos + wd, at' + 1, l, by go_num, by omega, HD2, hit2, by rw [Nat.mod_eq_of_lt (by omega)] at hseek; exact hseek, hk2⟩
            case measure => rw [hpos, hpos2]; omega

#print axioms of_any
end Go.Proofs.YtlhajbcabpfbkaaGreatDoor.Gl
