/-
  What All of a set comes to: tell yields the runes of a text, one by one.
-/
import Derived.Test.YtlhajbcabpfbkaaGreatDoorGlOf
import Derived.Deep.DeepCutAuto
namespace Go.Proofs.YtlhajbcabpfbkaaGreatDoor.Gl
open Go.RowKit

attribute [local go_sem] Oper.semAt_some

def pairArgs (p : Nat × Nat) : Array Value := #[.int .u8 (p.1 : Int), .int .i32 (p.2 : Int)]

set_option maxHeartbeats 1000000 in
theorem tell_iter (text : ByteArray) (l : List Nat) (hd : Decodes text 0 l) (at0 : Nat) (hat0 : at0 < 256) (k0 n y : Nat) (J Jx : Nat → World → Prop) (W : World) (hJ : Deep W.heap.size J)
    (hY : ∀ k p W1, (pairs at0 l)[k]? = some p → J (k0 + k) W1 → YieldAt Fence.wide n Tryz.prog y (pairArgs p) W1 fun e W' =>
      (e = .returned (.bool true) ∧ J (k0 + k + 1) W' ∧ Kept (· < W.heap.size) W1 W') ∨ (e = .returned (.bool false) ∧ Jx (k0 + k) W'))
    (h0 : J k0 W) :
    Calls Tryz.prog 99 #[.int .u8 (at0 : Int), .string text, .func (.yield y) #[] #[]] W fun e W' =>
      (e = .returned (.bool true) ∧ J (k0 + l.length) W' ∧ W.heap.size ≤ W'.heap.size) ∨ (e = .returned (.bool false) ∧ ∃ k, k < l.length ∧ Jx (k0 + k) W') := by
  have Y := Lib.hid hY
  have HJ := Lib.hid hJ
  have HD := Lib.hid hd
  obtain ⟨N, hN⟩ : ∃ N, N = l.length := ⟨_, rfl⟩
  obtain ⟨ps, hps⟩ : ∃ ps, ps = pairs at0 l := ⟨_, rfl⟩
  have hpl : ps.length = N := by rw [hps, pairs_length, hN]
  rw [← hps] at Y
  rw [← hN]
  have HP : Hid (∀ j, (pairs at0 l)[j]? = ps[0 + j]?) := by intro j; rw [hps, Nat.zero_add]
  have HJ0 : J (k0 + 0) W := h0
  have hNl : 0 + l.length = N := by omega
  clear hY hJ hd hN hps h0
  go_enter Tryz.func99, Tryz.ntmps99
  go_wp2_with fail
  go_loopw [0] (fun s0 wr => ∃ (pos at' k : Nat) (l' : List Nat), s0 = .int .u8 (at' : Int) ∧ at' < 256 ∧ Hid (Decodes text pos l') ∧ wr.heap[W.heap.size]? = some (.stringIter text pos) ∧ J (k0 + k) wr ∧ Hid (∀ j, (pairs at' l')[j]? = ps[k + j]?) ∧ k + l'.length = N) (fun _ wr => text.size - wr.iterPos W.heap.size)
  case atStart => exact ⟨0, at0, 0, l, rfl, hat0, HD, heap_new W _, HJ.out _ _ _ HJ0 ((Below.refl _ W).alloc (Nat.le_refl _) _), HP, hNl⟩
  case round =>
    clear HD HP HJ0 hNl
    obtain ⟨pos, at', k, l', rfl, hat2, hd, hit, hJr, hP, hlen⟩ := hrel
    have hsz : W.heap.size < wr.heap.size := (Array.getElem?_eq_some_iff.1 hit).1
    cases l' with
    | nil =>
      have hp : ¬ pos < text.size := hd.out
      have hnx : ∀ ty, (Instr.next (.pointer (some ⟨W.heap.size, 0, none⟩)) true ty).run Tryz.prog wr = _ := fun ty => Lib.run_next_end_at wr W.heap.size text pos ty hit hp
      clear Y
      go_wp2_with fail
      go_ret
      simp at hlen
      subst hlen
      exact Or.inl ⟨rfl, hJr, Nat.le_of_lt hsz⟩
    | cons r l' =>
      obtain ⟨hp, hr, hd2⟩ : pos < text.size ∧ (Utf8.decode text pos).1 = r ∧ Decodes text (pos + (Utf8.decode text pos).2) l' := hd.out
      have hnx : ∀ ty, (Instr.next (.pointer (some ⟨W.heap.size, 0, none⟩)) true ty).run Tryz.prog wr = _ := fun ty => Lib.run_next_any_at wr W.heap.size text pos ty hit hp
      have hwd := width_pos text pos hp
      have hit2 := Lib.iterAt_heap wr W.heap.size text pos (pos + (Utf8.decode text pos).2) hit
      have hb2 : Below W.heap.size wr (wr.iterAt W.heap.size text (pos + (Utf8.decode text pos).2)) := Lib.below_iterAt (Below.refl _ wr) (k := W.heap.size) (Nat.le_refl _) text (pos + (Utf8.decode text pos).2)
      have hpos : wr.iterPos W.heap.size = pos := by simp [World.iterPos, hit]
      obtain ⟨w2, hw2⟩ : ∃ w2, w2 = wr.iterAt W.heap.size text (pos + (Utf8.decode text pos).2) := ⟨_, rfl⟩
      rw [← hw2] at hit2 hb2 hnx
      have HD2 := Lib.hid hd2
      clear hd2 hd
      rw [hr] at hnx
      obtain ⟨wd, hwd2⟩ : ∃ wd, wd = (Utf8.decode text pos).2 := ⟨_, rfl⟩
      rw [← hwd2] at HD2 hwd hit2
      clear hw2 hwd2
      have hJ2 : J (k0 + k) w2 := HJ.out _ _ _ hJr hb2
      have hpk : ps[k]? = some (at', r) := by have := hP.out 0; simpa [pairs] using this.symm
      obtain ⟨fn, tmps, assign, body, hy, hR⟩ := Y.out k _ w2 hpk hJ2
      unfold pairArgs at hy
      have HR := Lib.hid hR
      clear hR
      go_upto_region 4 with fail
      refine (wpIn_wide (n := 0)).1 ?_
      gi_wp2_with fail
      refine ⟨rfl, RoundIn.mono (roundIn_any HR.out) ?_⟩
      clear hy HR Y
      have HP2 : Hid (∀ j, (pairs ((at' + 1) % 256) l')[j]? = ps[k + 1 + j]?) := by
        intro j
        have := hP.out (j + 1)
        simp only [pairs, List.getElem?_cons_succ] at this
        rw [this]
        congr 1
        omega
      simp only [List.length_cons] at hlen
      clear hnx hP
      rintro e W3 (⟨rfl, hJ3, hk3⟩ | ⟨rfl, hJx3⟩)
      · have hit3 : W3.heap[W.heap.size]? = some (.stringIter text (pos + wd)) := (hk3.block _ (Array.getElem?_eq_some_iff.1 hit2).1 (by omega)).trans hit2
        have hpos3 : W3.iterPos W.heap.size = pos + wd := by simp [World.iterPos, hit3]
        have hw8 : at' = 255 ∨ at' < 255 := by omega
        clear hk3 hit2 hb2 hJ2 hit
        rcases hw8 with rfl | hlt
        · gi_wp2_with fail
          go_wp2_with fail
          go_roundw
          case rel => exact ⟨pos + wd, 0, k + 1, l', by go_num, by omega, HD2, hit3, hJ3, HP2, by omega⟩
          case measure => rw [hpos, hpos3]; omega
        · gi_wp2_with fail
          go_wp2_with fail
          go_roundw
          case rel => exact ⟨pos + wd, at' + 1, k + 1, l', by go_num, by omega, HD2, hit3, hJ3, by rw [Nat.mod_eq_of_lt (by omega)] at HP2; exact HP2, by omega⟩
          case measure => rw [hpos, hpos3]; omega
      · gi_wp2_with fail
        go_wp2_with fail
        go_ret
        exact Or.inr ⟨rfl, k, by omega, hJx3⟩

theorem all_any (set : Int) (w : World) : Calls Tryz.prog 75 #[.int .i64 set] w fun e w' => e = .returned (.func (.func 97) #[] #[.pointer (some ⟨w.heap.size, 0, none⟩)]) ∧ w' = w.alloc (.cells #[.int .i64 set] 3) := by
  have hmf : ∀ (fn : Fn) (first cap : Array Value) (w : World), (Instr.makeFunc fn first cap).run Tryz.prog w = .ok (.func fn first cap) w := fun _ _ _ _ => rfl
  go_enter Tryz.func75, Tryz.ntmps75
  go_wp2_with fail
  go_ret
  exact ⟨rfl, rfl⟩

/-- What the k-th round of All is handed. -/
def allArgs (set : Int) (k : Nat) : Array Value := pairArgs ((allL set).getD k (0, 0))
theorem allArgs_of {set : Int} {k : Nat} {p : Nat × Nat} (h : (allL set)[k]? = some p) : allArgs set k = pairArgs p := by
  unfold allArgs
  rw [List.getD, h]
  rfl

end Go.Proofs.YtlhajbcabpfbkaaGreatDoor.Gl
namespace Go.Proofs.YtlhajbcabpfbkaaGreatDoor
theorem Deep.mono {B B' : Nat} {I : Nat → World → Prop} (h : Deep B I) (hB : B ≤ B') : Deep B' I := fun k W W' h1 h2 => h k W W' h1 (h2.mono hB)
end Go.Proofs.YtlhajbcabpfbkaaGreatDoor
namespace Go.Proofs.YtlhajbcabpfbkaaGreatDoor.Gl
open Go.RowKit

set_option maxHeartbeats 1000000 in
theorem all_iter (bx : Nat) (set : Int) : IterAt Tryz.prog 97 #[.pointer (some ⟨bx, 0, none⟩)] (allArgs set) (allL set).length (fun W => W.cell? ⟨bx, 0, none⟩ = some (.int .i64 set)) := by
  intro n l J Jx W hJ hJx hG hY h0
  refine callsIn_wide.2 ?_
  have hb := hG _ _ h0
  have hbl := World.block_lt_of_cell? W _ hb
  have hf256 : firstOf set < 256 := by unfold firstOf; (repeat' split) <;> omega
  have T1 := tell_iter (textOf set) (runesOf set) (decodes_text set) (firstOf set) hf256 0 n l J Jx W hJ (by
    intro k p W1 hp hj
    have hlt : k < (pairs (firstOf set) (runesOf set)).length := (List.getElem?_eq_some_iff.1 hp).1
    have hk : (allL set)[k]? = some p := by unfold allL; rw [List.getElem?_append_left hlt]; exact hp
    have := hY (0 + k) W1 (by rw [Nat.zero_add]; exact (List.getElem?_eq_some_iff.1 hk).1) hj
    rw [Nat.zero_add, allArgs_of hk] at this
    simpa using this) h0
  rw [Nat.zero_add] at T1
  have G1 := glyphs_any set W
  have HGG := Lib.hid hG
  by_cases h5 : set = 5
  · subst h5
    have T2 : ∀ W3, J 95 W3 → W.heap.size ≤ W3.heap.size → Calls Tryz.prog 99 #[.int .u8 160, .string (textOf 5), .func (.yield l) #[] #[]] W3 fun e W' =>
        (e = .returned (.bool true) ∧ J 190 W' ∧ W3.heap.size ≤ W'.heap.size) ∨ (e = .returned (.bool false) ∧ ∃ k, k < 95 ∧ Jx (95 + k) W') := fun W3 hj3 hs3 =>
      tell_iter (textOf 5) (runesOf 5) (decodes_text 5) 160 (by omega) 95 n l J Jx W3 (hJ.mono hs3) (by
        intro k p W1 hp hj
        have hlt : k < 95 := (List.getElem?_eq_some_iff.1 hp).1
        have hk : (allL 5)[95 + k]? = some p := by
          have h1 : (pairs (firstOf 5) (runesOf 5)).length = 95 := by decide +kernel
          unfold allL
          rw [List.getElem?_append_right (by rw [h1]; omega), h1, Nat.add_sub_cancel_left]
          exact hp
        have := hY (95 + k) W1 (List.getElem?_eq_some_iff.1 hk).1 hj
        rw [allArgs_of hk] at this
        obtain ⟨fn, tmps, assign, body, hy, hR⟩ := this
        refine ⟨fn, tmps, assign, body, hy, hR.mono ?_⟩
        rintro e W' (⟨h1, h2, h3⟩ | h1)
        · exact Or.inl ⟨h1, h2, h3.mono (fun _ _ h => by omega)⟩
        · exact Or.inr h1) hj3
    have hlen : (allL 5).length = 190 := by decide +kernel
    have hlen1 : (runesOf 5).length = 95 := by decide +kernel
    rw [hlen]
    rw [hlen1] at T1
    obtain ⟨s, hs⟩ : ∃ s, s = textOf 5 := ⟨_, rfl⟩
    rw [show firstOf 5 = 32 from rfl, ← hs] at G1 T1
    rw [← hs] at T2
    have HG := Lib.hid G1
    have HT := Lib.hid T1
    have HT2 := Lib.hid T2
    clear hs hf256 hY hJ hJx hG T1 G1 hlen hlen1 T2
    go_enter Tryz.func97, Tryz.ntmps97
    go_wp2_with fail
    refine HG.out.mono ?_
    rintro e w1 ⟨rfl, rfl⟩
    clear HG
    go_wp2_with fail
    refine HT.out.mono ?_
    clear HT
    rintro e W3 (⟨rfl, hJ3, hs3⟩ | ⟨rfl, k, hk, hJx3⟩)
    · have hb3 := HGG.out _ _ hJ3
      have hbl3 := World.block_lt_of_cell? W3 _ hb3
      clear HGG
      go_wp2_with fail
      refine (HT2.out W3 hJ3 hs3).mono ?_
      clear HT2
      rintro e W4 (⟨rfl, hJ4, hs4⟩ | ⟨rfl, k, hk, hJx3⟩)
      · go_wp2_with fail
        go_end0
        exact ⟨⟨_, rfl⟩, Or.inl hJ4⟩
      · go_wp2_with fail
        go_end0
        exact ⟨⟨_, rfl⟩, Or.inr ⟨95 + k, by omega, hJx3⟩⟩
    · go_wp2_with fail
      go_end0
      exact ⟨⟨_, rfl⟩, Or.inr ⟨k, by omega, by simpa using hJx3⟩⟩
  · have hlen : (allL set).length = (runesOf set).length := by simp [allL, h5, pairs_length]
    rw [hlen]
    obtain ⟨rs, hrs⟩ : ∃ rs, rs = runesOf set := ⟨_, rfl⟩
    obtain ⟨s, hs⟩ : ∃ s, s = textOf set := ⟨_, rfl⟩
    obtain ⟨at0, hat⟩ : ∃ at0, at0 = firstOf set := ⟨_, rfl⟩
    rw [← hat, ← hs] at G1
    rw [← hrs, ← hat, ← hs] at T1
    rw [← hrs]
    have HG := Lib.hid G1
    have HT := Lib.hid T1
    clear hrs hs hat hf256 hY hJ hJx hG T1 G1 hlen
    go_enter Tryz.func97, Tryz.ntmps97
    go_wp2_with fail
    refine HG.out.mono ?_
    rintro e w1 ⟨rfl, rfl⟩
    clear HG
    go_wp2_with fail
    refine HT.out.mono ?_
    clear HT
    rintro e W3 (⟨rfl, hJ3, hs3⟩ | ⟨rfl, k, hk, hJx3⟩)
    · have hb3 := HGG.out _ _ hJ3
      have hbl3 := World.block_lt_of_cell? W3 _ hb3
      clear HGG
      go_wp2_with fail
      go_end0
      exact ⟨⟨_, rfl⟩, Or.inl hJ3⟩
    · go_wp2_with fail
      go_end0
      exact ⟨⟨_, rfl⟩, Or.inr ⟨k, hk, by simpa using hJx3⟩⟩

#print axioms all_iter
end Go.Proofs.YtlhajbcabpfbkaaGreatDoor.Gl
