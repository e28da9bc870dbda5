/-
  The document's grid of a list of rows.
-/
import Derived.Test.YtkpfhgfdfndliaaGreatDoorMIt
import Derived.Test.YtkpfhgfdfndliaaGreatDoorGRes
import Derived.Below
namespace Go.Proofs.YtkpfhgfdfndliaaGreatDoor
open Go.RowKit

theorem parts_add (F : Nat → Cel) (n C : Nat) : parts F 0 n ++ parts F n C = parts F 0 (n + C) := by
  refine List.ext_getElem? fun j => ?_
  by_cases h1 : j < n * 4
  · rw [List.getElem?_append_left (by rw [parts_length]; exact h1), parts_get _ _ _ _ h1, parts_get _ _ _ _ (by omega)]
  · rw [List.getElem?_append_right (by rw [parts_length]; omega), parts_length]
    by_cases h2 : j < (n + C) * 4
    · rw [parts_get _ _ _ _ (by omega), parts_get _ _ _ _ h2]
      congr 2
      · congr 1; omega
      · omega
    · rw [List.getElem?_eq_none (by rw [parts_length]; omega), List.getElem?_eq_none (by rw [parts_length]; omega)]

/-- The document's grid while its rows are put behind each other. -/
structure OfP (w wr : World) (R C : Nat) (F : Nat → Cel) (i : Nat) (v : Value) : Prop where
  head : ∃ d : Nat, wr.heap[w.heap.size]? = some (.cells #[.int .i64 R, .int .i64 d, v] 78 (0, 0)) ∧ (1 ≤ i → d = C)
  own : wr.ownsRow (w.heap.size + 1) 36 4 v (i * C) (parts F 0 (i * C))
  kept : Kept0 w wr
theorem own_block {w : World} {base e size n : Nat} {v : Value} {xs : List Value} (h : w.ownsRow base e size v n xs) : ∀ b, v.ownBlock = some b → base ≤ b := by
  obtain ⟨_, ⟨rfl, _⟩ | ⟨g, cap, cur, rfl, hb, _⟩⟩ := h
  · intro b hb; simp [Value.ownBlock] at hb
  · intro b hb'; simp [Value.ownBlock] at hb'; omega

set_option maxRecDepth 100000 in
set_option maxHeartbeats 4000000 in
theorem ofR_any (l B R C capR : Nat) (F : Nat → Cel) (w : World) (hr : RowsAt w B l R C (fun i k => F (i * C + k))) (hl : l < w.heap.size) (h1 : 1 ≤ R ∧ R ≤ 255 ∧ 1 ≤ C ∧ C ≤ 255) :
    Calls Tryz.prog 35 #[.slice (some ⟨l, 0, none⟩) R capR] w fun e w' => ∃ g t cap, e = .returned (.pointer (some ⟨g, 0, none⟩)) ∧ w.heap.size ≤ g ∧ w.heap.size ≤ t ∧ RefAt w' g t cap R C F ∧ Kept0 w w' := by
  have hRC : R * C ≤ 65025 := Nat.mul_le_mul h1.2.1 h1.2.2.2
  obtain ⟨r1, r2, r3, r4⟩ := h1
  have HR := Lib.hid hr
  clear hr
  obtain ⟨i0, hi, hz0, hz1, hz2⟩ := info_parts Tryz.info36
  go_enter Tryz.func35, Tryz.ntmps35
  go_wp2_with fail
  obtain ⟨w1, hw1⟩ : ∃ w1, w1 = (w.alloc (.cells #[.int .i64 R, .int .i64 0, .slice none 0 0] 78)) := ⟨_, rfl⟩
  have HP : Hid (OfP w w1 R C F 0 (.slice none 0 0)) := by
    rw [hw1]
    exact ⟨⟨0, heap_new w _, fun e => by omega⟩, by rw [Nat.zero_mul]; exact World.ownsRow_nil _ _ _ _, (Kept.refl _ w).alloc _⟩
  rw [← hw1]
  clear hw1
  go_loopw [4] (fun s4 wr => ∃ (i : Nat) (v : Value), i ≤ R ∧ s4 = .int .i64 (i : Int) ∧ Hid (OfP w wr R C F i v)) (fun s4 _ => R - (intOf s4).toNat)
  case atStart => exact ⟨0, _, by omega, rfl, HP⟩
  case round =>
    clear HP
    obtain ⟨i, v, hiR, rfl, HP⟩ := hrel
    by_cases hlt : i < R
    · have hdt : decide ((i : Int) < (R : Int)) = true := by simp; omega
      have hmul : (i + 1) * C ≤ R * C := Nat.mul_le_mul_right _ (by omega)
      rw [Nat.add_mul, Nat.one_mul] at hmul
      obtain ⟨t, cap, g1, g2, g3, g4, g5⟩ := HR.out.len i hlt
      obtain ⟨⟨d, hh, _⟩, hown0, hk⟩ := HP.out
      have hgl : w.heap.size < wr.heap.size := (Array.getElem?_eq_some_iff.1 hh).1
      have hlg : ¬ l = w.heap.size := by omega
      have hgt : ¬ t = w.heap.size := by have := g5.lt; omega
      have x1 := kcell hk g1
      have x2 : wr.cell? ⟨w.heap.size, 2, none⟩ = some v := by simp [World.cell?, hh]
      have x3 : wr.cell? ⟨w.heap.size, 1, none⟩ = some (.int .i64 d) := by simp [World.cell?, hh]
      have x4 : wr.frozen? ⟨w.heap.size, 1, none⟩ = false := by simp [World.frozen?, hh]
      obtain ⟨W, hW⟩ : ∃ W, W = wr.setCell ⟨w.heap.size, 1, none⟩ (.int .i64 (C : Int)) := ⟨_, rfl⟩
      have hhW : W.heap[w.heap.size]? = some (.cells #[.int .i64 R, .int .i64 C, v] 78 (0, 0)) := by rw [hW]; simp [World.setCell, Array.getElem?_modify, hh]
      have hkW : Kept0 w W := by rw [hW]; exact hk.setCell _ (Or.inl (Nat.le_refl _)) _
      have hownW : W.ownsRow (w.heap.size + 1) 36 4 v (i * C) (parts F 0 (i * C)) := by rw [hW]; exact ownsRow_setCell_below hown0 (by simp) _
      have hvb := own_block hown0
      have HOWN := Lib.hid hownW
      have HH := Lib.hid hhW
      have HK := Lib.hid hkW
      have HVB := Lib.hid hvb
      clear hownW hkW hk hown0 HP hvb
      go_wp2_with fail
      rw [← hW]
      clear hW x1 x2 x3 x4 hh
      have hhW := HH.out
      have y1 := kcell HK.out g1
      have y2 : W.cell? ⟨w.heap.size, 2, none⟩ = some v := by simp [World.cell?, hhW]
      have y3 : W.frozen? ⟨w.heap.size, 2, none⟩ = false := by simp [World.frozen?, hhW]
      have hrowW := g5.kept HK.out (fun e => e)
      have hWs : w.heap.size < W.heap.size := (Array.getElem?_eq_some_iff.1 hhW).1
      clear hhW
      have hnews : ∀ j u, (parts F (i * C) C)[j]? = some u → W.drew.cell? ((⟨t, 0, none⟩ : Addr).add j) = some u := by
        intro j u hj
        have hltj : j < C * 4 := by have := (List.getElem?_eq_some_iff.1 hj).1; rwa [parts_length] at this
        rw [parts_get _ _ _ _ hltj] at hj
        rw [addr_add, ← hj]
        simpa using (CellsAt.part hrowW hltj : W.cell? ⟨t, j, none⟩ = _)
      have HNW := Lib.hid hnews
      clear hnews hrowW
      have HNB : Hid (some w.heap.size ≠ v.ownBlock) := fun e => by have := HVB.out _ e.symm; omega
      go_region_law (first | (refine step_append_lies _ rfl (.tmp 27) (.tmp 31) 76 rfl (w.heap.size + 1) 36 i0 (.agg #[.int .i32 0, .int .i64 0, .bool false, .int .i64 0]) 4 32 Tryz.underlying76 hi hz0 hz1 hz2 rfl (by decide) v (i * C) (parts F 0 (i * C)) rfl HOWN.out ⟨t, 0, none⟩ C cap (parts F (i * C) C) rfl (by simp [parts_length]) HNW.out (parts_one _ _ _) (by omega) (by unfold maxLen; omega) (by omega) (Nat.succ_le_of_lt hWs) W.heap.size rfl ?_; intro g' cap' w2 hown hgrow _ _; have q2 : w2.cell? ⟨w.heap.size, 2, none⟩ = some v := (World.cell?_of_block (hgrow.block _ hWs HNB.out)).trans y2; have q3 : w2.frozen? ⟨w.heap.size, 2, none⟩ = false := (World.frozen?_of_block (hgrow.block _ hWs HNB.out)).trans y3))
      all_goals
        have hh2 : w2.heap[w.heap.size]? = some (.cells #[.int .i64 R, .int .i64 C, v] 78 (0, 0)) := (hgrow.block _ hWs HNB.out).trans HH.out
        have hP : OfP w (w2.setCell ⟨w.heap.size, 2, none⟩ (.slice (some ⟨g', 0, none⟩) (i * C + C) cap')) R C F (i + 1) (.slice (some ⟨g', 0, none⟩) (i * C + C) cap') := by
          refine ⟨⟨C, by simp [World.setCell, Array.getElem?_modify, hh2], fun _ => rfl⟩, ?_, ?_⟩
          · rw [Nat.add_mul, Nat.one_mul, ← parts_add]
            exact ownsRow_setCell_below hown (by simp) _
          · have kd : Kept0 w W.drew := HK.out.drew
            exact (kd.later (Kept.ofGrown hgrow) (fun j hj e => by have := HVB.out _ e.symm; omega)).setCell _ (Or.inl (Nat.le_refl _)) _
        have HPn := Lib.hid hP
        clear hP hh2
        go_wp2_with fail
        go_roundw
        case rel => exact ⟨i + 1, _, by omega, by go_num, HPn⟩
        case measure => simp [intOf]; omega
    · obtain rfl : i = R := by omega
      have hdt : decide ((i : Int) < (i : Int)) = false := by simp
      go_wp2_with fail
      go_ret
      obtain ⟨⟨d, hh, hd⟩, hown, hk⟩ := HP.out
      obtain rfl := hd r1
      obtain ⟨t', cap2, rfl, ht', hcap, hI⟩ := cells_of_owned (n := i * d) (f := F) hown (fun j hj => by have := parts_get F 0 (i * d) j hj; simpa using this) (Nat.mul_pos r1 r3)
      exact ⟨_, t', cap2, rfl, Nat.le_refl _, by omega, ⟨hh, hI, hcap, r1, r2, r3, r4⟩, hk⟩
end Go.Proofs.YtkpfhgfdfndliaaGreatDoor
