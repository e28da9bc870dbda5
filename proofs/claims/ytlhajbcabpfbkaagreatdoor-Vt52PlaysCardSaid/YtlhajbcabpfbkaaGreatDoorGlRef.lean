/-
  What the document's answer, Of of vizardref02, is.
-/
import Derived.Test.YtlhajbcabpfbkaaGreatDoorGlOf
namespace Go.Proofs.YtlhajbcabpfbkaaGreatDoor.Gl
open Go.RowKit

def listCells (l : List Nat) : Array Value := (l.map fun n : Nat => Value.int .i32 (n : Int)).toArray
theorem listCells_get {l : List Nat} {k : Nat} (h : k < l.length) : (listCells l)[k]? = some (.int .i32 (l.getD k 0 : Int)) := by
  simp [listCells, h, List.getD]

/-- An operation that answers a value, told as a run. -/
theorem wpList_value {P : Program} {ops : Array Oper} {Q : Exit → Act → World → Prop} {a : Act} {w w' : World} {rest : List Oper} {o : Oper} {v : Value} (hg : o.guard = none) (hr : (execOp a.eval o).run P w = .ok (.value v) w')
    (h : wpList P ops Q rest (a.put o.dst v) w') : wpList P ops Q (o :: rest) a w :=
  wpList_plain hg fun K hK => by
    unfold Oper.wp
    rw [hr]
    exact hK _ _ h

theorem low_any (w : World) : Calls Tryz.prog 84 #[] w fun e w' => e = .returned (.slice (some ⟨w.heap.size, 0, none⟩) 31 31) ∧ w' = w.alloc (.cells (listCells lowL) 21) := by
  go_enter Tryz.func84, Tryz.ntmps84
  go_wp2_with fail
  go_ret
  exact ⟨rfl, by rfl⟩

theorem graph_any (w : World) : Calls Tryz.prog 86 #[] w fun e w' => e = .returned (.slice (some ⟨w.heap.size, 0, none⟩) 30 30) ∧ w' = w.alloc (.cells (listCells graphL) 21) := by
  go_enter Tryz.func86, Tryz.ntmps86
  go_wp2_with fail
  go_ret
  exact ⟨rfl, by rfl⟩

theorem lines_any (w : World) : Calls Tryz.prog 87 #[] w fun e w' => e = .returned (.slice (some ⟨w.heap.size, 0, none⟩) 16 16) ∧ w' = w.alloc (.cells (listCells linesL) 21) := by
  go_enter Tryz.func87, Tryz.ntmps87
  go_wp2_with fail
  go_ret
  exact ⟨rfl, by rfl⟩

set_option maxRecDepth 100000 in
set_option maxHeartbeats 4000000 in
theorem high_any (w : World) : Calls Tryz.prog 85 #[] w fun e w' => e = .returned (.slice (some ⟨w.heap.size, 0, none⟩) 127 127) ∧ w' = w.alloc (.cells (listCells highL) 21) := by
  go_enter Tryz.func85, Tryz.ntmps85
  go_wp2_with (refine wpList_value (v := .slice (some ⟨w.heap.size, 0, none⟩) 127 127) (w' := w.alloc (.cells (listCells highL) 21)) rfl (by kernel_rfl) ?_)
  go_ret
  exact ⟨rfl, rfl⟩

/-- A list that was laid as a row. -/
theorem laid_row (w : World) (l : List Nat) : (∀ k, k < l.length → (w.alloc (.cells (listCells l) 21)).cell? ⟨w.heap.size, k, none⟩ = some (.int .i32 (l.getD k 0 : Int))) ∧ Kept0 w (w.alloc (.cells (listCells l) 21)) := by
  refine ⟨fun k hk => ?_, (Kept.refl _ w).alloc _⟩
  unfold World.cell?
  rw [show (w.alloc (.cells (listCells l) 21)).heap[w.heap.size]? = some (.cells (listCells l) 21) from heap_new w _]
  exact listCells_get hk

set_option maxRecDepth 100000 in
set_option maxHeartbeats 1000000 in
theorem ref1 (b : Nat) (hb : b < 256) (w : World) : Calls Tryz.prog 64 #[.int .i64 1, .int .u8 (b : Int)] w fun e w' => e = .returned (.int .i32 (refN 1 b : Int)) ∧ Kept0 w w' := by
  rw [show refN 1 b = plainN b from rfl]
  unfold plainN
  by_cases h1 : 32 ≤ b
  · by_cases h2 : b ≤ 126
    · rw [if_pos ⟨h1, h2⟩]
      go_enter Tryz.func64, Tryz.ntmps64
      go_wp2_with fail
      go_ret
      exact ⟨rfl, Kept.refl _ w⟩
    · rw [if_neg (by omega)]
      go_enter Tryz.func64, Tryz.ntmps64
      go_wp2_with fail
      go_ret
      exact ⟨rfl, Kept.refl _ w⟩
  · rw [if_neg (by omega)]
    go_enter Tryz.func64, Tryz.ntmps64
    go_wp2_with fail
    go_ret
    exact ⟨rfl, Kept.refl _ w⟩

set_option maxRecDepth 100000 in
set_option maxHeartbeats 1000000 in
theorem ref2 (b : Nat) (hb : b < 256) (w : World) : Calls Tryz.prog 64 #[.int .i64 2, .int .u8 (b : Int)] w fun e w' => e = .returned (.int .i32 (refN 2 b : Int)) ∧ Kept0 w w' := by
  rw [show refN 2 b = (if b = 0 then 32 else if b < 32 then lowL.getD (b - 1) 0 else if b = 127 then 8962 else if b = 255 then 160 else if 128 ≤ b then highL.getD (b - 128) 0 else plainN b) from rfl]
  unfold plainN
  by_cases h1 : b = 0
  · subst h1
    go_enter Tryz.func64, Tryz.ntmps64
    go_wp2_with fail
    go_ret
    exact ⟨rfl, Kept.refl _ w⟩
  by_cases h2 : b < 32
  · rw [if_neg h1, if_pos h2]
    have hd : decide (31 ≤ b - 1) = false := by simp; omega
    go_enter Tryz.func64, Tryz.ntmps64
    go_wp2_with fail
    refine (low_any _).mono ?_
    rintro e w1 ⟨rfl, hw1⟩
    obtain ⟨hcell, hk⟩ := laid_row w lowL
    rw [← hw1] at hcell hk
    clear hw1
    have hc := hcell (b - 1) (by show _ < 31; omega)
    clear hcell
    go_wp2_with fail
    go_ret
    exact ⟨rfl, hk⟩
  by_cases h3 : b = 127
  · subst h3
    go_enter Tryz.func64, Tryz.ntmps64
    go_wp2_with fail
    go_ret
    exact ⟨rfl, Kept.refl _ w⟩
  by_cases h4 : b = 255
  · subst h4
    go_enter Tryz.func64, Tryz.ntmps64
    go_wp2_with fail
    go_ret
    exact ⟨rfl, Kept.refl _ w⟩
  by_cases h5 : 128 ≤ b
  · rw [if_neg h1, if_neg h2, if_neg h3, if_neg h4, if_pos h5]
    have hd : decide (127 ≤ b - 128) = false := by simp; omega
    go_enter Tryz.func64, Tryz.ntmps64
    go_wp2_with fail
    refine (high_any _).mono ?_
    rintro e w1 ⟨rfl, hw1⟩
    obtain ⟨hcell, hk⟩ := laid_row w highL
    rw [← hw1] at hcell hk
    clear hw1
    have hc := hcell (b - 128) (by show _ < 127; omega)
    clear hcell
    go_wp2_with fail
    go_ret
    exact ⟨rfl, hk⟩
  rw [if_neg h1, if_neg h2, if_neg h3, if_neg h4, if_neg h5, if_pos (by omega)]
  go_enter Tryz.func64, Tryz.ntmps64
  go_wp2_with fail
  go_ret
  exact ⟨rfl, Kept.refl _ w⟩

set_option maxRecDepth 100000 in
set_option maxHeartbeats 1000000 in
theorem ref3 (b : Nat) (hb : b < 256) (w : World) : Calls Tryz.prog 64 #[.int .i64 3, .int .u8 (b : Int)] w fun e w' => e = .returned (.int .i32 (refN 3 b : Int)) ∧ Kept0 w w' := by
  rw [show refN 3 b = (if 94 ≤ b ∧ b ≤ 96 then 32 else if 97 ≤ b ∧ b ≤ 126 then graphL.getD (b - 97) 0 else plainN b) from rfl]
  unfold plainN
  by_cases h1 : 94 ≤ b ∧ b ≤ 96
  · obtain ⟨h2, h3⟩ := h1
    rw [if_pos ⟨h2, h3⟩]
    go_enter Tryz.func64, Tryz.ntmps64
    go_wp2_with fail
    go_ret
    exact ⟨rfl, Kept.refl _ w⟩
  by_cases h2 : 97 ≤ b ∧ b ≤ 126
  · rw [if_neg h1, if_pos h2]
    obtain ⟨h3, h4⟩ := h2
    clear h1
    have hd : decide (30 ≤ b - 97) = false := by simp; omega
    go_enter Tryz.func64, Tryz.ntmps64
    go_wp2_with fail
    refine (graph_any _).mono ?_
    rintro e w1 ⟨rfl, hw1⟩
    obtain ⟨hcell, hk⟩ := laid_row w graphL
    rw [← hw1] at hcell hk
    clear hw1
    have hc := hcell (b - 97) (by show _ < 30; omega)
    clear hcell
    go_wp2_with fail
    go_ret
    exact ⟨rfl, hk⟩
  rw [if_neg h1, if_neg h2]
  by_cases h3 : 32 ≤ b ∧ b ≤ 126
  · rw [if_pos h3]
    have h4 : b < 94 := by omega
    have h5 : 32 ≤ b := h3.1
    clear h1 h2 h3
    go_enter Tryz.func64, Tryz.ntmps64
    go_wp2_with fail
    go_ret
    exact ⟨rfl, Kept.refl _ w⟩
  · rw [if_neg h3]
    have h4 : b < 32 ∨ 126 < b := by omega
    clear h1 h2 h3
    rcases h4 with h4 | h4
    · go_enter Tryz.func64, Tryz.ntmps64
      go_wp2_with fail
      go_ret
      exact ⟨rfl, Kept.refl _ w⟩
    · go_enter Tryz.func64, Tryz.ntmps64
      go_wp2_with fail
      go_ret
      exact ⟨rfl, Kept.refl _ w⟩

set_option maxRecDepth 100000 in
set_option maxHeartbeats 1000000 in
theorem ref4 (b : Nat) (hb : b < 256) (w : World) : Calls Tryz.prog 64 #[.int .i64 4, .int .u8 (b : Int)] w fun e w' => e = .returned (.int .i32 (refN 4 b : Int)) ∧ Kept0 w w' := by
  rw [show refN 4 b = (if 48 ≤ b ∧ b ≤ 63 then linesL.getD (b - 48) 0 else plainN b) from rfl]
  unfold plainN
  by_cases h2 : 48 ≤ b ∧ b ≤ 63
  · rw [if_pos h2]
    obtain ⟨h3, h4⟩ := h2
    have hd : decide (16 ≤ b - 48) = false := by simp; omega
    go_enter Tryz.func64, Tryz.ntmps64
    go_wp2_with fail
    refine (lines_any _).mono ?_
    rintro e w1 ⟨rfl, hw1⟩
    obtain ⟨hcell, hk⟩ := laid_row w linesL
    rw [← hw1] at hcell hk
    clear hw1
    have hc := hcell (b - 48) (by show _ < 16; omega)
    clear hcell
    go_wp2_with fail
    go_ret
    exact ⟨rfl, hk⟩
  rw [if_neg h2]
  by_cases h3 : 32 ≤ b ∧ b ≤ 126
  · rw [if_pos h3]
    have h4 : b < 48 ∨ 63 < b := by omega
    obtain ⟨h5, h6⟩ := h3
    clear h2
    rcases h4 with h4 | h4
    · go_enter Tryz.func64, Tryz.ntmps64
      go_wp2_with fail
      go_ret
      exact ⟨rfl, Kept.refl _ w⟩
    · go_enter Tryz.func64, Tryz.ntmps64
      go_wp2_with fail
      go_ret
      exact ⟨rfl, Kept.refl _ w⟩
  · rw [if_neg h3]
    have h4 : b < 32 ∨ 126 < b := by omega
    clear h2 h3
    rcases h4 with h4 | h4
    · go_enter Tryz.func64, Tryz.ntmps64
      go_wp2_with fail
      go_ret
      exact ⟨rfl, Kept.refl _ w⟩
    · go_enter Tryz.func64, Tryz.ntmps64
      go_wp2_with fail
      go_ret
      exact ⟨rfl, Kept.refl _ w⟩

set_option maxRecDepth 100000 in
set_option maxHeartbeats 1000000 in
theorem ref5 (b : Nat) (hb : b < 256) (w : World) : Calls Tryz.prog 64 #[.int .i64 5, .int .u8 (b : Int)] w fun e w' => e = .returned (.int .i32 (refN 5 b : Int)) ∧ Kept0 w w' := by
  rw [show refN 5 b = (if 97 ≤ foldB 5 b ∧ foldB 5 b ≤ 122 then foldB 5 b - 32 else plainN (foldB 5 b)) from rfl]
  by_cases h1 : 128 ≤ b
  · rw [show foldB 5 b = b - 128 from if_pos ⟨rfl, h1⟩]
    unfold plainN
    by_cases h2 : 97 ≤ b - 128 ∧ b - 128 ≤ 122
    · rw [if_pos h2]
      obtain ⟨h3, h4⟩ := h2
      go_enter Tryz.func64, Tryz.ntmps64
      go_wp2_with fail
      go_ret
      exact ⟨by first | rfl | exact congrArg (fun x : Int => Ending.returned (.int .i32 x)) (by omega), Kept.refl _ w⟩
    rw [if_neg h2]
    by_cases h3 : 32 ≤ b - 128 ∧ b - 128 ≤ 126
    · rw [if_pos h3]
      have h4 : b - 128 < 97 ∨ 122 < b - 128 := by omega
      obtain ⟨h5, h6⟩ := h3
      clear h2
      rcases h4 with h4 | h4
      · go_enter Tryz.func64, Tryz.ntmps64
        go_wp2_with fail
        go_ret
        exact ⟨by first | rfl | exact congrArg (fun x : Int => Ending.returned (.int .i32 x)) (by omega), Kept.refl _ w⟩
      · go_enter Tryz.func64, Tryz.ntmps64
        go_wp2_with fail
        go_ret
        exact ⟨by first | rfl | exact congrArg (fun x : Int => Ending.returned (.int .i32 x)) (by omega), Kept.refl _ w⟩
    · rw [if_neg h3]
      have h4 : b - 128 < 32 ∨ 126 < b - 128 := by omega
      clear h2 h3
      rcases h4 with h4 | h4
      · go_enter Tryz.func64, Tryz.ntmps64
        go_wp2_with fail
        go_ret
        exact ⟨rfl, Kept.refl _ w⟩
      · go_enter Tryz.func64, Tryz.ntmps64
        go_wp2_with fail
        go_ret
        exact ⟨rfl, Kept.refl _ w⟩
  · rw [show foldB 5 b = b from if_neg (fun e => h1 e.2)]
    unfold plainN
    by_cases h2 : 97 ≤ b ∧ b ≤ 122
    · rw [if_pos h2]
      obtain ⟨h3, h4⟩ := h2
      go_enter Tryz.func64, Tryz.ntmps64
      go_wp2_with fail
      go_ret
      exact ⟨by first | rfl | exact congrArg (fun x : Int => Ending.returned (.int .i32 x)) (by omega), Kept.refl _ w⟩
    rw [if_neg h2]
    by_cases h3 : 32 ≤ b ∧ b ≤ 126
    · rw [if_pos h3]
      have h4 : b < 97 ∨ 122 < b := by omega
      obtain ⟨h5, h6⟩ := h3
      clear h2
      rcases h4 with h4 | h4
      · go_enter Tryz.func64, Tryz.ntmps64
        go_wp2_with fail
        go_ret
        exact ⟨by first | rfl | exact congrArg (fun x : Int => Ending.returned (.int .i32 x)) (by omega), Kept.refl _ w⟩
      · go_enter Tryz.func64, Tryz.ntmps64
        go_wp2_with fail
        go_ret
        exact ⟨by first | rfl | exact congrArg (fun x : Int => Ending.returned (.int .i32 x)) (by omega), Kept.refl _ w⟩
    · rw [if_neg h3]
      have h4 : b < 32 ∨ 126 < b := by omega
      clear h2 h3
      rcases h4 with h4 | h4
      · go_enter Tryz.func64, Tryz.ntmps64
        go_wp2_with fail
        go_ret
        exact ⟨rfl, Kept.refl _ w⟩
      · go_enter Tryz.func64, Tryz.ntmps64
        go_wp2_with fail
        go_ret
        exact ⟨rfl, Kept.refl _ w⟩

set_option maxRecDepth 100000 in
set_option maxHeartbeats 1000000 in
theorem ref6 (set : Int) (h1 : ¬ set = 1) (h2 : ¬ set = 2) (h3 : ¬ set = 3) (h4 : ¬ set = 4) (h5 : ¬ set = 5) (b : Nat) (hb : b < 256) (w : World) : Calls Tryz.prog 64 #[.int .i64 set, .int .u8 (b : Int)] w fun e w' => e = .returned (.int .i32 (refN set b : Int)) ∧ Kept0 w w' := by
  rw [refN_other b h1 h2 h3 h4 h5]
  have h6 : b < 32 ∨ (32 ≤ b ∧ b ≤ 126) ∨ 126 < b := by omega
  rcases h6 with h6 | ⟨h6, h7⟩ | h6
  · go_enter Tryz.func64, Tryz.ntmps64
    go_wp2_with fail
    go_ret
    exact ⟨rfl, Kept.refl _ w⟩
  · go_enter Tryz.func64, Tryz.ntmps64
    go_wp2_with fail
    go_ret
    exact ⟨rfl, Kept.refl _ w⟩
  · go_enter Tryz.func64, Tryz.ntmps64
    go_wp2_with fail
    go_ret
    exact ⟨rfl, Kept.refl _ w⟩

theorem ref_any (set : Int) (b : Nat) (hb : b < 256) (w : World) : Calls Tryz.prog 64 #[.int .i64 set, .int .u8 (b : Int)] w fun e w' => e = .returned (.int .i32 (refN set b : Int)) ∧ Kept0 w w' :=
  set_cases (Q := fun set => Calls Tryz.prog 64 #[.int .i64 set, .int .u8 (b : Int)] w fun e w' => e = .returned (.int .i32 (refN set b : Int)) ∧ Kept0 w w') (ref1 b hb w) (ref2 b hb w) (ref3 b hb w) (ref4 b hb w) (ref5 b hb w)
    (fun set h1 h2 h3 h4 h5 => ref6 set h1 h2 h3 h4 h5 b hb w) set

#print axioms ref_any
end Go.Proofs.YtlhajbcabpfbkaaGreatDoor.Gl
