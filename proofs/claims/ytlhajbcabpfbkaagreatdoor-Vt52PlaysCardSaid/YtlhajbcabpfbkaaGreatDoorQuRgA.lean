/-
  A queue in memory: bytes in slots, going round; what New, Len, Over, Clear, room and put do.
-/
import Derived.Test.YtlhajbcabpfbkaaGreatDoorQuCalm
import Derived.Deep.RegionWith
import Derived.Deep.RegionHeld3
import Derived.Deep.OwnRows
import Derived.StillTailTactics
namespace Go.Proofs.YtlhajbcabpfbkaaGreatDoor.Qu
open Go.RowKit Go.Maps

/-- A text of bytes. -/
def str (l : List UInt8) : ByteArray := ⟨l.toArray⟩
theorem str_size (l : List UInt8) : (str l).size = l.length := by simp [str, ByteArray.size]
theorem str_append (a b : List UInt8) : str a ++ str b = str (a ++ b) := by
  apply ByteArray.ext
  simp [str]
abbrev ptr (b : Nat) : Value := .pointer (some ⟨b, 0, none⟩)
def encB (c : UInt8) : Value := .int .u8 c.toNat
/-- Slots that go round: n in block g, the bytes xs from the f-th one on. -/
def Slots (w : World) (g n f : Nat) (xs : List UInt8) : Prop :=
  ∃ cur, w.heap[g]? = some (.cells cur 5 (0, 0)) ∧ (∀ i, i < n → ∃ c, cur[i]? = some (encB c)) ∧ ∀ i x, xs[i]? = some x → cur[(f + i) % n]? = some (encB x)
/-- A queue. -/
structure Qf (w : World) (b g most : Nat) (xs : List UInt8) (over : Bool) : Prop where
  at_ : ∃ (f : Nat) (cap : Nat), w.heap[b]? = some (.cells #[.slice (some ⟨g, 0, none⟩) most cap, .int .i64 (f : Int), .int .i64 (xs.length : Int), .bool over] 81 (0, 0)) ∧ (0 < most → f < most) ∧ f ≤ most ∧ Slots w g most f xs
  ne : g ≠ b
  le : most ≤ 4096
  len : xs.length ≤ most
theorem w64 {n : Int} (h1 : -9223372036854775808 ≤ n) (h2 : n ≤ 9223372036854775807) : wrap64 n = n := by
  have := IntWalk.i64_in n ⟨h1, h2⟩
  rwa [IntWalk.i64_left] at this
section
variable {w w' : World} {b g most : Nat} {xs : List UInt8} {over : Bool}
theorem Slots.kept {f : Nat} (h : Slots w g most f xs) (hh : w'.heap[g]? = w.heap[g]?) : Slots w' g most f xs := by
  obtain ⟨cur, h1, h2⟩ := h
  exact ⟨cur, hh.trans h1, h2⟩
theorem Qf.lt (h : Qf w b g most xs over) : b < w.heap.size := by
  obtain ⟨f, cap, h1, _⟩ := h.at_
  exact (Array.getElem?_eq_some_iff.1 h1).1
theorem Qf.ltg (h : Qf w b g most xs over) : g < w.heap.size := by
  obtain ⟨f, cap, _, _, _, cur, h1, _⟩ := h.at_
  exact (Array.getElem?_eq_some_iff.1 h1).1
theorem Qf.kept {T : Nat → Prop} (h : Qf w b g most xs over) (k : Kept T w w') (h1 : ¬ T b) (h2 : ¬ T g) : Qf w' b g most xs over := by
  have l1 := h.lt
  have l2 := h.ltg
  obtain ⟨f, cap, h3, h4, h5, h6⟩ := h.at_
  exact ⟨⟨f, cap, (k.block _ l1 h1).trans h3, h4, h5, h6.kept (k.block _ l2 h2)⟩, h.ne, h.le, h.len⟩
theorem Qf.kept0 (h : Qf w b g most xs over) (k : Kept0 w w') : Qf w' b g most xs over := h.kept k (fun e => e) (fun e => e)

theorem Tryz.info5 : (Tryz.prog.info? 5).map (fun i => (i.zero, i.size, i.bytes)) = some (some (.int .u8 0), 1, 1) := by kernel_rfl
theorem slots_made (w : World) (n : Nat) : Slots (w.alloc (.cells (madeCells #[.int .u8 0] n) 5)) w.heap.size n 0 [] :=
  by
  obtain ⟨c, h1, _, h3⟩ := World.rowIs_made w (.int .u8 0) n 5
  exact ⟨c, h1, fun i hi => ⟨0, h3 i hi⟩, fun i x hx => by simp at hx⟩
end
theorem new_yes (most : Nat) (w : World) (h : most ≤ 4096) : Calls Tryz.prog 22 #[.int .i64 most] w fun e w' => ∃ b g, e = .returned (.tuple #[ptr b, .int .i64 0]) ∧ Qf w' b g most [] false ∧ w.heap.size ≤ b ∧ w.heap.size ≤ g ∧ Kept0 w w' := by
  have hmk := run_make_row' (P := Tryz.prog) 77 5 (.int .u8 0) 1 Tryz.underlying77 Tryz.info5 rfl .i64 .i64 most (by omega) (by omega)
  have d1 : decide ((most : Int) < 0) = false := by simp
  have d2 : decide ((4096 : Int) < (most : Int)) = false := by simp; omega
  go_enter Tryz.func22, Tryz.ntmps22
  go_wp2_with fail
  go_ret2
  refine ⟨w.heap.size + 1, w.heap.size, rfl, ⟨⟨0, most, heap_new2 w _ _, fun h => h, Nat.zero_le _, (slots_made w most).kept (Below.heap_alloc _ _ _ (by simp))⟩, by omega, h, Nat.zero_le _⟩, by omega, Nat.le_refl _, ((Kept.refl _ w).alloc _).alloc _⟩
theorem new_no (most : Int) (w : World) (h : ¬ (0 ≤ most ∧ most ≤ 4096)) : Calls Tryz.prog 22 #[.int .i64 most] w fun e w' => e = .returned (.tuple #[.pointer none, .int .i64 1]) ∧ Kept0 w w' := by
  by_cases h0 : most < 0
  · go_enter Tryz.func22, Tryz.ntmps22
    go_wp2_with fail
    go_ret2
    exact ⟨rfl, Kept.refl _ _⟩
  · have d0 : decide (most < 0) = false := by simpa using h0
    have d1 : decide (4096 < most) = true := by simp; omega
    clear h0 h
    go_enter Tryz.func22, Tryz.ntmps22
    go_wp2_with fail
    go_ret2
    exact ⟨rfl, Kept.refl _ _⟩
section
variable {w : World} {b g most : Nat} {xs : List UInt8} {over : Bool}
theorem Qf.c1 (h : Qf w b g most xs over) : w.cell? ⟨b, 2, none⟩ = some (.int .i64 (xs.length : Int)) := by
  obtain ⟨f, cap, h1, _⟩ := h.at_
  simp [World.cell?, h1]
theorem Qf.c3 (h : Qf w b g most xs over) : w.cell? ⟨b, 3, none⟩ = some (.bool over) := by
  obtain ⟨f, cap, h1, _⟩ := h.at_
  simp [World.cell?, h1]
theorem len_any (h : Qf w b g most xs over) : Calls Tryz.prog 32 #[ptr b] w fun e w' => e = .returned (.int .i64 (xs.length : Int)) ∧ w' = w := by
  have c1 := h.c1
  clear h
  go_enter Tryz.func32, Tryz.ntmps32
  go_wp2_with fail
  go_ret
  exact ⟨rfl, rfl⟩
theorem over_any (h : Qf w b g most xs over) : Calls Tryz.prog 14 #[ptr b] w fun e w' => e = .returned (.bool over) ∧ w' = w := by
  have c1 := h.c3
  clear h
  go_enter Tryz.func14, Tryz.ntmps14
  go_wp2_with fail
  go_ret
  exact ⟨rfl, rfl⟩
theorem len_nil (w : World) : Calls Tryz.prog 32 #[.pointer none] w fun e w' => e = .returned (.int .i64 0) ∧ w' = w := by
  go_enter Tryz.func32, Tryz.ntmps32
  go_wp2_with fail
  go_ret
  exact ⟨rfl, rfl⟩
theorem over_nil (w : World) : Calls Tryz.prog 14 #[.pointer none] w fun e w' => e = .returned (.bool false) ∧ w' = w := by
  go_enter Tryz.func14, Tryz.ntmps14
  go_wp2_with fail
  go_ret
  exact ⟨rfl, rfl⟩
theorem clear_nil (w : World) : Calls Tryz.prog 33 #[.pointer none] w fun e w' => e = .returned (.tuple #[]) ∧ w' = w := by
  go_enter Tryz.func33, Tryz.ntmps33
  go_wp2_with fail
  refine bodyPost_ret (results_none rfl _ _ _) rfl ?_
  exact ⟨rfl, rfl⟩
theorem room_any (h : Qf w b g most xs over) : Calls Tryz.prog 112 #[ptr b] w fun e w' => e = .returned (.int .i64 ((most - xs.length : Nat) : Int)) ∧ Kept0 w w' := by
  obtain ⟨n, hn⟩ : ∃ n, n = xs.length := ⟨_, rfl⟩
  have hl := h.len
  have hm := h.le
  obtain ⟨f, cap, h1, _⟩ := h.at_
  rw [← hn] at h1 hl ⊢
  clear hn h
  have c0 : w.cell? ⟨b, 0, none⟩ = some (.slice (some ⟨g, 0, none⟩) most cap) := by simp [World.cell?, h1]
  have c2 : w.cell? ⟨b, 2, none⟩ = some (.int .i64 (n : Int)) := by simp [World.cell?, h1]
  have hr : ((most - n : Nat) : Int) = (most : Int) - (n : Int) := by omega
  rw [hr]
  clear h1 hr
  go_enter Tryz.func112, Tryz.ntmps112
  go_wp2_with fail
  go_quiet (fail)
  go_wp2_with fail
  go_ret
  exact ⟨rfl, (Kept.refl _ w).drewN _⟩
theorem clear_any (h : Qf w b g most xs over) : Calls Tryz.prog 33 #[ptr b] w fun e w' => e = .returned (.tuple #[]) ∧ Qf w' b g most [] false ∧ Kept (· = b) w w' := by
  have hbl := h.lt
  have hgl := h.ltg
  have hm := h.le
  have hne := h.ne
  obtain ⟨f, cap, h1, h2, h3, h4⟩ := h.at_
  have c2 : w.cell? ⟨b, 2, none⟩ = some (.int .i64 (xs.length : Int)) := by simp [World.cell?, h1]
  have c3 : w.cell? ⟨b, 3, none⟩ = some (.bool over) := by simp [World.cell?, h1]
  have f2 : w.frozen? ⟨b, 2, none⟩ = false := by simp [World.frozen?, h1]
  have f3 : w.frozen? ⟨b, 3, none⟩ = false := by simp [World.frozen?, h1]
  have HK : Hid (Kept (· = b) w ((w.setCell ⟨b, 2, none⟩ (.int .i64 0)).setCell ⟨b, 3, none⟩ (.bool false))) :=
    Kept.setCell (S := (· = b)) (Kept.setCell (S := (· = b)) (Kept.refl _ w) ⟨b, 2, none⟩ (Or.inr rfl) _) ⟨b, 3, none⟩ (Or.inr rfl) _
  have HH : Hid (((w.setCell ⟨b, 2, none⟩ (.int .i64 0)).setCell ⟨b, 3, none⟩ (.bool false)).heap[b]? = some (.cells #[.slice (some ⟨g, 0, none⟩) most cap, .int .i64 (f : Int), .int .i64 0, .bool false] 81 (0, 0))) := by
    unfold Hid
    simp [World.setCell, Array.getElem?_modify, h1]
  have H4 := Lib.hid h4
  have H2 := Lib.hid h2
  clear h h1 h2 h4
  go_enter Tryz.func33, Tryz.ntmps33
  go_wp2_with fail
  refine bodyPost_end (results_none rfl _ _ _) rfl ?_
  refine ⟨rfl, ⟨⟨f, cap, HH.out, H2.out, h3, ?_⟩, hne, hm, Nat.zero_le _⟩, HK.out⟩
  obtain ⟨cur, q1, q2, _⟩ := H4.out
  exact ⟨cur, (HK.out.block g hgl hne).trans q1, q2, fun i x hx => by simp at hx⟩
set_option maxRecDepth 100000 in
theorem put_any (c : UInt8) (h : Qf w b g most xs over) (hlt : xs.length < most) : Calls Tryz.prog 113 #[ptr b, .int .u8 (c.toNat : Int)] w fun e w' => e = .returned (.tuple #[]) ∧ Qf w' b g most (xs ++ [c]) over ∧ Kept (fun i => i = b ∨ i = g) w w' := by
  obtain ⟨n, hn⟩ : ∃ n, n = xs.length := ⟨_, rfl⟩
  have hm := h.le
  obtain ⟨f, cap, h1, h2, h3, cur, h4, h5, h6⟩ := h.at_
  have c0 : w.cell? ⟨b, 0, none⟩ = some (.slice (some ⟨g, 0, none⟩) most cap) := by simp [World.cell?, h1]
  have c1 : w.cell? ⟨b, 1, none⟩ = some (.int .i64 (f : Int)) := by simp [World.cell?, h1]
  rw [← hn] at hlt
  have c2 : w.cell? ⟨b, 2, none⟩ = some (.int .i64 (n : Int)) := by simp [World.cell?, h1, hn]
  have hq : (IntKind.i64.wrap ((f : Int) + (n : Int))).tmod (most : Int) = (((f + n) % most : Nat) : Int) := by
    rw [IntWalk.i64_left, w64 (by omega) (by omega)]
    rw [show (f : Int) + (n : Int) = ((f + n : Nat) : Int) by omega]
    exact (Int.ofNat_tmod _ _).symm
  have hp : (f + n) % most < most := Nat.mod_lt _ (by omega)
  obtain ⟨p, hpd⟩ : ∃ p, p = (f + n) % most := ⟨_, rfl⟩
  rw [← hpd] at hq hp
  have hfm := h2 (by omega)
  have f0 : w.frozen? ⟨g, p, none⟩ = false := by simp [World.frozen?, h4]
  obtain ⟨old, ho⟩ := h5 p hp
  have c4 : w.cell? ⟨g, p, none⟩ = some (encB old) := by simp [World.cell?, h4, ho]
  have f2 : w.frozen? ⟨b, 2, none⟩ = false := by simp [World.frozen?, h1]
  have hgb : ¬ g = b := h.ne
  have hbg : ¬ b = g := fun e => h.ne e.symm
  have HK : Hid (Kept (fun i => i = b ∨ i = g) w ((w.setCell ⟨g, p, none⟩ (encB c)).setCell ⟨b, 2, none⟩ (.int .i64 ((n + 1 : Nat) : Int)))) :=
    Kept.setCell (S := fun i => i = b ∨ i = g) (Kept.setCell (S := fun i => i = b ∨ i = g) (Kept.refl _ w) ⟨g, p, none⟩ (Or.inr (Or.inr rfl)) _) ⟨b, 2, none⟩ (Or.inr (Or.inl rfl)) _
  have HB : Hid (((w.setCell ⟨g, p, none⟩ (encB c)).setCell ⟨b, 2, none⟩ (.int .i64 ((n + 1 : Nat) : Int))).heap[b]? = some (.cells #[.slice (some ⟨g, 0, none⟩) most cap, .int .i64 (f : Int), .int .i64 ((n + 1 : Nat) : Int), .bool over] 81 (0, 0))) := by
    unfold Hid
    simp [World.setCell, Array.getElem?_modify, h1, hgb]
  have HG : Hid (((w.setCell ⟨g, p, none⟩ (encB c)).setCell ⟨b, 2, none⟩ (.int .i64 ((n + 1 : Nat) : Int))).heap[g]? = some (.cells (cur.setIfInBounds p (encB c)) 5 (0, 0))) := by
    unfold Hid
    simp [World.setCell, Array.getElem?_modify, h4, hbg]
  have HR : Hid ((0 < most → f < most) ∧ f ≤ most ∧ (∀ i, i < most → ∃ c, cur[i]? = some (encB c)) ∧ ∀ i x, xs[i]? = some x → cur[(f + i) % most]? = some (encB x)) := ⟨h2, h3, h5, h6⟩
  have HP := Lib.hid hpd
  have HN := Lib.hid hn
  clear h h1 h2 h3 h4 h5 h6 hn hpd ho
  have hmz : ¬ most = 0 := by omega
  go_enter Tryz.func113, Tryz.ntmps113
  go_wp2_with fail
  go_still_tail 21, (by kernel_rfl)
  repeat still_step
  change wpList _ _ _ _ _ w.drew
  go_wp2_with fail
  refine bodyPost_end (results_none rfl _ _ _) rfl ?_
  have hps : p < cur.size := by
    obtain ⟨_, _, r3, _⟩ := HR.out
    obtain ⟨c', hc'⟩ := r3 p hp
    exact (Array.getElem?_eq_some_iff.1 hc').1
  have hlen : (xs ++ [c]).length = n + 1 := by simp [HN.out]
  refine ⟨rfl, ⟨⟨f, cap, ?_, HR.out.1, HR.out.2.1, cur.setIfInBounds p (encB c), ?_, fun i hi => ?_, fun i x hx => ?_⟩, hgb, hm, by omega⟩, ?_⟩
  · rw [hlen]; exact HB.out
  · exact HG.out
  · by_cases e : i = p
    · subst e
      exact ⟨c, by simp [hps]⟩
    · obtain ⟨c', hc'⟩ := HR.out.2.2.1 i hi
      exact ⟨c', by rw [Array.getElem?_setIfInBounds_ne (by omega)]; exact hc'⟩
  · by_cases e : i = n
    · subst e
      rw [HN.out, List.getElem?_append_right (Nat.le_refl _)] at hx
      simp at hx
      subst hx
      rw [← HP.out]
      simp [hps]
    · have hi : i < n := by
        have := (List.getElem?_eq_some_iff.1 hx).1
        omega
      rw [List.getElem?_append_left (by have := HN.out; omega)] at hx
      have hne : ¬ p = (f + i) % most := by
        rw [HP.out]
        intro h
        have h1 : f + n - (f + i) = n - i := by omega
        have h2 := Nat.sub_mod_eq_zero_of_mod_eq h
        rw [h1, Nat.mod_eq_of_lt (by omega)] at h2
        omega
      rw [Array.getElem?_setIfInBounds_ne hne]
      exact HR.out.2.2.2 i x hx
  · exact HK.out.drew
end
end Go.Proofs.YtlhajbcabpfbkaaGreatDoor.Qu
