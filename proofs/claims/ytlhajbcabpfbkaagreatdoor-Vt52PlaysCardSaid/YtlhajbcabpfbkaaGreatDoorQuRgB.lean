/-
  What a Push does: whether all texts fit, and where their bytes are then.
-/
import Derived.Test.YtlhajbcabpfbkaaGreatDoorQuRgA
namespace Go.Proofs.YtlhajbcabpfbkaaGreatDoor.Qu
open Go.RowKit Go.Maps

def num : Value → Int
  | .int _ n => n
  | _ => 0
theorem ret_bool {a b : Bool} (h : a = b) : Ending.returned (.bool a) = .returned (.bool b) := by rw [h]
/-- The texts of a list in memory. -/
def StrsIn (w : World) (a : Option Addr) (l : List ByteArray) : Prop := ∀ (i : Nat) (s : ByteArray), l[i]? = some s → ∃ b off, a = some ⟨b, off, none⟩ ∧ w.cell? ⟨b, off + i, none⟩ = some (.string s) ∧ s.size ≤ 140737488351232
/-- A list's block is none of these. -/
def Off (a : Option Addr) (l : List ByteArray) (T : Nat → Prop) : Prop := l ≠ [] → ∀ p, a = some p → ¬ T p.block
theorem StrsIn.kept {w w' : World} {a : Option Addr} {l : List ByteArray} (h : StrsIn w a l) {T : Nat → Prop} (k : Kept T w w') (ho : Off a l T) : StrsIn w' a l := fun i s hs => by
  obtain ⟨b, off, h1, h2, h3⟩ := h i s hs
  exact ⟨b, off, h1, (k.cell (b := b) (o := off + i) (World.block_lt_of_cell? w _ h2) (ho (fun e => by rw [e] at hs; simp at hs) _ h1)).trans h2, h3⟩
theorem StrsIn.kept0 {w w' : World} {a : Option Addr} {l : List ByteArray} (h : StrsIn w a l) (k : Kept0 w w') : StrsIn w' a l := h.kept k (fun _ _ _ e => e)
/-- How many bytes texts have, and which. -/
def sizes (l : List ByteArray) : Nat := (l.map ByteArray.size).sum
def bytesOf (l : List ByteArray) : List UInt8 := l.flatMap fun s => s.data.toList
theorem len_bytesOf (l : List ByteArray) : (bytesOf l).length = sizes l := by
  induction l with
  | nil => rfl
  | cons s l ih =>
    simp only [bytesOf, sizes, List.flatMap_cons, List.length_append, List.map_cons, List.sum_cons] at ih ⊢
    rw [ih]
    simp
theorem sizes_take_le (l : List ByteArray) (k : Nat) : sizes (l.take k) ≤ sizes l := by
  induction l generalizing k with
  | nil => simp
  | cons s l ih =>
    cases k with
    | zero => simp [sizes]
    | succ k =>
      have := ih k
      simp only [sizes, List.take_succ_cons, List.map_cons, List.sum_cons] at this ⊢
      omega
theorem sizes_step {l : List ByteArray} {k : Nat} {s : ByteArray} (h : l[k]? = some s) : sizes (l.take (k + 1)) = sizes (l.take k) + s.size := by
  rw [List.take_add_one, h]
  simp [sizes]
theorem bytes_step {l : List ByteArray} {k : Nat} {s : ByteArray} (h : l[k]? = some s) : bytesOf (l.take (k + 1)) = bytesOf (l.take k) ++ s.data.toList := by
  rw [List.take_add_one, h]
  simp [bytesOf]

set_option maxRecDepth 100000 in
set_option maxHeartbeats 1000000 in
theorem fit_any (a : Option Addr) (cap : Nat) (l : List ByteArray) (room : Nat) (w : World) (hl : StrsIn w a l) (hn : l.length ≤ 9223372036854775807) (hr : room ≤ 4096) :
    Calls Tryz.prog 111 #[.slice a l.length cap, .int .i64 (room : Int)] w fun e w' => e = .returned (.bool (decide (sizes l ≤ room))) ∧ w' = w := by
  obtain ⟨n, hnl⟩ : ∃ n, n = l.length := ⟨_, rfl⟩
  rw [← hnl] at hn ⊢
  have HN := Lib.hid hnl
  clear hnl
  go_enter Tryz.func111, Tryz.ntmps111
  go_wp2_with fail
  go_loopw [1, 9] (fun r i wr => ∃ k m : Nat, k ≤ n ∧ i = .int .i64 (k : Int) ∧ r = .int .i64 (m : Int) ∧ sizes (l.take k) + m = room ∧ w = wr) (fun _ i _ => n - (num i).toNat)
  case atStart => exact ⟨0, room, by omega, rfl, rfl, by simp [sizes], rfl⟩
  case round =>
    obtain ⟨k, m, hk, rfl, rfl, hs, rfl⟩ := hrel
    by_cases hlt : k < n
    · obtain ⟨s, hs1⟩ : ∃ s, l[k]? = some s := ⟨_, List.getElem?_eq_getElem (by rw [← HN.out]; exact hlt)⟩
      obtain ⟨b, off, rfl, hc, hsz⟩ := hl k s hs1
      have h1 := sizes_step hs1
      have h2 := sizes_take_le l (k + 1)
      have hsl : s.size ≤ 9223372036854775807 := by omega
      by_cases hm : s.size ≤ m
      · have HS : Hid (sizes (l.take (k + 1)) + (m - s.size) = room) := by unfold Hid; omega
        have hsub : (m : Int) - (s.size : Int) = ((m - s.size : Nat) : Int) := by omega
        have hm4 : m ≤ 4096 := by omega
        clear hs h1 h2 hs1 hsz
        go_wp2_with fail
        go_roundw
        case rel => exact ⟨k + 1, m - s.size, by omega, by go_num, by go_num, HS.out, by trivial⟩
        case measure => simp [num]; omega
      · have HD : Hid (decide (sizes l ≤ room) = false) := decide_eq_false (by omega)
        clear hs h1 h2 hs1 hsz
        go_wp2_with fail
        go_ret
        exact ⟨ret_bool HD.out.symm, rfl⟩
    · have HD : Hid (decide (sizes l ≤ room) = true) := decide_eq_true (by
        have : k = n := by omega
        rw [this, HN.out, List.take_length] at hs
        omega)
      clear hs
      go_wp2_with fail
      go_ret
      exact ⟨ret_bool HD.out.symm, rfl⟩

theorem push_nil (a : Option Addr) (n cap : Nat) (w : World) : Calls Tryz.prog 105 #[.pointer none, .slice a n cap] w fun e w' => e = .returned (.bool false) ∧ w' = w := by
  go_enter Tryz.func105, Tryz.ntmps105
  go_wp2_with fail
  go_ret
  exact ⟨rfl, rfl⟩
section
variable {w : World} {b g most : Nat} {xs : List UInt8} {over : Bool}
/-- What is ahead of a Push's loops. -/
theorem over_set (h : Qf w b g most xs over) : Qf (w.setCell ⟨b, 3, none⟩ (.bool true)) b g most xs true ∧ Kept (· = b) w (w.setCell ⟨b, 3, none⟩ (.bool true)) ∧ w.cell? ⟨b, 3, none⟩ = some (.bool over) ∧ w.frozen? ⟨b, 3, none⟩ = false := by
  have hgl := h.ltg
  obtain ⟨f, cap, h1, h2, h3, h4⟩ := h.at_
  have hk : Kept (· = b) w (w.setCell ⟨b, 3, none⟩ (.bool true)) := Kept.setCell (S := (· = b)) (Kept.refl _ w) ⟨b, 3, none⟩ (Or.inr rfl) _
  refine ⟨⟨⟨f, cap, by simp [World.setCell, Array.getElem?_modify, h1], h2, h3, h4.kept (hk.block _ hgl h.ne)⟩, h.ne, h.le, h.len⟩, hk, by simp [World.cell?, h1], by simp [World.frozen?, h1]⟩

set_option maxRecDepth 100000 in
set_option maxHeartbeats 4000000 in
theorem push_no (a : Option Addr) (cap : Nat) (l : List ByteArray) (h : Qf w b g most xs over) (hl : StrsIn w a l) (hn : l.length ≤ 9223372036854775807) (hbig : ¬ xs.length + sizes l ≤ most) :
    Calls Tryz.prog 105 #[ptr b, .slice a l.length cap] w fun e w' => e = .returned (.bool false) ∧ Qf w' b g most xs true ∧ Kept (· = b) w w' := by
  have HR := Lib.hid (room_any h)
  obtain ⟨q1, q2, q3, q4⟩ := over_set h
  have hle := h.len
  have hm := h.le
  have HF := Lib.hid (fit_any a cap l (most - xs.length))
  rw [decide_eq_false (show ¬ sizes l ≤ most - xs.length by omega)] at HF
  have HQ : Hid (Qf w b g most xs over) := h
  have HL := Lib.hid hl
  clear h q1 q2 hl
  go_enter Tryz.func105, Tryz.ntmps105
  go_wp2_with fail
  refine HR.out.mono ?_
  rintro e w1 ⟨rfl, k1⟩
  go_wp2_with fail
  refine (HF.out _ (HL.out.kept0 k1) hn (by omega)).mono ?_
  rintro e w2 ⟨rfl, rfl⟩
  have q3' := kcell k1 q3
  have q4' : w2.frozen? ⟨b, 3, none⟩ = false := (k1.frozen (World.block_lt_of_cell? w _ q3) (fun e => e)).trans q4
  have hq := over_set (HQ.out.kept0 k1)
  have H2 : Hid (Qf (w2.setCell ⟨b, 3, none⟩ (.bool true)) b g most xs true ∧ Kept (· = b) w (w2.setCell ⟨b, 3, none⟩ (.bool true))) := ⟨hq.1, k1.to.trans hq.2.1⟩
  clear hq k1 q3 q4
  go_wp2_with fail
  go_ret
  exact ⟨rfl, H2.out.1, H2.out.2⟩
set_option maxRecDepth 100000 in
set_option maxHeartbeats 4000000 in
theorem push_yes (a : Option Addr) (cap : Nat) (l : List ByteArray) (h : Qf w b g most xs over) (hl : StrsIn w a l) (ho : Off a l (fun i => i = b ∨ i = g)) (hn : l.length ≤ 9223372036854775807) (hfit : xs.length + sizes l ≤ most) :
    Calls Tryz.prog 105 #[ptr b, .slice a l.length cap] w fun e w' => e = .returned (.bool true) ∧ Qf w' b g most (xs ++ bytesOf l) over ∧ Kept (fun i => i = b ∨ i = g) w w' := by
  have HR := Lib.hid (room_any h)
  have hle := h.len
  have hm := h.le
  have HF := Lib.hid (fit_any a cap l (most - xs.length))
  rw [decide_eq_true (show sizes l ≤ most - xs.length by omega)] at HF
  have HQ : Hid (Qf w b g most xs over) := h
  have HL := Lib.hid hl
  have HO := Lib.hid ho
  clear h hl ho
  obtain ⟨n, hnl⟩ : ∃ n, n = l.length := ⟨_, rfl⟩
  rw [← hnl] at hn HF ⊢
  have HN := Lib.hid hnl
  clear hnl
  go_enter Tryz.func105, Tryz.ntmps105
  go_wp2_with fail
  refine HR.out.mono ?_
  rintro e w1 ⟨rfl, k1⟩
  go_wp2_with fail
  refine (HF.out _ (HL.out.kept0 k1) hn (by omega)).mono ?_
  rintro e w2 ⟨rfl, rfl⟩
  have HQ2 : Hid (Qf w2 b g most (xs ++ bytesOf (l.take 0)) over) := by
    have := HQ.out.kept0 k1
    unfold Hid
    simpa [bytesOf] using this
  have HK2 : Hid (Kept (fun i => i = b ∨ i = g) w w2) := k1.to
  have HL2 : Hid (StrsIn w2 a l) := HL.out.kept0 k1
  clear k1 HQ HR HF
  go_wp2_with fail
  go_loopw [22] (fun i wr => ∃ k : Nat, k ≤ n ∧ i = .int .i64 (k : Int) ∧ Hid (Qf wr b g most (xs ++ bytesOf (l.take k)) over) ∧ Hid (Kept (fun i => i = b ∨ i = g) w wr)) (fun i _ => n - (num i).toNat)
  case atStart => exact ⟨0, by omega, rfl, HQ2, HK2⟩
  case round =>
    clear HQ2 HK2 HL2
    obtain ⟨k, hk, rfl, HQ, HK⟩ := hrel
    by_cases hlt : k < n
    · obtain ⟨s, hs1⟩ : ∃ s, l[k]? = some s := ⟨_, List.getElem?_eq_getElem (by rw [← HN.out]; exact hlt)⟩
      obtain ⟨bo, off, ha, hc, hsz⟩ := (HL.out.kept HK.out HO.out) k s hs1
      have hb := bytes_step hs1
      have hz := sizes_step hs1
      have hz2 := sizes_take_le l (k + 1)
      have hlb := len_bytesOf (l.take k)
      have hroom : Hid (xs.length + (bytesOf (l.take k)).length + s.size ≤ most) := by unfold Hid; omega
      have hsl : s.size ≤ 4096 := by omega
      have HB : Hid (bytesOf (l.take (k + 1)) = bytesOf (l.take k) ++ s.data.toList) := hb
      rw [ha]
      clear hb hz hz2 hlb hs1 hsz
      have HQ2 : Hid (Qf wr b g most (xs ++ (bytesOf (l.take k) ++ s.data.toList.take 0)) over) := by
        have := HQ.out
        unfold Hid
        simpa using this
      clear HQ
      have HK0 := HK
      go_wp2_with fail
      go_loopw [28] (fun i wr => ∃ j : Nat, j ≤ s.size ∧ i = .int .i64 (j : Int) ∧ Hid (Qf wr b g most (xs ++ (bytesOf (l.take k) ++ s.data.toList.take j)) over) ∧ Hid (Kept (fun i => i = b ∨ i = g) w wr)) (fun i _ => s.size - (num i).toNat)
      case atStart => exact ⟨0, by omega, rfl, HQ2, HK⟩
      case round =>
        clear HQ2 HK HK0 hc
        obtain ⟨j, hj, rfl, HQ, HK⟩ := hrel
        by_cases hjl : j < s.size
        · have hjd : j < s.data.toList.length := by simpa using hjl
          have HP := Lib.hid (put_any (w := wr.drew) (s[j]'hjl) (HQ.out.kept0 (Kept.refl _ wr).drew) (by
            have := hroom.out
            simp only [List.length_append, List.length_take]
            omega))
          have HT : Hid (s.data.toList.take (j + 1) = s.data.toList.take j ++ [s[j]'hjl]) := (List.take_append_getElem hjd).symm
          clear HQ
          clear hjd
          go_wp2_with fail
          go_still_tail 6, (by kernel_rfl)
          repeat still_step
          change wpList _ _ _ _ _ wr.drew
          go_wp2_with fail
          refine HP.out.mono ?_
          rintro e w3 ⟨rfl, hq3, k3⟩
          have HQ3 : Hid (Qf w3 b g most (xs ++ (bytesOf (l.take k) ++ s.data.toList.take (j + 1))) over) := by
            unfold Hid
            rw [HT.out]
            simpa using hq3
          have HK3 : Hid (Kept (fun i => i = b ∨ i = g) w w3) := HK.out.drew.trans k3
          clear hq3 k3 HP HT HK
          go_wp2_with fail
          go_roundw
          case rel => exact ⟨j + 1, by omega, by go_num, HQ3, HK3⟩
          case measure => simp [num]; omega
        · obtain rfl : j = s.size := by omega
          have HQ3 : Hid (Qf wr b g most (xs ++ bytesOf (l.take (k + 1))) over) := by
            have := HQ.out
            unfold Hid
            rwa [HB.out, show s.data.toList = s.data.toList.take s.size from (List.take_of_length_le (by simp)).symm]
          clear HQ
          go_wp2_with fail
          go_roundw
          case rel => exact ⟨k + 1, by omega, by go_num, HQ3, HK⟩
          case measure => simp [num]; omega
    · obtain rfl : k = n := by omega
      have HQ' : Hid (Qf wr b g most (xs ++ bytesOf l) over) := by
        have := HQ.out
        rwa [HN.out, List.take_length] at this
      clear HQ
      go_wp2_with fail
      go_ret
      exact ⟨rfl, HQ'.out, HK.out⟩
end
end Go.Proofs.YtlhajbcabpfbkaaGreatDoor.Qu
