/-
  The document's queue.
-/
import Derived.Test.YtehbbninegidiaaRgE
namespace Go.Proofs.Ytehbbninegidiaa
open Go.RowKit Go.Maps

/-- The document's queue. -/
def Rf (w : World) (x most : Nat) (xs : List UInt8) (over : Bool) : Prop := w.heap[x]? = some (.cells #[.string (str xs), .int .i64 (most : Int), .bool over] 31 (0, 0))
section
variable {w w' : World} {x most : Nat} {xs : List UInt8} {over : Bool}
theorem Rf.lt (h : Rf w x most xs over) : x < w.heap.size := (Array.getElem?_eq_some_iff.1 h).1
theorem Rf.kept {T : Nat → Prop} (h : Rf w x most xs over) (k : Kept T w w') (h1 : ¬ T x) : Rf w' x most xs over := (k.block _ h.lt h1).trans h
theorem Rf.kept0 (h : Rf w x most xs over) (k : Kept0 w w') : Rf w' x most xs over := h.kept k (fun e => e)
theorem Rf.c0 (h : Rf w x most xs over) : w.cell? ⟨x, 0, none⟩ = some (.string (str xs)) := by unfold Rf at h; simp [World.cell?, h]
theorem Rf.c1 (h : Rf w x most xs over) : w.cell? ⟨x, 1, none⟩ = some (.int .i64 (most : Int)) := by unfold Rf at h; simp [World.cell?, h]
theorem Rf.c2 (h : Rf w x most xs over) : w.cell? ⟨x, 2, none⟩ = some (.bool over) := by unfold Rf at h; simp [World.cell?, h]
theorem Rf.f0 (h : Rf w x most xs over) : w.frozen? ⟨x, 0, none⟩ = false := by unfold Rf at h; simp [World.frozen?, h]
theorem Rf.f2 (h : Rf w x most xs over) : w.frozen? ⟨x, 2, none⟩ = false := by unfold Rf at h; simp [World.frozen?, h]
theorem Rf.text (h : Rf w x most xs over) (ys : List UInt8) : Rf (w.setCell ⟨x, 0, none⟩ (.string (str ys))) x most ys over := by
  unfold Rf at h ⊢
  simp [World.setCell, Array.getElem?_modify, h]
theorem Rf.over' (h : Rf w x most xs over) (v : Bool) : Rf (w.setCell ⟨x, 2, none⟩ (.bool v)) x most xs v := by
  unfold Rf at h ⊢
  simp [World.setCell, Array.getElem?_modify, h]
theorem set_keeps (w : World) (x o : Nat) (v : Value) : Kept (· = x) w (w.setCell ⟨x, o, none⟩ v) := Kept.setCell (S := (· = x)) (Kept.refl _ w) ⟨x, o, none⟩ (Or.inr rfl) v
theorem extract_to (s : ByteArray) (i : Nat) : s.extract 0 i = str (s.data.toList.take i) := by
  apply ByteArray.ext
  rw [ByteArray.data_extract]
  apply Array.ext'
  simp only [str, Array.toList_extract]
  rw [List.extract_eq_take_drop]
  simp
theorem extract_from (s : ByteArray) (i : Nat) : s.extract i s.size = str (s.data.toList.drop i) := by
  apply ByteArray.ext
  rw [ByteArray.data_extract]
  apply Array.ext'
  simp only [str, Array.toList_extract]
  rw [List.extract_eq_take_drop]
  exact List.take_of_length_le (by simp)
theorem cut_to (xs : List UInt8) (i : Nat) : (str xs).extract 0 i = str (xs.take i) := by rw [extract_to]; simp [str]
theorem cut_from (xs : List UInt8) (i : Nat) : (str xs).extract i xs.length = str (xs.drop i) := by
  have := extract_from (str xs) i
  rw [str_size] at this
  rw [this]
  simp [str]
theorem rsome_any (n : Int) (h : Rf w x most xs over) (hx : xs.length ≤ 9223372036854775807) : Calls Try.prog 22 #[ptr x, .int .i64 n] w fun e w' => e = .returned (.string (str (xs.take (takeN n xs)))) ∧ Rf w' x most (xs.drop (takeN n xs)) over ∧ Kept (· = x) w w' := by
  obtain ⟨N, hN⟩ : ∃ N, N = takeN n xs := ⟨_, rfl⟩
  have hNx : N ≤ xs.length := by rw [hN]; unfold takeN; omega
  rw [← hN]
  have c0 := h.c0
  have f0 := h.f0
  have hT := Lib.hid (h.text (xs.drop N))
  have hsz := str_size xs
  have ht := cut_to xs N
  have hf := cut_from xs N
  have hmin : (if (xs.length : Int) < (if n < 0 then 0 else n) then (xs.length : Int) else (if n < 0 then 0 else n)) = (N : Int) := by
    rw [hN]; unfold takeN; split <;> split <;> omega
  clear h hN
  go_enter Try.func22, Try.ntmps22
  go_wp2_with fail
  all_goals
    go_ret
    exact ⟨rfl, hT.out, set_keeps w x 0 _⟩
theorem rdrain_any (h : Rf w x most xs over) (hx : xs.length ≤ 9223372036854775807) : Calls Try.prog 21 #[ptr x] w fun e w' => e = .returned (.string (str xs)) ∧ Rf w' x most [] false ∧ Kept (· = x) w w' := by
  have c2 := h.c2
  have f2 := h.f2
  have h1 := h.over' false
  have hs := rsome_any (xs.length : Int) h1 hx
  have ht : takeN (xs.length : Int) xs = xs.length := by unfold takeN; omega
  rw [ht, List.take_length, List.drop_length] at hs
  have HS := Lib.hid hs
  have H1 := Lib.hid h1
  have HK := Lib.hid (set_keeps w x 2 (.bool false))
  have c0 := h1.c0
  have hsz := str_size xs
  clear hs ht h h1
  go_enter Try.func21, Try.ntmps21
  go_wp2_with fail
  refine HS.out.mono ?_
  rintro e w1 ⟨rfl, hr, k1⟩
  have HR := Lib.hid hr
  have HK1 := Lib.hid k1
  clear hr k1 HS
  go_wp2_with fail
  go_ret
  exact ⟨rfl, HR.out, HK.out.trans HK1.out⟩
set_option maxHeartbeats 1000000 in
theorem rpush_any (a : Option Addr) (cap : Nat) (l : List ByteArray) (h : Rf w x most xs over) (hl : StrsIn w a l) (hn : l.length ≤ 9223372036854775807) (hs : sizes l ≤ 20000) (hx : xs.length ≤ 4096) :
    Calls Try.prog 20 #[ptr x, .slice a l.length cap] w fun e w' => e = .returned (.bool (decide (xs.length + sizes l ≤ most))) ∧ Rf w' x most (if xs.length + sizes l ≤ most then xs ++ bytesOf l else xs) (if xs.length + sizes l ≤ most then over else true) ∧ Kept (· = x) w w' := by
  have c0 := h.c0
  have c1 := h.c1
  have c2 := h.c2
  have f0 := h.f0
  have f2 := h.f2
  obtain ⟨n, hnl⟩ : ∃ n, n = l.length := ⟨_, rfl⟩
  rw [← hnl] at hn ⊢
  have HN := Lib.hid hnl
  have H := Lib.hid h
  clear hnl h
  obtain ⟨D, hD⟩ : ∃ D, D = decide (xs.length + sizes l ≤ most) := ⟨_, rfl⟩
  obtain ⟨Y, hY⟩ : ∃ Y, Y = if xs.length + sizes l ≤ most then xs ++ bytesOf l else xs := ⟨_, rfl⟩
  obtain ⟨O, hO⟩ : ∃ O, O = if xs.length + sizes l ≤ most then over else true := ⟨_, rfl⟩
  rw [← hD, ← hY, ← hO]
  have HYes : Hid (xs.length + sizes l ≤ most → D = true ∧ Y = xs ++ bytesOf l ∧ O = over) := fun hf => ⟨by rw [hD, decide_eq_true hf], by rw [hY, if_pos hf], by rw [hO, if_pos hf]⟩
  have HNo : Hid (¬ xs.length + sizes l ≤ most → D = false ∧ Y = xs ∧ O = true) := fun hf => ⟨by rw [hD, decide_eq_false hf], by rw [hY, if_neg hf], by rw [hO, if_neg hf]⟩
  clear hD hY hO
  go_enter Try.func20, Try.ntmps20
  go_wp2_with fail
  go_loopw [5, 6] (fun s i wr => ∃ k : Nat, k ≤ n ∧ i = .int .i64 (k : Int) ∧ s = .string (str (xs ++ bytesOf (l.take k))) ∧ w = wr) (fun _ i _ => n - (num i).toNat)
  case atStart => exact ⟨0, by omega, rfl, by simp [bytesOf], rfl⟩
  case round =>
    obtain ⟨k, hk, rfl, rfl, rfl⟩ := hrel
    have hz := str_size (xs ++ bytesOf (l.take k))
    have hb := len_bytesOf (l.take k)
    have hz2 := sizes_take_le l k
    by_cases hlt : k < n
    · obtain ⟨s, hs1⟩ : ∃ s, l[k]? = some s := ⟨_, List.getElem?_eq_getElem (by rw [← HN.out]; exact hlt)⟩
      obtain ⟨bo, off, rfl, hc, hsz⟩ := hl k s hs1
      have h1 := sizes_step hs1
      have h2 := sizes_take_le l (k + 1)
      have hcat : str (xs ++ bytesOf (l.take k)) ++ s = str (xs ++ bytesOf (l.take (k + 1))) := by
        rw [bytes_step hs1, ← List.append_assoc]
        exact str_append _ s.data.toList
      have hz3 : (str (xs ++ bytesOf (l.take k))).size + s.size ≤ 24096 := by
        rw [hz, List.length_append, hb]; omega
      obtain ⟨A, hA⟩ : ∃ A, A = str (xs ++ bytesOf (l.take k)) := ⟨_, rfl⟩
      rw [← hA] at hcat hz3 ⊢
      have HC := Lib.hid hcat
      clear hz hb hz2 h1 h2 hcat hA hs1 hsz
      go_wp2_with fail
      rw [HC.out]
      go_roundw
      case rel => exact ⟨k + 1, by omega, by go_num, rfl, by trivial⟩
      case measure => simp [num]; omega
    · obtain rfl : k = n := by omega
      have ht : l.take k = l := by rw [HN.out, List.take_length]
      rw [ht] at hz ⊢
      have hbl := len_bytesOf l
      rw [List.length_append, hbl] at hz
      obtain ⟨A, hA⟩ : ∃ A, A = str (xs ++ bytesOf l) := ⟨_, rfl⟩
      rw [← hA] at hz ⊢
      have HA := Lib.hid hA
      clear hA hb hz2 hbl ht
      by_cases hfit : xs.length + sizes l ≤ most
      · obtain ⟨rfl, e2, e3⟩ := HYes.out hfit
        have HE := Lib.hid (And.intro e2 e3)
        have d : ¬ most < A.size := by omega
        clear hz hfit e2 e3
        go_wp2_with fail
        go_ret
        exact ⟨rfl, by rw [HA.out, HE.out.1, HE.out.2]; exact H.out.text _, set_keeps _ _ _ _⟩
      · obtain ⟨rfl, e2, e3⟩ := HNo.out hfit
        have HE := Lib.hid (And.intro e2 e3)
        have d : most < A.size := by omega
        clear hz hfit e2 e3
        go_wp2_with fail
        go_ret
        exact ⟨rfl, by rw [HE.out.1, HE.out.2]; exact H.out.over' true, set_keeps _ _ _ _⟩
end
end Go.Proofs.Ytehbbninegidiaa
