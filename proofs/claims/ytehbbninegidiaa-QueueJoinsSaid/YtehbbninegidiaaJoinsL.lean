/-
  QueueJoins: texts that are taken at once are as those that are taken one by one, if there is room for all.
-/
import Derived.Test.YtehbbninegidiaaRgH
namespace Go.Proofs.Ytehbbninegidiaa
open Go.RowKit Go.Maps

theorem sizes_few {l : List ByteArray} {k : Nat} (h : ∀ (j : Nat) (s : ByteArray), j < k → l[j]? = some s → s.size ≤ 200) : sizes (l.take k) ≤ k * 200 := by
  induction k with
  | zero => simp [sizes]
  | succ k ih =>
    have ih := ih (fun j s hj => h j s (by omega))
    cases hs : l[k]? with
    | none =>
      have : l.take (k + 1) = l.take k := by
        have := List.getElem?_eq_none_iff.1 hs
        rw [List.take_of_length_le (by omega), List.take_of_length_le this]
      rw [this]; omega
    | some s =>
      have := h k s (by omega) hs
      rw [sizes_step hs]
      omega
set_option maxRecDepth 100000 in
set_option maxHeartbeats 8000000 in
theorem joins_calls (a : Option Addr) (cap : Nat) (l : List ByteArray) (w : World) (hl : StrsIn w a l) (hn : l.length ≤ 9223372036854775807) : Calls Try.prog 7 #[.slice a l.length cap] w fun e w' => e = .returned (.bool true) ∧ Below w.heap.size w w' := by
  have N40 : Hid (∀ w : World, Calls Try.prog 9 #[.int .i64 4096] w fun e w' => ∃ b g, e = .returned (.tuple #[ptr b, .int .i64 0]) ∧ Qf w' b g 4096 [] false ∧ w.heap.size ≤ b ∧ w.heap.size ≤ g ∧ Kept0 w w') := fun w => new_yes 4096 w (by omega)
  have HL0 := Lib.hid hl
  obtain ⟨c, hnl⟩ : ∃ c, c = l.length := ⟨_, rfl⟩
  rw [← hnl] at hn ⊢
  have HN := Lib.hid hnl
  clear hnl hl
  go_enter Try.func7, Try.ntmps7
  go_wp2_with fail
  refine (N40.out _).mono ?_
  rintro e w1 ⟨b, g, rfl, hq, hb, hg, k1⟩
  have HQ := Lib.hid hq
  have HK := Lib.hid k1
  clear hq k1
  go_wp2_with fail
  refine (N40.out _).mono ?_
  rintro e w2 ⟨b2, g2, rfl, hq, hb2, hg2, k1⟩
  have hbl := HQ.out.lt
  have hgl := HQ.out.ltg
  have hs1 := HK.out.size
  have HD : Hid (b ≠ b2 ∧ b ≠ g2 ∧ g ≠ b2 ∧ g ≠ g2) := ⟨by omega, by omega, by omega, by omega⟩
  replace hb2 : w.heap.size ≤ b2 := by omega
  replace hg2 : w.heap.size ≤ g2 := by omega
  have HQ2 := Lib.hid hq
  replace HQ := Lib.hid (HQ.out.kept0 k1)
  replace HK := Lib.hid (HK.out.trans k1)
  clear hq k1 N40 hbl hgl hs1
  by_cases h20 : c ≤ 20
  · have h0 : (⟨#[]⟩ : ByteArray) = str (bytesOf (l.take 0)) := rfl
    go_wp2_with fail
    go_loopw [7, 8] (fun s i wr => ∃ k : Nat, k ≤ c ∧ i = .int .i64 (k : Int) ∧ s = .string (str (bytesOf (l.take k))) ∧ (∀ (j : Nat) (s : ByteArray), j < k → l[j]? = some s → s.size ≤ 200) ∧ w2 = wr) (fun _ i _ => c - (num i).toNat)
    case atStart => exact ⟨0, by omega, rfl, rfl, fun j s hj => by omega, rfl⟩
    case round =>
      obtain ⟨k, hk, rfl, rfl, hp, rfl⟩ := hrel
      have hfew := sizes_few hp
      have hlb := len_bytesOf (l.take k)
      by_cases hlt : k < c
      · obtain ⟨s, hs1⟩ : ∃ s, l[k]? = some s := ⟨_, List.getElem?_eq_getElem (by rw [← HN.out]; exact hlt)⟩
        obtain ⟨bo, off, rfl, hc, hsz⟩ := (HL0.out.kept0 HK.out) k s hs1
        by_cases h200 : s.size ≤ 200
        · obtain ⟨A, hA⟩ : ∃ A, A = str (bytesOf (l.take k)) := ⟨_, rfl⟩
          have hAz : A.size ≤ 4000 := by rw [hA, str_size, hlb]; omega
          have hAs : A ++ s = str (bytesOf (l.take (k + 1))) := by
            rw [bytes_step hs1, hA]
            exact str_append _ s.data.toList
          have HAs := Lib.hid hAs
          have HP : Hid (∀ (j : Nat) (s : ByteArray), j < k + 1 → l[j]? = some s → s.size ≤ 200) := fun j s' hj hs' => by
            by_cases e : j = k
            · subst e
              rw [hs1] at hs'
              cases hs'
              exact h200
            · exact hp j s' (by omega) hs'
          rw [← hA]
          clear hA hAs hp hs1 hfew hlb
          go_wp2_with fail
          rw [HAs.out]
          go_roundw
          case rel => exact ⟨k + 1, by omega, by go_num, rfl, HP.out, by trivial⟩
          case measure => simp [num]; omega
        · clear hp hs1 hfew hlb
          go_wp2_with fail
          refine (awake_any _).mono ?_
          rintro e w4 ⟨rfl, hk4⟩
          go_wp2_with fail
          go_ret
          exact ⟨rfl, Kept0.below (HK.out.trans hk4)⟩
      · obtain rfl : k = c := by omega
        have ht : l.take k = l := by rw [HN.out, List.take_length]
        rw [ht] at hfew ⊢
        have hsz : sizes l ≤ 4096 := by omega
        obtain ⟨ys, hys⟩ : ∃ ys, ys = bytesOf l := ⟨_, rfl⟩
        have HP := Lib.hid (push_yes a cap l HQ.out (HL0.out.kept0 HK.out) (off_old HL0.out (fun i hi => by omega)) (by rw [← HN.out]; exact hn) (by simpa using hsz))
        rw [List.nil_append, ← hys, ← HN.out] at HP
        have HB : Hid (∀ (j : Nat) (s : ByteArray), l[j]? = some s → (bytesOf (l.take j)).length + s.size ≤ 4096) := fun j s hs => by
          rw [len_bytesOf]
          have := sizes_step hs
          have := sizes_take_le l (j + 1)
          omega
        have HY := Lib.hid hys
        rw [← hys]
        have HOF : Hid (∀ i, (i = b ∨ i = g) → w.heap.size ≤ i) := fun i hi => by omega
        clear hfew hlb hp ht hys hlt h0
        go_wp2_with fail
        refine HP.out.mono ?_
        rintro e w3 ⟨rfl, hq3, k3⟩
        replace HQ := Lib.hid hq3
        have HQ3 : Hid (Qf w3 b2 g2 4096 (bytesOf (l.take 0)) false) := HQ2.out.kept k3 (fun e => by have := HD.out; omega) (fun e => by have := HD.out; omega)
        replace HK := Lib.hid (HK.out.later k3 (fun i hi e => by omega))
        clear hq3 k3 HP HQ2
        go_wp2_with fail
        go_loopw [10] (fun i wr => ∃ k' : Nat, k' ≤ k ∧ i = .int .i64 (k' : Int) ∧ Hid (Qf wr b g 4096 ys false) ∧ Hid (Qf wr b2 g2 4096 (bytesOf (l.take k')) false) ∧ Hid (Kept0 w wr)) (fun i _ => k - (num i).toNat)
        case atStart => exact ⟨0, by omega, rfl, HQ, HQ3, HK⟩
        case round =>
          clear HQ HQ3 HK
          obtain ⟨k', hk', rfl, HQ, HQ2, HK⟩ := hrel
          by_cases hlt : k' < k
          · obtain ⟨s, hs1⟩ : ∃ s, l[k']? = some s := ⟨_, List.getElem?_eq_getElem (by rw [← HN.out]; exact hlt)⟩
            obtain ⟨bo, off, rfl, hc, hsz⟩ := (HL0.out.kept0 HK.out) k' s hs1
            have hp := push_one_yes s HQ2.out hsz (HB.out k' s hs1)
            rw [← bytes_step hs1] at hp
            have HP := Lib.hid hp
            clear hp hs1
            go_wp2_with fail
            refine HP.out.mono ?_
            rintro e w4 ⟨rfl, hq4, k4⟩
            replace HQ2 := Lib.hid hq4
            replace HQ := Lib.hid (HQ.out.kept k4 (fun e => by have := HD.out; omega) (fun e => by have := HD.out; omega))
            replace HK := Lib.hid (HK.out.later k4 (fun i hi e => by omega))
            clear hq4 k4 HP
            go_wp2_with fail
            go_roundw
            case rel => exact ⟨k' + 1, by omega, by go_num, HQ, HQ2, HK⟩
            case measure => simp [num]; omega
          · obtain rfl : k' = k := by omega
            have ht : l.take k' = l := by rw [HN.out, List.take_length]
            rw [ht, ← HY.out] at HQ2
            obtain ⟨m, hm⟩ : ∃ m, m = ys.length := ⟨_, rfl⟩
            have HL1 := Lib.hid (len_any HQ.out)
            have HL2 := Lib.hid (len_any HQ2.out)
            have HD1 := Lib.hid (drain_any HQ.out)
            rw [← hm] at HL1 HL2
            clear ht hm hlt
            go_wp2_with fail
            refine HL1.out.mono ?_
            rintro e w4 ⟨rfl, rfl⟩
            go_wp2_with fail
            refine HL2.out.mono ?_
            rintro e w5 ⟨rfl, rfl⟩
            go_wp2_with fail
            refine HD1.out.mono ?_
            rintro e w6 ⟨rfl, _, k6⟩
            have HD2 := Lib.hid (drain_any (HQ2.out.kept k6 (fun e => by have := HD.out; omega) (fun e => by have := HD.out; omega)))
            replace HK := Lib.hid (HK.out.later k6 (fun i hi e => by omega))
            clear k6 HD1
            go_wp2_with fail
            refine HD2.out.mono ?_
            rintro e w7 ⟨rfl, _, k7⟩
            replace HK := Lib.hid (HK.out.later k7 (fun i hi e => by omega))
            clear k7 HD2
            go_wp2_with fail
            refine (awake_any _).mono ?_
            rintro e w8 ⟨rfl, hk8⟩
            go_wp2_with fail
            go_ret
            exact ⟨rfl, Kept0.below (HK.out.trans hk8)⟩
  · have d : decide ((20 : Int) < (c : Int)) = true := by simp; omega
    go_wp2_with fail
    refine (awake_any _).mono ?_
    rintro e w4 ⟨rfl, hk4⟩
    go_wp2_with fail
    go_ret
    exact ⟨rfl, Kept0.below (HK.out.trans hk4)⟩
end Go.Proofs.Ytehbbninegidiaa
