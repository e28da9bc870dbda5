/-
  QueueRounds: a text that is taken and fetched at once is the same, again and again.
-/
import Derived.Test.YtehbbninegidiaaRgH
namespace Go.Proofs.Ytehbbninegidiaa
open Go.RowKit Go.Maps

theorem take_all (n : Int) (ys : List UInt8) (h : (ys.length : Int) ≤ n) : takeN n ys = ys.length := by unfold takeN; omega
set_option maxRecDepth 100000 in
set_option maxHeartbeats 4000000 in
theorem rounds_calls (a : Option Addr) (cap : Nat) (l : List ByteArray) (n : Int) (w : World) (hl : StrsIn w a l) (hn : l.length ≤ 9223372036854775807) : Calls Try.prog 8 #[.slice a l.length cap, .int .i64 n] w fun e w' => e = .returned (.bool true) ∧ Below w.heap.size w w' := by
  have N50 : Hid (∀ w : World, Calls Try.prog 9 #[.int .i64 50] w fun e w' => ∃ b g, e = .returned (.tuple #[ptr b, .int .i64 0]) ∧ Qf w' b g 50 [] false ∧ w.heap.size ≤ b ∧ w.heap.size ≤ g ∧ Kept0 w w') := fun w => new_yes 50 w (by omega)
  have HL0 := Lib.hid hl
  obtain ⟨c, hnl⟩ : ∃ c, c = l.length := ⟨_, rfl⟩
  rw [← hnl] at hn ⊢
  have HN := Lib.hid hnl
  clear hnl hl
  go_enter Try.func8, Try.ntmps8
  go_wp2_with fail
  refine (N50.out _).mono ?_
  rintro e w1 ⟨b, g, rfl, hq, hb, hg, k1⟩
  have HQ := Lib.hid hq
  have HK := Lib.hid k1
  clear hq k1 N50
  by_cases h100 : c ≤ 100
  · go_wp2_with fail
    go_loopw [7] (fun i wr => ∃ k : Nat, k ≤ c ∧ i = .int .i64 (k : Int) ∧ Hid (Qf wr b g 50 [] false) ∧ Hid (Kept0 w wr)) (fun i _ => c - (num i).toNat)
    case atStart => exact ⟨0, by omega, rfl, HQ, HK⟩
    case round =>
      clear HQ HK
      obtain ⟨k, hk, rfl, HQ, HK⟩ := hrel
      by_cases hlt : k < c
      · obtain ⟨s, hs1⟩ : ∃ s, l[k]? = some s := ⟨_, List.getElem?_eq_getElem (by rw [← HN.out]; exact hlt)⟩
        obtain ⟨bo, off, rfl, hc, hsz⟩ := (HL0.out.kept0 HK.out) k s hs1
        have HC0 := Lib.hid (HL0.out k s hs1)
        clear hs1
        by_cases h50 : s.size ≤ 50
        · obtain ⟨ys, hys⟩ : ∃ ys, ys = s.data.toList := ⟨_, rfl⟩
          have hyl : ys.length = s.size := by rw [hys]; simp
          have hss : s = str ys := by rw [hys]; rfl
          have HP := Lib.hid (push_one_yes s HQ.out (by omega) (by simp; omega))
          rw [← hys, List.nil_append] at HP
          obtain ⟨A, hA⟩ : ∃ A, A = str (ys.take (takeN n ys)) := ⟨_, rfl⟩
          obtain ⟨B, hB⟩ : ∃ B, B = str (ys.drop (takeN n ys)) := ⟨_, rfl⟩
          have HS1 : Hid (∀ W, Qf W b g 50 ys false → Calls Try.prog 17 #[ptr b, .int .i64 n] W fun e w' => e = .returned (.string A) ∧ Qf w' b g 50 (ys.drop (takeN n ys)) false ∧ Kept (fun i => i = b ∨ i = g) W w') := fun W hq => by rw [hA]; exact some_any n hq
          have HS2 : Hid (∀ W, Qf W b g 50 (ys.drop (takeN n ys)) false → Calls Try.prog 17 #[ptr b, .int .i64 50] W fun e w' => e = .returned (.string B) ∧ Qf w' b g 50 [] false ∧ Kept (fun i => i = b ∨ i = g) W w') := fun W hq => by
            have := some_any 50 hq
            rw [take_all 50 _ (by rw [List.length_drop]; omega), List.take_length, List.drop_length] at this
            rw [hB]
            exact this
          have HAB : Hid (A ++ B = s) := by
            unfold Hid
            rw [hA, hB, str_append, List.take_append_drop, hss]
          have hab : A.size + B.size ≤ 50 := by
            rw [hA, hB, str_size, str_size, List.length_take, List.length_drop]
            omega
          clear hA hB hys hss hyl
          go_wp2_with fail
          refine HP.out.mono ?_
          rintro e w2 ⟨rfl, hq, k2⟩
          have HQ2 := Lib.hid hq
          have HK2 : Hid (Kept0 w w2) := HK.out.later k2 (fun i hi e => by omega)
          clear hq k2 HP HQ HK
          go_wp2_with fail
          refine (HS1.out _ HQ2.out).mono ?_
          rintro e w3 ⟨rfl, hq, k2⟩
          have HQ3 := Lib.hid hq
          have HK3 : Hid (Kept0 w w3) := HK2.out.later k2 (fun i hi e => by omega)
          clear hq k2 HS1 HQ2 HK2
          go_wp2_with fail
          refine (HS2.out _ HQ3.out).mono ?_
          rintro e w4 ⟨rfl, hq, k2⟩
          have HQ4 := Lib.hid hq
          have HK4 : Hid (Kept0 w w4) := HK3.out.later k2 (fun i hi e => by omega)
          have hc4 : w4.cell? ⟨bo, off + k, none⟩ = some (.string s) := by
            obtain ⟨b', off', e1, e2, _⟩ := HC0.out
            cases e1
            exact kcell HK4.out e2
          have HL4 := Lib.hid (len_any hq)
          clear hq k2 HS2 HQ3 HK3 hc
          have hAB := HAB.out
          clear HAB
          go_wp2_with fail
          refine HL4.out.mono ?_
          rintro e w5 ⟨rfl, rfl⟩
          go_wp2_with fail
          go_roundw
          case rel => exact ⟨k + 1, by omega, by go_num, HQ4, HK4⟩
          case measure => simp [num]; omega
        · go_wp2_with fail
          refine (awake_any _).mono ?_
          rintro e w4 ⟨rfl, hk4⟩
          go_wp2_with fail
          go_ret
          exact ⟨rfl, Kept0.below (HK.out.trans hk4)⟩
      · go_wp2_with fail
        refine (awake_any _).mono ?_
        rintro e w4 ⟨rfl, hk4⟩
        go_wp2_with fail
        go_ret
        exact ⟨rfl, Kept0.below (HK.out.trans hk4)⟩
  · have d : decide ((100 : Int) < (c : Int)) = true := by simp; omega
    go_wp2_with fail
    refine (awake_any _).mono ?_
    rintro e w4 ⟨rfl, hk4⟩
    go_wp2_with fail
    go_ret
    exact ⟨rfl, Kept0.below (HK.out.trans hk4)⟩
end Go.Proofs.Ytehbbninegidiaa
