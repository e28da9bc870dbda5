/-
  Which calls are not too many, or too great: where the answer is yes, none asks for a size that is too great.
-/
import Derived.Test.YtkpfhgfdfndliaaGreatDoorFewZ
import Derived.Test.YtkpfhgfdfndliaaGreatDoorFeedsF
namespace Go.Proofs.YtkpfhgfdfndliaaGreatDoor
open Go.RowKit

set_option maxRecDepth 100000 in
set_option maxHeartbeats 4000000 in
theorem few_say (a : Option Addr) (cap : Nat) (l : List Op) (w : World) (ho : OpsIn w a l) (hn : l.length ≤ 9223372036854775807) :
    Calls Tryz.prog 9 #[.slice a l.length cap] w fun e w' => (∃ t, e = .returned (.bool t) ∧ (t = true → ∀ o ∈ l, OkSize o)) ∧ Kept0 w w' := by
  have HO := Lib.hid ho
  have HL : Hid (∀ i, i < l.length → ∃ o, l[i]? = some o) := fun i hi => ⟨_, List.getElem?_eq_getElem hi⟩
  obtain ⟨n, hnl⟩ : ∃ n, n = l.length := ⟨_, rfl⟩
  rw [← hnl] at hn HL ⊢
  have HNL := Lib.hid hnl
  clear hnl ho
  go_enter Tryz.func9, Tryz.ntmps9
  go_wp2
  go_loopw [3] (fun i wr => ∃ k : Nat, k ≤ n ∧ i = .int .i64 k ∧ Hid (∀ j o, j < k → l[j]? = some o → OkSize o) ∧ Kept0 w wr) (fun i _ => n - (intOf i).toNat)
  case atStart => exact ⟨0, by omega, rfl, fun j o hj => by omega, Kept.refl _ _⟩
  case round =>
    obtain ⟨k, hk, rfl, HP, hkr⟩ := hrel
    by_cases hlt : k < n
    · obtain ⟨o, hoi⟩ := HL.out k hlt
      obtain ⟨_, b, off, rfl, hcs⟩ := HO.out k o hoi
      have c0 := kcell hkr (hcs 0 _ rfl)
      have c3 := kcell hkr (hcs 1 _ rfl)
      have c4 := kcell hkr (hcs 2 _ rfl)
      simp only [Nat.add_zero] at c0
      have HQ : Hid (OkSize o → ∀ j o', j < k + 1 → l[j]? = some o' → OkSize o') := fun hb j o' hj ho' => by
        by_cases e : j = k
        · subst e
          rw [hoi] at ho'
          cases ho'
          exact hb
        · exact HP.out j o' (by omega) ho'
      clear hcs hoi HP
      by_cases h4 : o.ask = 12
      · have d4 : (o.ask == 12) = true := by simpa using h4
        clear h4
        cases hm : mayB o.a1 o.a2 with
        | false =>
          have HM := Lib.hid hm
          clear hm
          go_wp2_with fail
          go_quiet ((go_at_call 8; exact Calls.quiet_of_same (mayQ _ _ false HM.out _)))
          go_wp2
          go_roundw
          case rel => exact ⟨k + 1, by omega, by go_num, HQ.out (fun _ e => by rw [HM.out] at e; cases e), hkr.drewN _⟩
          case measure => simp [intOf]; omega
        | true =>
          have HM := Lib.hid hm
          clear hm
          by_cases h12 : 8 < o.a1
          · go_wp2_with fail
            go_quiet ((go_at_call 8; exact Calls.quiet_of_same (mayQ _ _ true HM.out _)))
            go_wp2
            go_ret
            exact ⟨⟨_, rfl, fun e => by cases e⟩, hkr.drewN _⟩
          · have d12 : decide (8 < o.a1) = false := by simpa using h12
            by_cases h20 : 20 < o.a2
            · go_wp2_with fail
              go_quiet ((go_at_call 8; exact Calls.quiet_of_same (mayQ _ _ true HM.out _)))
              go_wp2
              go_ret
              exact ⟨⟨_, rfl, fun e => by cases e⟩, hkr.drewN _⟩
            · have d20 : decide (20 < o.a2) = false := by simpa using h20
              go_wp2_with fail
              go_quiet ((go_at_call 8; exact Calls.quiet_of_same (mayQ _ _ true HM.out _)))
              go_wp2
              go_roundw
              case rel => exact ⟨k + 1, by omega, by go_num, HQ.out (fun _ _ => ⟨by omega, by omega⟩), hkr.drewN _⟩
              case measure => simp [intOf]; omega
      · have d4 : (o.ask == 12) = false := by simpa using h4
        go_wp2_with fail
        go_quiet (fail)
        go_wp2
        go_roundw
        case rel => exact ⟨k + 1, by omega, by go_num, HQ.out (fun e => absurd e h4), hkr.drewN _⟩
        case measure => simp [intOf]; omega
    · go_wp2
      go_ret
      exact ⟨⟨_, rfl, fun _ o ho => by obtain ⟨j, hj, rfl⟩ := List.getElem_of_mem ho; exact HP.out j _ (by rw [HNL.out] at *; omega) (List.getElem?_eq_getElem hj)⟩, hkr⟩

end Go.Proofs.YtkpfhgfdfndliaaGreatDoor
