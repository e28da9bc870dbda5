/-
  Which calls are not too many.
-/
import Derived.Test.YtkpfhgfdfndliaaGreatDoorBg
namespace Go.Proofs.YtkpfhgfdfndliaaGreatDoor
open Go.RowKit

theorem mayR_any (r c : Int) (w : World) : Calls Tryz.prog 8 #[.int .i64 r, .int .i64 c] w fun e w' => e = .returned (.bool (decide (1 ≤ r ∧ r ≤ 255 ∧ 1 ≤ c ∧ c ≤ 255))) ∧ w = w' := by
  go_enter Tryz.func8, Tryz.ntmps8
  go_wp2
  all_goals
    go_ret
    refine ⟨?_, rfl⟩
    simp [*]
    try omega
theorem mayQ (r c : Int) (t : Bool) (h : mayB r c = t) (w : World) : Calls Tryz.prog 8 #[.int .i64 r, .int .i64 c] w fun e w' => e = .returned (.bool t) ∧ w' = w :=
  (mayR_any r c w).mono fun _ _ ⟨a, b⟩ => ⟨h ▸ a, b.symm⟩

set_option maxRecDepth 100000 in
set_option maxHeartbeats 4000000 in
theorem few_any (a : Option Addr) (cap : Nat) (l : List Op) (w : World) (ho : OpsIn w a l) (hn : l.length ≤ 9223372036854775807) :
    Calls Tryz.prog 9 #[.slice a l.length cap] w fun e w' => (∃ t, e = .returned (.bool t)) ∧ Kept0 w w' := by
  have HO := Lib.hid ho
  have HL : Hid (∀ i, i < l.length → ∃ o, l[i]? = some o) := fun i hi => ⟨_, List.getElem?_eq_getElem hi⟩
  obtain ⟨n, hnl⟩ : ∃ n, n = l.length := ⟨_, rfl⟩
  rw [← hnl] at hn HL ⊢
  clear hnl ho
  go_enter Tryz.func9, Tryz.ntmps9
  go_wp2
  go_loopw [3] (fun i wr => ∃ k : Nat, k ≤ n ∧ i = .int .i64 k ∧ Kept0 w wr) (fun i _ => n - (intOf i).toNat)
  case atStart => exact ⟨0, by omega, rfl, Kept.refl _ _⟩
  case round =>
    obtain ⟨k, hk, rfl, hkr⟩ := hrel
    by_cases hlt : k < n
    · obtain ⟨o, hoi⟩ := HL.out k hlt
      obtain ⟨_, b, off, rfl, hcs⟩ := HO.out k o hoi
      have c0 := kcell hkr (hcs 0 _ rfl)
      have c3 := kcell hkr (hcs 1 _ rfl)
      have c4 := kcell hkr (hcs 2 _ rfl)
      simp only [Nat.add_zero] at c0
      clear hcs hoi
      by_cases h4 : o.ask = 12
      · have d4 : (o.ask == 12) = true := by simpa using h4
        clear h4
        cases hm : mayB o.a1 o.a2 with
        | false =>
          have HM := Lib.hid hm
          clear hm
          go_wp2_with fail
          go_quiet ((go_at_call 8; exact Calls.quiet_of_same (mayQ _ _ false HM.out _)))
          go_wp2
          go_roundw
          case rel => exact ⟨k + 1, by omega, by go_num, hkr.drewN _⟩
          case measure => simp [intOf]; omega
        | true =>
          have HM := Lib.hid hm
          clear hm
          by_cases h12 : 8 < o.a1
          · go_wp2_with fail
            go_quiet ((go_at_call 8; exact Calls.quiet_of_same (mayQ _ _ true HM.out _)))
            go_wp2
            go_ret
            exact ⟨⟨_, rfl⟩, hkr.drewN _⟩
          · have d12 : decide (8 < o.a1) = false := by simpa using h12
            by_cases h20 : 20 < o.a2
            · go_wp2_with fail
              go_quiet ((go_at_call 8; exact Calls.quiet_of_same (mayQ _ _ true HM.out _)))
              go_wp2
              go_ret
              exact ⟨⟨_, rfl⟩, hkr.drewN _⟩
            · have d20 : decide (20 < o.a2) = false := by simpa using h20
              go_wp2_with fail
              go_quiet ((go_at_call 8; exact Calls.quiet_of_same (mayQ _ _ true HM.out _)))
              go_wp2
              go_roundw
              case rel => exact ⟨k + 1, by omega, by go_num, hkr.drewN _⟩
              case measure => simp [intOf]; omega
      · have d4 : (o.ask == 12) = false := by simpa using h4
        go_wp2_with fail
        go_quiet (fail)
        go_wp2
        go_roundw
        case rel => exact ⟨k + 1, by omega, by go_num, hkr.drewN _⟩
        case measure => simp [intOf]; omega
    · go_wp2
      go_ret
      exact ⟨⟨_, rfl⟩, hkr⟩

end Go.Proofs.YtkpfhgfdfndliaaGreatDoor
