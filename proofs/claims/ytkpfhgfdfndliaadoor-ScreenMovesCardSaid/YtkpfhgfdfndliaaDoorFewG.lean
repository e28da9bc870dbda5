/-
  Which calls are not too many; and: what is put, wiped, inserted and deleted with guard turns no cell that is guarded.
-/
import Derived.Test.YtkpfhgfdfndliaaDoorBg
import Derived.Test.YtkpfhgfdfndliaaDoorShGuardF
namespace Go.Proofs.YtkpfhgfdfndliaaDoor
open Go.RowKit

theorem mayR_any (r c : Int) (w : World) : Calls Tryd.prog 20 #[.int .i64 r, .int .i64 c] w fun e w' => e = .returned (.bool (decide (1 ≤ r ∧ r ≤ 255 ∧ 1 ≤ c ∧ c ≤ 255))) ∧ w = w' := by
  go_enter Tryd.func20, Tryd.ntmps20
  go_wp2
  all_goals
    go_ret
    refine ⟨?_, rfl⟩
    simp [*]
    try omega
theorem mayQ (r c : Int) (t : Bool) (h : mayB r c = t) (w : World) : Calls Tryd.prog 20 #[.int .i64 r, .int .i64 c] w fun e w' => e = .returned (.bool t) ∧ w' = w :=
  (mayR_any r c w).mono fun _ _ ⟨a, b⟩ => ⟨h ▸ a, b.symm⟩

set_option maxRecDepth 100000 in
set_option maxHeartbeats 4000000 in
theorem few_any (a : Option Addr) (cap : Nat) (l : List Op) (w : World) (ho : OpsIn w a l) (hn : l.length ≤ 9223372036854775807) :
    Calls Tryd.prog 6 #[.slice a l.length cap] w fun e w' => (∃ t, e = .returned (.bool t)) ∧ Kept0 w w' := by
  have HO := Lib.hid ho
  have HL : Hid (∀ i, i < l.length → ∃ o, l[i]? = some o) := fun i hi => ⟨_, List.getElem?_eq_getElem hi⟩
  obtain ⟨n, hnl⟩ : ∃ n, n = l.length := ⟨_, rfl⟩
  rw [← hnl] at hn HL ⊢
  clear hnl ho
  go_enter Tryd.func6, Tryd.ntmps6
  go_wp2
  go_loopw [3] (fun i wr => ∃ k : Nat, k ≤ n ∧ i = .int .i64 k ∧ Kept0 w wr) (fun i _ => n - (intOf i).toNat)
  case atStart => exact ⟨0, by omega, rfl, Kept.refl _ _⟩
  case round =>
    obtain ⟨k, hk, rfl, hkr⟩ := hrel
    by_cases hlt : k < n
    · obtain ⟨o, hoi⟩ := HL.out k hlt
      obtain ⟨_, b, off, rfl, hcs⟩ := HO.out k o hoi
      have c0 := kcell hkr (hcs 0 _ rfl)
      have c3 := kcell hkr (hcs 1 _ rfl)
      have c4 := kcell hkr (hcs 2 _ rfl)
      simp only [Nat.add_zero] at c0
      clear hcs hoi
      by_cases h4 : o.ask = 12
      · have d4 : (o.ask == 12) = true := by simpa using h4
        clear h4
        cases hm : mayB o.a1 o.a2 with
        | false =>
          have HM := Lib.hid hm
          clear hm
          go_wp2_with fail
          go_quiet ((go_at_call 20; exact Calls.quiet_of_same (mayQ _ _ false HM.out _)))
          go_wp2
          go_roundw
          case rel => exact ⟨k + 1, by omega, by go_num, hkr.drewN _⟩
          case measure => simp [intOf]; omega
        | true =>
          have HM := Lib.hid hm
          clear hm
          by_cases h12 : 8 < o.a1
          · go_wp2_with fail
            go_quiet ((go_at_call 20; exact Calls.quiet_of_same (mayQ _ _ true HM.out _)))
            go_wp2
            go_ret
            exact ⟨⟨_, rfl⟩, hkr.drewN _⟩
          · have d12 : decide (8 < o.a1) = false := by simpa using h12
            by_cases h20 : 20 < o.a2
            · go_wp2_with fail
              go_quiet ((go_at_call 20; exact Calls.quiet_of_same (mayQ _ _ true HM.out _)))
              go_wp2
              go_ret
              exact ⟨⟨_, rfl⟩, hkr.drewN _⟩
            · have d20 : decide (20 < o.a2) = false := by simpa using h20
              go_wp2_with fail
              go_quiet ((go_at_call 20; exact Calls.quiet_of_same (mayQ _ _ true HM.out _)))
              go_wp2
              go_roundw
              case rel => exact ⟨k + 1, by omega, by go_num, hkr.drewN _⟩
              case measure => simp [intOf]; omega
      · have d4 : (o.ask == 12) = false := by simpa using h4
        go_wp2_with fail
        go_quiet (fail)
        go_wp2
        go_roundw
        case rel => exact ⟨k + 1, by omega, by go_num, hkr.drewN _⟩
        case measure => simp [intOf]; omega
    · go_wp2
      go_ret
      exact ⟨⟨_, rfl⟩, hkr⟩

theorem wipe_keep {R C : Nat} {f : Nat → Cel} {x : Cel} {r c r' c' : Int} {k : Nat} (h : (f k).b = true) : Wp.wipeF R C f (Wp.one true (fun _ => x)) r c r' c' k = f k := by
  unfold Wp.wipeF
  split
  · unfold Wp.partT
    split
    · simp [Wp.one, h]
    · rfl
  · rfl

/-- What is guarded stays, where a call draws with guard. -/
theorem draw_keep (o : Op) (z : St) (k : Nat) (hk : k < z.R * z.C) (h : (z.F k).b = true) : (drawF { o with gd := true } z).F k = z.F k := by
  obtain ⟨R, C, F, S, r, c, b⟩ := z
  obtain ⟨ask, a1, a2, b1, b2, n, x, wr, gd⟩ := o
  simp only at hk h
  unfold drawF
  simp only
  split
  · show sputF R C F r c b x wr true k = F k
    unfold sputF
    rw [if_pos rfl]
    cases ho : sputO R C F r c with
    | none => rfl
    | some i =>
      have hi := (freeK_some ho).2
      show upd F i x k = F k
      unfold upd
      split
      · next e => subst e; rw [hi] at h; cases h
      · rfl
  split
  · exact wipe_keep h
  split
  · show spartF R C F r c n x true k = F k
    unfold spartF
    split
    · exact wipe_keep h
    · rfl
  split
  · show Sh.linesF R C F r n x true k = F k
    unfold Sh.linesF
    split
    · next hc =>
      have hz := hc.2 rfl
      unfold moveF
      split
      · next hr =>
        have := Sh.cnt_zero _ _ _ hz (k - r.toNat * C) (by omega)
        rw [show r.toNat * C + (k - r.toNat * C) = k by omega, h] at this
        cases this
      · rfl
    · rfl
  split
  · show Sh.charsF R C F r c n x true k = F k
    unfold Sh.charsF
    split
    · next hc =>
      obtain ⟨⟨h1, h2, h3, h4⟩, hg⟩ := hc
      unfold moveF
      split
      · next hr =>
        exfalso
        have hl := Sh.hi_le (Sh.gd C F r.toNat) (C - 1 - c.toNat) c.toNat
        have e1 : Sh.lastC C F r.toNat c.toNat true = Sh.hi (Sh.gd C F r.toNat) (C - 1 - c.toNat) c.toNat := by simp [Sh.lastC]
        rw [e1] at hr
        have e2 : idx C r c = r.toNat * C + c.toNat := rfl
        rw [e2] at hr
        obtain ⟨j, hj⟩ : ∃ j, j = k - r.toNat * C := ⟨_, rfl⟩
        have hk2 : k = r.toNat * C + j := by omega
        have hgj : Sh.gd C F r.toNat j = true := by unfold Sh.gd; rw [← hk2]; exact h
        by_cases e : j = c.toNat
        · rw [e] at hgj
          exact hg ⟨rfl, hgj⟩
        · have := Sh.hi_free (Sh.gd C F r.toNat) (C - 1 - c.toNat) c.toNat j (by omega : c.toNat < j) (by omega)
          rw [this] at hgj
          cases hgj
      · rfl
    · rfl
  rfl
theorem draw_size (o : Op) (z : St) : (drawF o z).R = z.R ∧ (drawF o z).C = z.C := by
  unfold drawF
  split; exact ⟨rfl, rfl⟩
  split; exact ⟨rfl, rfl⟩
  split; exact ⟨rfl, rfl⟩
  split; exact ⟨rfl, rfl⟩
  split <;> exact ⟨rfl, rfl⟩
end Go.Proofs.YtkpfhgfdfndliaaDoor
