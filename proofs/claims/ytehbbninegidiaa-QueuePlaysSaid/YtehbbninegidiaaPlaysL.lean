/-
  QueuePlays: what each call answers, how many bytes there are, and whether a Push was refused, call by call.
-/
import Derived.Test.YtehbbninegidiaaRgH
import Derived.Test.YtehbbninegidiaaTreeP
namespace Go.Proofs.Ytehbbninegidiaa
open Go.RowKit Go.Maps

set_option linter.unusedSimpArgs false in
set_option maxRecDepth 100000 in
set_option maxHeartbeats 4000000 in
theorem plays_in (most : Nat) (a : Option Addr) (cap : Nat) (l : List OpV) (h : most ≤ 4096) (w : World) (hl : OpsIn w a l) (hok : OpsOk l) (hn : l.length ≤ 9223372036854775807) : Calls Try.prog 3 #[.int .i64 (most : Int), .slice a l.length cap] w fun e w' => e = .returned (.bool true) ∧ Kept0 w w' := by
  have dm1 : decide ((most : Int) < 0) = false := by simp
  have dm2 : decide ((4096 : Int) < (most : Int)) = false := by simp; omega
  have HF := Lib.hid (few_any a cap l)
  have HL0 := Lib.hid hl
  have HOK := Lib.hid hok
  obtain ⟨n, hnl⟩ : ∃ n, n = l.length := ⟨_, rfl⟩
  rw [← hnl] at HF hn ⊢
  have HN := Lib.hid hnl
  clear hnl hl hok
  go_enter Try.func3, Try.ntmps3
  go_wp2_with fail
  refine (new_yes most w h).mono ?_
  rintro e w1 ⟨b, g, rfl, hq, hb, hg, k1⟩
  have HQ := Lib.hid hq
  have HK := Lib.hid k1
  clear hq k1
  go_wp2_with fail
  refine (HF.out _ (HL0.out.kept0 HK.out) HOK.out hn).mono ?_
  cases hf : fewB l with
  | false =>
    clear hf HF
    rintro e w2 ⟨rfl, rfl⟩
    go_wp2_with fail
    refine (awake_any _).mono ?_
    rintro e w4 ⟨rfl, hk4⟩
    go_wp2_with fail
    go_ret
    exact ⟨rfl, HK.out.trans hk4⟩
  | true =>
    have HFP := Lib.hid (few_parts hf)
    clear hf HF
    rintro e w2 ⟨rfl, rfl⟩
    have HB : Hid (∃ xs over, Both w (w2.alloc (.cells #[.string ⟨#[]⟩, .int .i64 (most : Int), .bool false] 31)) b g w2.heap.size most xs over) := by
      have h1 := HQ.out.lt
      have h2 := HQ.out.ltg
      exact ⟨[], false, HQ.out.kept0 ((Kept.refl _ w2).alloc _), heap_new w2 _, ⟨hb, hg, HK.out.size⟩, by omega, HK.out.alloc _⟩
    obtain ⟨x, hx⟩ : ∃ x, x = w2.heap.size := ⟨_, rfl⟩
    clear HQ hb hg
    go_wp2_with fail
    rw [← hx] at HB ⊢
    clear hx HK
    go_loopw [8] (fun i wr => ∃ k : Nat, k ≤ n ∧ i = .int .i64 (k : Int) ∧ Hid (∃ xs over, Both w wr b g x most xs over)) (fun i _ => n - (num i).toNat)
    case atStart => exact ⟨0, by omega, rfl, HB⟩
    case round =>
      clear HB
      obtain ⟨k, hk, rfl, HB⟩ := hrel
      by_cases hlt : k < n
      · obtain ⟨o, ho⟩ : ∃ o, l[k]? = some o := ⟨_, List.getElem?_eq_getElem (by rw [← HN.out]; exact hlt)⟩
        obtain ⟨bo, off, rfl, hO, hS⟩ := HL0.out k o ho
        obtain ⟨xs, over, hb⟩ := HB.out
        have hO2 := hO.kept0 hb.old
        have c0 := hO2.ask
        have c1 := hO2.l
        have c2 := hO2.n
        obtain ⟨oa, hoa⟩ : ∃ oa, oa = o.ask := ⟨_, rfl⟩
        obtain ⟨la, hla⟩ : ∃ la, la = o.la := ⟨_, rfl⟩
        obtain ⟨ol, hol⟩ : ∃ ol, ol = o.l.length := ⟨_, rfl⟩
        obtain ⟨oc, hoc⟩ : ∃ oc, oc = o.lcap := ⟨_, rfl⟩
        obtain ⟨on, hon⟩ : ∃ on, on = o.n := ⟨_, rfl⟩
        obtain ⟨X, hX⟩ : ∃ X, X = stepX most o xs := ⟨_, rfl⟩
        obtain ⟨O, hOv⟩ : ∃ O, O = stepO most o xs over := ⟨_, rfl⟩
        have HP : Hid (∀ W, Kept0 wr W → Calls Try.prog 12 #[ptr b, ptr x, .agg #[.int .i64 oa, .slice la ol oc, .int .i64 on]] W fun e w' => e = .returned (.bool true) ∧ Both w w' b g x most X O) := fun W kW => by
          have := does_any o (⟨hb.q.kept0 kW, hb.r.kept0 kW, hb.nb, hb.ne, hb.old.trans kW⟩ : Both w W b g x most xs over) hS (HOK.out k o ho) (HFP.out.2.2 k o ho).2
          rw [hoa, hla, hol, hoc, hon, hX, hOv]
          exact this
        have HS : Hid (∀ W, Kept0 w W → W.cell? ⟨bo, off + k * 3, none⟩ = some (.int .i64 oa) ∧ W.cell? ⟨bo, off + k * 3 + 1, none⟩ = some (.slice la ol oc) ∧ W.cell? ⟨bo, off + k * 3 + 2, none⟩ = some (.int .i64 on)) := fun W kW => by
          have h := hO.kept0 kW
          rw [hoa, hla, hol, hoc, hon]
          exact ⟨h.ask, h.l, h.n⟩
        obtain ⟨m, hm⟩ : ∃ m, m = X.length := ⟨_, rfl⟩
        have HL : Hid (∀ W, Both w W b g x most X O → Calls Try.prog 13 #[ptr b] W fun e w' => e = .returned (.int .i64 (m : Int)) ∧ w' = W) := fun W hW => by
          rw [hm]
          exact len_any hW.q
        have HV : Hid (∀ W, Both w W b g x most X O → Calls Try.prog 14 #[ptr b] W fun e w' => e = .returned (.bool O) ∧ w' = W) := fun W hW => over_any hW.q
        have hsz : (str X).size = m := by rw [str_size, hm]
        rw [← hoa] at c0
        rw [← hla, ← hol, ← hoc] at c1
        rw [← hon] at c2
        clear hoa hla hol hoc hon hX hOv hm hO2 hO hS hb HB ho
        go_upto_region 10 with fail
        refine wp_region_held (S := fun w' => w'.cell? ⟨bo, off + k * 3, none⟩ = some (.int .i64 oa) ∧ w'.cell? ⟨bo, off + k * 3 + 1, none⟩ = some (.slice la ol oc) ∧ w'.cell? ⟨bo, off + k * 3 + 2, none⟩ = some (.int .i64 on)) (by kernel_rfl) ?_
        obtain ⟨wD, hwD⟩ : ∃ wD : World, wD = { wr with drawn := wr.drawn + 1 } := ⟨_, rfl⟩
        have kD : Kept0 wr wD := by rw [hwD]; exact (Kept.refl _ wr).drewN 1
        rw [← hwD]
        clear hwD
        have hs0 := And.intro (kcell kD c0) (And.intro (kcell kD c1) (kcell kD c2))
        refine wpAnyH_take (fuel := 26) (i := 0) (v := ptr b) rfl (by kernel_rfl) (by kernel_rfl) (by kernel_rfl) (fun _ _ _ h => h) (Or.inl ⟨by kernel_rfl, fun w hSw => by go_simp⟩) hs0 ?_
        simp only [Act.put, List.setIfInBounds_toArray, List.set_cons_zero, List.set_cons_succ]
        refine wpAnyH_take (i := 1) (v := ptr x) rfl (by kernel_rfl) (by kernel_rfl) (by kernel_rfl) (fun _ _ _ h => h) (Or.inl ⟨by kernel_rfl, fun w hSw => by go_simp⟩) hs0 ?_
        simp only [Act.put, List.setIfInBounds_toArray, List.set_cons_zero, List.set_cons_succ]
        refine wpAnyH_take (i := 2) (v := .slice (some ⟨bo, off, none⟩) n cap) rfl (by kernel_rfl) (by kernel_rfl) (by kernel_rfl) (fun _ _ _ h => h) (Or.inl ⟨by kernel_rfl, fun w hSw => by go_simp⟩) hs0 ?_
        simp only [Act.put, List.setIfInBounds_toArray, List.set_cons_zero, List.set_cons_succ]
        refine wpAnyH_take (i := 3) (v := .int .i64 (k : Int)) rfl (by kernel_rfl) (by kernel_rfl) (by kernel_rfl) (fun _ _ _ h => h) (Or.inl ⟨by kernel_rfl, fun w hSw => by go_simp⟩) hs0 ?_
        simp only [Act.put, List.setIfInBounds_toArray, List.set_cons_zero, List.set_cons_succ]
        refine wpAnyH_take (i := 4) (v := .pointer (some ⟨bo, off + k * 3, none⟩)) rfl (by kernel_rfl) (by kernel_rfl) (by kernel_rfl) (fun _ _ _ h => h) (Or.inl ⟨by kernel_rfl, fun w hSw => by go_simp⟩) hs0 ?_
        simp only [Act.put, List.setIfInBounds_toArray, List.set_cons_zero, List.set_cons_succ]
        refine wpAnyH_take (i := 5) (v := .agg #[.int .i64 oa, .slice la ol oc, .int .i64 on]) rfl (by kernel_rfl) (by kernel_rfl) (by kernel_rfl) (fun _ _ _ h => h) (Or.inl ⟨by kernel_rfl, fun w hSw => by obtain ⟨q0, q1, q2⟩ := hSw; go_simp⟩) hs0 ?_
        simp only [Act.put, List.setIfInBounds_toArray, List.set_cons_zero, List.set_cons_succ]
        refine ⟨fun hno => ?_, fun j hj => ?_⟩
        · exact absurd (hno.symm.trans (show _ = [6] by kernel_rfl)) (by simp)
        replace hj := Eq.subst (motive := fun l => j ∈ l) (show _ = [6] by kernel_rfl) hj
        rw [List.mem_singleton] at hj
        subst hj
        unfold wpOp
        simp only [List.getElem?_toArray, List.getElem?_cons_succ, List.getElem?_cons_zero]
        rw [if_pos (by kernel_rfl)]
        refine Or.inl ?_
        unfold Oper.wp
        go_simp
        refine Calls.mono (HP.out wD kD) ?_
        rintro e w2 ⟨rfl, hb2⟩
        try dsimp only
        have hs2 := HS.out w2 hb2.old
        refine ⟨hs2, ?_⟩
        try simp only [Act.put, List.setIfInBounds_toArray, List.set_cons_zero, List.set_cons_succ]
        refine wpAnyH_weaken (S' := fun w' => w'.cell? ⟨bo, off + k * 3, none⟩ = some (.int .i64 oa) ∧ w'.cell? ⟨bo, off + k * 3 + 1, none⟩ = some (.slice la ol oc) ∧ w'.cell? ⟨bo, off + k * 3 + 2, none⟩ = some (.int .i64 on) ∧ w'.cell? ⟨x, 0, none⟩ = some (.string (str X)) ∧ w'.cell? ⟨x, 2, none⟩ = some (.bool O)) (fun _ h => ⟨h.1, h.2.1, h.2.2.1⟩) ?_
        have hs3 := And.intro hs2.1 (And.intro hs2.2.1 (And.intro hs2.2.2 (And.intro hb2.r.c0 hb2.r.c2)))
        refine wpAnyH_take (i := 7) (v := .bool false) rfl (by kernel_rfl) (by kernel_rfl) (by kernel_rfl) (fun _ _ _ h => h) (Or.inl ⟨by kernel_rfl, fun w hSw => by go_simp⟩) hs3 ?_
        simp only [Act.put, List.setIfInBounds_toArray, List.set_cons_zero, List.set_cons_succ]
        refine wpAnyH_take (i := 8) (v := .bool false) rfl (by kernel_rfl) (by kernel_rfl) (by kernel_rfl) (fun _ _ _ h => h) (Or.inl ⟨by kernel_rfl, fun w hSw => by go_simp⟩) hs3 ?_
        simp only [Act.put, List.setIfInBounds_toArray, List.set_cons_zero, List.set_cons_succ]
        refine wpAnyH_take (i := 9) (v := ptr b) rfl (by kernel_rfl) (by kernel_rfl) (by kernel_rfl) (fun _ _ _ h => h) (Or.inl ⟨by kernel_rfl, fun w hSw => by go_simp⟩) hs3 ?_
        simp only [Act.put, List.setIfInBounds_toArray, List.set_cons_zero, List.set_cons_succ]
        refine wpAnyH_take (i := 11) (v := ptr x) rfl (by kernel_rfl) (by kernel_rfl) (by kernel_rfl) (fun _ _ _ h => h) (Or.inl ⟨by kernel_rfl, fun w hSw => by go_simp⟩) hs3 ?_
        simp only [Act.put, List.setIfInBounds_toArray, List.set_cons_zero, List.set_cons_succ]
        refine wpAnyH_take (i := 12) (v := ptr x) rfl (by kernel_rfl) (by kernel_rfl) (by kernel_rfl) (fun _ _ _ h => h) (Or.inl ⟨by kernel_rfl, fun w hSw => by go_simp⟩) hs3 ?_
        simp only [Act.put, List.setIfInBounds_toArray, List.set_cons_zero, List.set_cons_succ]
        refine wpAnyH_take (i := 13) (v := ptr x) rfl (by kernel_rfl) (by kernel_rfl) (by kernel_rfl) (fun _ _ _ h => h) (Or.inl ⟨by kernel_rfl, fun w hSw => by go_simp⟩) hs3 ?_
        simp only [Act.put, List.setIfInBounds_toArray, List.set_cons_zero, List.set_cons_succ]
        refine wpAnyH_take (i := 14) (v := .string (str X)) rfl (by kernel_rfl) (by kernel_rfl) (by kernel_rfl) (fun _ _ _ h => h) (Or.inl ⟨by kernel_rfl, fun w hSw => by obtain ⟨q0, q1, q2, q3, q4⟩ := hSw; go_simp⟩) hs3 ?_
        simp only [Act.put, List.setIfInBounds_toArray, List.set_cons_zero, List.set_cons_succ]
        refine wpAnyH_take (i := 15) (v := .int .i64 (m : Int)) rfl (by kernel_rfl) (by kernel_rfl) (by kernel_rfl) (fun _ _ _ h => h) (Or.inl ⟨by kernel_rfl, fun w hSw => by go_simp⟩) hs3 ?_
        simp only [Act.put, List.setIfInBounds_toArray, List.set_cons_zero, List.set_cons_succ]
        refine ⟨fun hno => ?_, fun j hj => ?_⟩
        · exact absurd (hno.symm.trans (show _ = [10] by kernel_rfl)) (by simp)
        replace hj := Eq.subst (motive := fun l => j ∈ l) (show _ = [10] by kernel_rfl) hj
        rw [List.mem_singleton] at hj
        subst hj
        unfold wpOp
        simp only [List.getElem?_toArray, List.getElem?_cons_succ, List.getElem?_cons_zero]
        rw [if_pos (by kernel_rfl)]
        refine Or.inl ?_
        unfold Oper.wp
        go_simp
        refine Calls.mono (HL.out w2 hb2) ?_
        rintro e w3 ⟨rfl, rfl⟩
        try dsimp only
        refine ⟨hs3, ?_⟩
        try simp only [Act.put, List.setIfInBounds_toArray, List.set_cons_zero, List.set_cons_succ]
        refine wpAnyH_take (i := 16) (v := .bool false) rfl (by kernel_rfl) (by kernel_rfl) (by kernel_rfl) (fun _ _ _ h => h) (Or.inl ⟨by kernel_rfl, fun w hSw => by go_simp⟩) hs3 ?_
        simp only [Act.put, List.setIfInBounds_toArray, List.set_cons_zero, List.set_cons_succ]
        refine wpAnyH_take (i := 17) (v := .bool false) rfl (by kernel_rfl) (by kernel_rfl) (by kernel_rfl) (fun _ _ _ h => h) (Or.inl ⟨by kernel_rfl, fun w hSw => by go_simp⟩) hs3 ?_
        simp only [Act.put, List.setIfInBounds_toArray, List.set_cons_zero, List.set_cons_succ]
        refine wpAnyH_take (i := 18) (v := .bool false) rfl (by kernel_rfl) (by kernel_rfl) (by kernel_rfl) (fun _ _ _ h => h) (Or.inl ⟨by kernel_rfl, fun w hSw => by go_simp⟩) hs3 ?_
        simp only [Act.put, List.setIfInBounds_toArray, List.set_cons_zero, List.set_cons_succ]
        refine wpAnyH_take (i := 19) (v := ptr b) rfl (by kernel_rfl) (by kernel_rfl) (by kernel_rfl) (fun _ _ _ h => h) (Or.inl ⟨by kernel_rfl, fun w hSw => by go_simp⟩) hs3 ?_
        simp only [Act.put, List.setIfInBounds_toArray, List.set_cons_zero, List.set_cons_succ]
        refine wpAnyH_take (i := 21) (v := ptr x) rfl (by kernel_rfl) (by kernel_rfl) (by kernel_rfl) (fun _ _ _ h => h) (Or.inl ⟨by kernel_rfl, fun w hSw => by go_simp⟩) hs3 ?_
        simp only [Act.put, List.setIfInBounds_toArray, List.set_cons_zero, List.set_cons_succ]
        refine wpAnyH_take (i := 22) (v := ptr x) rfl (by kernel_rfl) (by kernel_rfl) (by kernel_rfl) (fun _ _ _ h => h) (Or.inl ⟨by kernel_rfl, fun w hSw => by go_simp⟩) hs3 ?_
        simp only [Act.put, List.setIfInBounds_toArray, List.set_cons_zero, List.set_cons_succ]
        refine wpAnyH_take (i := 23) (v := .pointer (some ⟨x, 2, none⟩)) rfl (by kernel_rfl) (by kernel_rfl) (by kernel_rfl) (fun _ _ _ h => h) (Or.inl ⟨by kernel_rfl, fun w hSw => by go_simp⟩) hs3 ?_
        simp only [Act.put, List.setIfInBounds_toArray, List.set_cons_zero, List.set_cons_succ]
        refine wpAnyH_take (i := 24) (v := .bool O) rfl (by kernel_rfl) (by kernel_rfl) (by kernel_rfl) (fun _ _ _ h => h) (Or.inl ⟨by kernel_rfl, fun w hSw => by obtain ⟨q0, q1, q2, q3, q4⟩ := hSw; go_simp⟩) hs3 ?_
        simp only [Act.put, List.setIfInBounds_toArray, List.set_cons_zero, List.set_cons_succ]
        refine ⟨fun hno => ?_, fun j hj => ?_⟩
        · exact absurd (hno.symm.trans (show _ = [20] by kernel_rfl)) (by simp)
        replace hj := Eq.subst (motive := fun l => j ∈ l) (show _ = [20] by kernel_rfl) hj
        rw [List.mem_singleton] at hj
        subst hj
        unfold wpOp
        simp only [List.getElem?_toArray, List.getElem?_cons_succ, List.getElem?_cons_zero]
        rw [if_pos (by kernel_rfl)]
        refine Or.inl ?_
        unfold Oper.wp
        go_simp
        refine Calls.mono (HV.out w3 hb2) ?_
        rintro e w4 ⟨rfl, rfl⟩
        try dsimp only
        refine ⟨hs3, ?_⟩
        try simp only [Act.put, List.setIfInBounds_toArray, List.set_cons_zero, List.set_cons_succ]
        refine wpAnyH_take (i := 25) (v := .bool false) rfl (by kernel_rfl) (by kernel_rfl) (by kernel_rfl) (fun _ _ _ h => h) (Or.inl ⟨by kernel_rfl, fun w hSw => by go_simp⟩) hs3 ?_
        simp only [Act.put, List.getElem_toArray, List.getElem_cons_succ, List.getElem_cons_zero, List.setIfInBounds_toArray, List.set_cons_zero, List.set_cons_succ]
        refine wpAnyH_take (i := 26) (v := .bool false) rfl (by kernel_rfl) (by kernel_rfl) (by kernel_rfl) (fun _ _ _ h => h) (Or.inl ⟨by kernel_rfl, fun w hSw => by go_simp⟩) hs3 ?_
        simp only [Act.put, List.getElem_toArray, List.getElem_cons_succ, List.getElem_cons_zero, List.setIfInBounds_toArray, List.set_cons_zero, List.set_cons_succ]
        have HB2 := Lib.hid hb2
        refine wpAnyH_done (by kernel_rfl) ?_ _
        clear hs0 hs2 hs3 hb2
        go_wp2_with fail
        go_roundw
        case rel => exact ⟨k + 1, by omega, by go_num, _, _, HB2.out⟩
        case measure => simp [num]; omega
      · obtain ⟨xs, over, hb⟩ := HB.out
        have HK := Lib.hid hb.old
        clear hb HB
        go_wp2_with fail
        refine (awake_any _).mono ?_
        rintro e w8 ⟨rfl, hk8⟩
        go_wp2_with fail
        go_ret
        exact ⟨rfl, HK.out.trans hk8⟩
set_option maxHeartbeats 4000000 in
theorem plays_calls (most : Int) (a : Option Addr) (cap : Nat) (l : List OpV) (w : World) (hl : OpsIn w a l) (hok : OpsOk l) (hn : l.length ≤ 9223372036854775807) : Calls Try.prog 3 #[.int .i64 most, .slice a l.length cap] w fun e w' => e = .returned (.bool true) ∧ Below w.heap.size w w' := by
  by_cases h : 0 ≤ most ∧ most ≤ 4096
  · obtain ⟨m, rfl⟩ := Int.eq_ofNat_of_zero_le h.1
    exact (plays_in m a cap l (by omega) w hl hok hn).mono fun e w' ⟨h1, h2⟩ => ⟨h1, Kept0.below h2⟩
  · have HN := Lib.hid (new_no most w h)
    clear hl hok hn
    have hor : most < 0 ∨ (¬ most < 0 ∧ 4096 < most) := by omega
    clear h
    rcases hor with q1 | ⟨q1, q2⟩
    all_goals
      go_enter Try.func3, Try.ntmps3
      go_wp2_with fail
      refine HN.out.mono ?_
      rintro e w1 ⟨rfl, k1⟩
      have HK := Lib.hid k1
      clear k1
      go_wp2_with fail
      refine (awake_any _).mono ?_
      rintro e w4 ⟨rfl, hk4⟩
      go_wp2_with fail
      go_ret
      exact ⟨rfl, Kept0.below (HK.out.trans hk4)⟩
end Go.Proofs.Ytehbbninegidiaa
