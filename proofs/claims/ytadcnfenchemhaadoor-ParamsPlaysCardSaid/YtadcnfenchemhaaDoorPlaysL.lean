/-
  ParamsPlays: what a buffer has, byte by byte.
-/
import Derived.Test.YtadcnfenchemhaaDoorPlaysF
import Derived.Test.YtadcnfenchemhaaDoorNumbersL
import Derived.Deep.DeepCutAuto
import Derived.Test.YtadcnfenchemhaaDoorTreeP
namespace Go.Proofs.YtadcnfenchemhaaDoor
open Go.RowKit Go.Maps

set_option linter.unusedSimpArgs false in
set_option maxRecDepth 100000 in
set_option maxHeartbeats 4000000 in
theorem plays_in (most : Nat) (s : ByteArray) (reset : Int) (h1 : 1 ≤ most) (h2 : most ≤ 64) (hs : s.size ≤ 300) (w : World) : Calls Tryd.prog 4 #[.int .i64 (most : Int), .string s, .int .i64 reset] w fun e w' => e = .returned (.bool true) ∧ Kept0 w w' := by
  have ds : decide ((300 : Int) < (s.size : Int)) = false := by simp; omega
  have dm1 : decide ((most : Int) < 1) = false := by simp; omega
  have dm2 : decide ((64 : Int) < (most : Int)) = false := by simp; omega
  go_enter Tryd.func4, Tryd.ntmps4
  go_wp2_with fail
  refine (new_yes most w h1 h2).mono ?_
  rintro e w1 ⟨b, B, rfl, hb, hB, k1⟩
  have hlt := hb.lt
  have HO : Hid (Both w (w1.alloc (.cells #[.string ⟨#[]⟩, .int .i64 most, .int .i64 0] 35)) b w1.heap.size most [] 0 [] 0) :=
    ⟨B, hb.kept0 ((Kept.refl _ w1).alloc _), fun i hi => ⟨hB i hi, by have := hlt i hi; omega⟩, k1.size, heap_new w1 _, k1.alloc _⟩
  clear hb hB k1 hlt
  go_wp2_with fail
  go_loopw [9, 10] (fun s9 s10 wr => ∃ (k x : Nat) (xs : List UInt8) (lost : Nat), k ≤ s.size ∧ s10 = .int .i64 (k : Int) ∧ s9 = ptr x ∧ lost ≤ k ∧ xs.length ≤ most ∧ Hid (Both w wr b x most xs lost xs lost)) (fun _ s10 _ => s.size - (intOf s10).toNat)
  case atStart => exact ⟨0, _, [], 0, by omega, rfl, rfl, by omega, by simp, HO⟩
  case round =>
    clear HO
    obtain ⟨k, x, xs, lost, hk, rfl, rfl, hlk, hxm, HO⟩ := hrel
    by_cases hlt : k < s.size
    · have dk : decide ((k : Int) < (s.size : Int)) = true := by simp; omega
      obtain ⟨c, hcc⟩ : ∃ c, c = s[k]'hlt := ⟨_, rfl⟩
      have hd : (s[k]'hlt).toNat = c.toNat := by rw [hcc]
      clear hcc
      go_upto_if 66 with fail
      go_cut [9] from 64 to 71 (fun s9 wx => ∃ (x' : Nat) (xs' : List UInt8) (lost' : Nat), s9 = ptr x' ∧ lost' ≤ k ∧ xs'.length ≤ most ∧ Hid (Both w wx b x' most xs' lost' xs' lost'))
      case first =>
        by_cases hr : (k : Int) = reset
        · have dr : ((k : Int) == reset) = true := by simpa using hr
          clear hr
          go_wp2_with fail
          refine (both_reset HO.out).mono ?_
          rintro e w2 ⟨rfl, ho⟩
          have HO2 := Lib.hid ho.anew
          clear ho HO
          go_wp2_with fail
          go_meet
          exact ⟨_, [], 0, rfl, by omega, by simp, HO2⟩
        · have dr : ((k : Int) == reset) = false := by simpa using hr
          clear hr
          go_wp2_with fail
          go_meet
          exact ⟨x, xs, lost, rfl, hlk, hxm, HO⟩
      case rest =>
      clear HO hlk hxm
      obtain ⟨x2, xs2, lost2, rfl, hlk, hxm, HO⟩ := hcut
      have hp1 : ∀ w', Kept0 wc w' → Calls Tryd.prog 16 #[ptr b, .int .u8 (c.toNat : Int)] w' fun e w'' => e = .returned (.bool (decide (xs2.length < most))) ∧ Both w w'' b x2 most (pushX most xs2 c) (pushN most xs2 lost2) xs2 lost2 := fun w' kk => both_push c (HO.out.keep kk) h2 (by omega)
      have hp2 : ∀ w' xs2' l', Both w w' b x2 most xs2' l' xs2 lost2 → Calls Tryd.prog 17 #[ptr x2, .int .u8 (c.toNat : Int)] w' fun e w'' => e = .returned (.bool (decide (xs2.length < most))) ∧ Both w w'' b x2 most xs2' l' (pushX most xs2 c) (pushN most xs2 lost2) := fun w' xs2' l' hh => both_rpush c hh h2 (by omega)
      have hlen := pushX_len c hxm
      have hln : pushN most xs2 lost2 ≤ k + 1 := pushN_le hlk
      obtain ⟨P, hP⟩ : ∃ P, P = decide (xs2.length < most) := ⟨_, rfl⟩
      obtain ⟨Y, hY⟩ : ∃ Y, Y = pushX most xs2 c := ⟨_, rfl⟩
      obtain ⟨L, hL⟩ : ∃ L, L = pushN most xs2 lost2 := ⟨_, rfl⟩
      rw [← hP, ← hY, ← hL] at hp1 hp2
      rw [← hY] at hlen
      rw [← hL] at hln
      have HP1 := Lib.hid hp1
      have HP2 := Lib.hid hp2
      have hysz := str_size Y
      obtain ⟨n, hn⟩ : ∃ n, n = Y.length := ⟨_, rfl⟩
      have HN := Lib.hid hn
      rw [← hn] at hysz
      have HB18 : Hid (∀ w', Both w w' b x2 most Y L Y L → Calls Tryd.prog 18 #[ptr b] w' fun e w'' => e = .returned (.string (str Y)) ∧ Kept0 w' w'') := fun w' h => by
        obtain ⟨B, hb⟩ := h.first
        exact bytes_any hb
      have HB19 : Hid (∀ w', Both w w' b x2 most Y L Y L → Calls Tryd.prog 19 #[ptr b] w' fun e w'' => e = .returned (.int .i64 (n : Int)) ∧ Kept0 w' w'') := fun w' h => by
        obtain ⟨B, hb⟩ := h.first
        rw [hn]
        exact len_any hb
      have HB20 : Hid (∀ w', Both w w' b x2 most Y L Y L → Calls Tryd.prog 20 #[ptr b] w' fun e w'' => e = .returned (.int .i64 (L : Int)) ∧ Kept0 w' w'') := fun w' h => by
        obtain ⟨B, hb⟩ := h.first
        exact lost_any hb
      clear hp1 hp2 hP hY hL hn
      have hoy : Y.length ≤ most := hlen
      go_upto_region 13 with fail
      go_cut [110] from 72 to 110 (fun s110 wx => s110 = .bool false ∧ Hid (Both w wx b x2 most Y L Y L))
      case first =>
        refine wp_region_held (S := fun _ => True) (by kernel_rfl) ?_
        obtain ⟨wD, hwD⟩ : ∃ wD : World, wD = { wc with drawn := wc.drawn + 1 } := ⟨_, rfl⟩
        have kD : Kept0 wc wD := by rw [hwD]; exact (Kept.refl _ wc).drewN 1
        rw [← hwD]
        clear hwD
        refine wpAnyH_take (fuel := 38) (i := 0) (v := ptr b) rfl (by kernel_rfl) (by kernel_rfl) (by kernel_rfl) (fun _ _ _ h => h) (Or.inl ⟨by rfl, fun w hSw => by go_simp⟩) trivial ?_
        simp only [Act.put, List.setIfInBounds_toArray, List.set_cons_zero, List.set_cons_succ]
        refine wpAnyH_take (i := 1) (v := .string s) rfl (by kernel_rfl) (by kernel_rfl) (by kernel_rfl) (fun _ _ _ h => h) (Or.inl ⟨by rfl, fun w hSw => by go_simp⟩) trivial ?_
        simp only [Act.put, List.setIfInBounds_toArray, List.set_cons_zero, List.set_cons_succ]
        refine wpAnyH_take (i := 2) (v := .int .i64 (k : Int)) rfl (by kernel_rfl) (by kernel_rfl) (by kernel_rfl) (fun _ _ _ h => h) (Or.inl ⟨by rfl, fun w hSw => by go_simp⟩) trivial ?_
        simp only [Act.put, List.setIfInBounds_toArray, List.set_cons_zero, List.set_cons_succ]
        refine wpAnyH_take (i := 3) (v := .int .u8 (c.toNat : Int)) rfl (by kernel_rfl) (by kernel_rfl) (by kernel_rfl) (fun _ _ _ h => h) (Or.inl ⟨by rfl, fun w hSw => by go_simp⟩) trivial ?_
        simp only [Act.put, List.setIfInBounds_toArray, List.set_cons_zero, List.set_cons_succ]
        refine wpAnyH_take (i := 5) (v := ptr x2) rfl (by kernel_rfl) (by kernel_rfl) (by kernel_rfl) (fun _ _ _ h => h) (Or.inl ⟨by rfl, fun w hSw => by go_simp⟩) trivial ?_
        simp only [Act.put, List.setIfInBounds_toArray, List.set_cons_zero, List.set_cons_succ]
        refine wpAnyH_take (i := 6) (v := .string s) rfl (by kernel_rfl) (by kernel_rfl) (by kernel_rfl) (fun _ _ _ h => h) (Or.inl ⟨by rfl, fun w hSw => by go_simp⟩) trivial ?_
        simp only [Act.put, List.setIfInBounds_toArray, List.set_cons_zero, List.set_cons_succ]
        refine wpAnyH_take (i := 7) (v := .int .i64 (k : Int)) rfl (by kernel_rfl) (by kernel_rfl) (by kernel_rfl) (fun _ _ _ h => h) (Or.inl ⟨by rfl, fun w hSw => by go_simp⟩) trivial ?_
        simp only [Act.put, List.setIfInBounds_toArray, List.set_cons_zero, List.set_cons_succ]
        refine wpAnyH_take (i := 8) (v := .int .u8 (c.toNat : Int)) rfl (by kernel_rfl) (by kernel_rfl) (by kernel_rfl) (fun _ _ _ h => h) (Or.inl ⟨by rfl, fun w hSw => by go_simp⟩) trivial ?_
        simp only [Act.put, List.setIfInBounds_toArray, List.set_cons_zero, List.set_cons_succ]
        refine wpAnyH_one (i := 4) (by kernel_rfl) ?_
        refine wpOp_enter rfl (by kernel_rfl) 16 #[ptr b, .int .u8 (c.toNat : Int)] (by go_simp) (.bool P) (fun w' => Both w w' b x2 most Y L xs2 lost2) (HP1.out wD kD) ?_
        intro w2 hb2
        refine ⟨trivial, ?_⟩
        simp only [Act.put, List.setIfInBounds_toArray, List.set_cons_zero, List.set_cons_succ]
        refine wpAnyH_one (i := 9) (by kernel_rfl) ?_
        refine wpOp_enter rfl (by kernel_rfl) 17 #[ptr x2, .int .u8 (c.toNat : Int)] (by go_simp) (.bool P) (fun w' => Both w w' b x2 most Y L Y L) (HP2.out w2 _ _ hb2) ?_
        intro w3 hb3
        refine ⟨trivial, ?_⟩
        simp only [Act.put, List.setIfInBounds_toArray, List.set_cons_zero, List.set_cons_succ]
        refine wpAnyH_take (i := 10) (v := .bool false) rfl (by kernel_rfl) (by kernel_rfl) (by kernel_rfl) (fun _ _ _ h => h) (Or.inl ⟨by rfl, fun w hSw => by go_simp⟩) trivial ?_
        simp only [Act.put, List.setIfInBounds_toArray, List.set_cons_zero, List.set_cons_succ]
        refine wpAnyH_take (i := 11) (v := .bool false) rfl (by kernel_rfl) (by kernel_rfl) (by kernel_rfl) (fun _ _ _ h => h) (Or.inl ⟨by rfl, fun w hSw => by go_simp⟩) trivial ?_
        simp only [Act.put, List.setIfInBounds_toArray, List.set_cons_zero, List.set_cons_succ]
        refine wpAnyH_weaken (S' := fun w' => w'.cell? ⟨x2, 0, none⟩ = some (.string (str Y)) ∧ w'.cell? ⟨x2, 2, none⟩ = some (.int .i64 (L : Int))) (fun _ _ => trivial) ?_
        have hs3 := And.intro hb3.c0 hb3.c2
        refine wpAnyH_take (i := 12) (v := ptr b) rfl (by kernel_rfl) (by kernel_rfl) (by kernel_rfl) (fun _ _ _ h => h) (Or.inl ⟨by kernel_rfl, fun w hSw => by go_simp⟩) hs3 ?_
        simp only [Act.put, List.setIfInBounds_toArray, List.set_cons_zero, List.set_cons_succ]
        refine wpAnyH_take (i := 14) (v := ptr x2) rfl (by kernel_rfl) (by kernel_rfl) (by kernel_rfl) (fun _ _ _ h => h) (Or.inl ⟨by kernel_rfl, fun w hSw => by go_simp⟩) hs3 ?_
        simp only [Act.put, List.setIfInBounds_toArray, List.set_cons_zero, List.set_cons_succ]
        refine wpAnyH_take (i := 15) (v := ptr x2) rfl (by kernel_rfl) (by kernel_rfl) (by kernel_rfl) (fun _ _ _ h => h) (Or.inl ⟨by kernel_rfl, fun w hSw => by go_simp⟩) hs3 ?_
        simp only [Act.put, List.setIfInBounds_toArray, List.set_cons_zero, List.set_cons_succ]
        refine wpAnyH_take (i := 16) (v := ptr x2) rfl (by kernel_rfl) (by kernel_rfl) (by kernel_rfl) (fun _ _ _ h => h) (Or.inl ⟨by kernel_rfl, fun w hSw => by go_simp⟩) hs3 ?_
        simp only [Act.put, List.setIfInBounds_toArray, List.set_cons_zero, List.set_cons_succ]
        refine wpAnyH_take (i := 17) (v := .string (str Y)) rfl (by kernel_rfl) (by kernel_rfl) (by kernel_rfl) (fun _ _ _ h => h) (Or.inl ⟨by kernel_rfl, fun w hSw => by obtain ⟨q0, q2⟩ := hSw; go_simp⟩) hs3 ?_
        simp only [Act.put, List.setIfInBounds_toArray, List.set_cons_zero, List.set_cons_succ]
        refine ⟨fun hno => ?_, fun j hj => ?_⟩
        · exact absurd (hno.symm.trans (show _ = [13] by kernel_rfl)) (by simp)
        replace hj := Eq.subst (motive := fun l => j ∈ l) (show _ = [13] by kernel_rfl) hj
        rw [List.mem_singleton] at hj
        subst hj
        unfold wpOp
        simp only [List.getElem?_toArray, List.getElem?_cons_succ, List.getElem?_cons_zero]
        rw [if_pos (by kernel_rfl)]
        refine Or.inl ?_
        unfold Oper.wp
        go_simp
        refine Calls.mono (HB18.out w3 hb3) ?_
        rintro e w4 ⟨rfl, k4⟩
        try dsimp only
        have hb4 := hb3.keep k4
        have hs4 := And.intro hb4.c0 hb4.c2
        refine ⟨hs4, ?_⟩
        try simp only [Act.put, List.setIfInBounds_toArray, List.set_cons_zero, List.set_cons_succ]
        refine wpAnyH_take (i := 18) (v := .bool false) rfl (by kernel_rfl) (by kernel_rfl) (by kernel_rfl) (fun _ _ _ h => h) (Or.inl ⟨by kernel_rfl, fun w hSw => by go_simp⟩) hs4 ?_
        simp only [Act.put, List.setIfInBounds_toArray, List.set_cons_zero, List.set_cons_succ]
        refine wpAnyH_take (i := 19) (v := .bool false) rfl (by kernel_rfl) (by kernel_rfl) (by kernel_rfl) (fun _ _ _ h => h) (Or.inl ⟨by kernel_rfl, fun w hSw => by go_simp⟩) hs4 ?_
        simp only [Act.put, List.setIfInBounds_toArray, List.set_cons_zero, List.set_cons_succ]
        refine wpAnyH_take (i := 20) (v := .bool false) rfl (by kernel_rfl) (by kernel_rfl) (by kernel_rfl) (fun _ _ _ h => h) (Or.inl ⟨by kernel_rfl, fun w hSw => by go_simp⟩) hs4 ?_
        simp only [Act.put, List.setIfInBounds_toArray, List.set_cons_zero, List.set_cons_succ]
        refine wpAnyH_take (i := 21) (v := ptr b) rfl (by kernel_rfl) (by kernel_rfl) (by kernel_rfl) (fun _ _ _ h => h) (Or.inl ⟨by kernel_rfl, fun w hSw => by go_simp⟩) hs4 ?_
        simp only [Act.put, List.setIfInBounds_toArray, List.set_cons_zero, List.set_cons_succ]
        refine wpAnyH_take (i := 23) (v := ptr x2) rfl (by kernel_rfl) (by kernel_rfl) (by kernel_rfl) (fun _ _ _ h => h) (Or.inl ⟨by kernel_rfl, fun w hSw => by go_simp⟩) hs4 ?_
        simp only [Act.put, List.setIfInBounds_toArray, List.set_cons_zero, List.set_cons_succ]
        refine wpAnyH_take (i := 24) (v := ptr x2) rfl (by kernel_rfl) (by kernel_rfl) (by kernel_rfl) (fun _ _ _ h => h) (Or.inl ⟨by kernel_rfl, fun w hSw => by go_simp⟩) hs4 ?_
        simp only [Act.put, List.setIfInBounds_toArray, List.set_cons_zero, List.set_cons_succ]
        refine wpAnyH_take (i := 25) (v := ptr x2) rfl (by kernel_rfl) (by kernel_rfl) (by kernel_rfl) (fun _ _ _ h => h) (Or.inl ⟨by kernel_rfl, fun w hSw => by go_simp⟩) hs4 ?_
        simp only [Act.put, List.setIfInBounds_toArray, List.set_cons_zero, List.set_cons_succ]
        refine wpAnyH_take (i := 26) (v := .string (str Y)) rfl (by kernel_rfl) (by kernel_rfl) (by kernel_rfl) (fun _ _ _ h => h) (Or.inl ⟨by kernel_rfl, fun w hSw => by obtain ⟨q0, q2⟩ := hSw; go_simp⟩) hs4 ?_
        simp only [Act.put, List.setIfInBounds_toArray, List.set_cons_zero, List.set_cons_succ]
        refine wpAnyH_take (i := 27) (v := .int .i64 (n : Int)) rfl (by kernel_rfl) (by kernel_rfl) (by kernel_rfl) (fun _ _ _ h => h) (Or.inl ⟨by kernel_rfl, fun w hSw => by go_simp⟩) hs4 ?_
        simp only [Act.put, List.setIfInBounds_toArray, List.set_cons_zero, List.set_cons_succ]
        refine ⟨fun hno => ?_, fun j hj => ?_⟩
        · exact absurd (hno.symm.trans (show _ = [22] by kernel_rfl)) (by simp)
        replace hj := Eq.subst (motive := fun l => j ∈ l) (show _ = [22] by kernel_rfl) hj
        rw [List.mem_singleton] at hj
        subst hj
        unfold wpOp
        simp only [List.getElem?_toArray, List.getElem?_cons_succ, List.getElem?_cons_zero]
        rw [if_pos (by kernel_rfl)]
        refine Or.inl ?_
        unfold Oper.wp
        go_simp
        refine Calls.mono (HB19.out w4 hb4) ?_
        rintro e w5 ⟨rfl, k5⟩
        try dsimp only
        have hb5 := hb4.keep k5
        have hs5 := And.intro hb5.c0 hb5.c2
        refine ⟨hs5, ?_⟩
        try simp only [Act.put, List.setIfInBounds_toArray, List.set_cons_zero, List.set_cons_succ]
        refine wpAnyH_take (i := 28) (v := .bool false) rfl (by kernel_rfl) (by kernel_rfl) (by kernel_rfl) (fun _ _ _ h => h) (Or.inl ⟨by kernel_rfl, fun w hSw => by go_simp⟩) hs5 ?_
        simp only [Act.put, List.setIfInBounds_toArray, List.set_cons_zero, List.set_cons_succ]
        refine wpAnyH_take (i := 29) (v := .bool false) rfl (by kernel_rfl) (by kernel_rfl) (by kernel_rfl) (fun _ _ _ h => h) (Or.inl ⟨by kernel_rfl, fun w hSw => by go_simp⟩) hs5 ?_
        simp only [Act.put, List.setIfInBounds_toArray, List.set_cons_zero, List.set_cons_succ]
        refine wpAnyH_take (i := 30) (v := .bool false) rfl (by kernel_rfl) (by kernel_rfl) (by kernel_rfl) (fun _ _ _ h => h) (Or.inl ⟨by kernel_rfl, fun w hSw => by go_simp⟩) hs5 ?_
        simp only [Act.put, List.setIfInBounds_toArray, List.set_cons_zero, List.set_cons_succ]
        refine wpAnyH_take (i := 31) (v := ptr b) rfl (by kernel_rfl) (by kernel_rfl) (by kernel_rfl) (fun _ _ _ h => h) (Or.inl ⟨by kernel_rfl, fun w hSw => by go_simp⟩) hs5 ?_
        simp only [Act.put, List.setIfInBounds_toArray, List.set_cons_zero, List.set_cons_succ]
        refine wpAnyH_take (i := 33) (v := ptr x2) rfl (by kernel_rfl) (by kernel_rfl) (by kernel_rfl) (fun _ _ _ h => h) (Or.inl ⟨by kernel_rfl, fun w hSw => by go_simp⟩) hs5 ?_
        simp only [Act.put, List.setIfInBounds_toArray, List.set_cons_zero, List.set_cons_succ]
        refine wpAnyH_take (i := 34) (v := ptr x2) rfl (by kernel_rfl) (by kernel_rfl) (by kernel_rfl) (fun _ _ _ h => h) (Or.inl ⟨by kernel_rfl, fun w hSw => by go_simp⟩) hs5 ?_
        simp only [Act.put, List.setIfInBounds_toArray, List.set_cons_zero, List.set_cons_succ]
        refine wpAnyH_take (i := 35) (v := .pointer (some ⟨x2, 2, none⟩)) rfl (by kernel_rfl) (by kernel_rfl) (by kernel_rfl) (fun _ _ _ h => h) (Or.inl ⟨by kernel_rfl, fun w hSw => by go_simp⟩) hs5 ?_
        simp only [Act.put, List.setIfInBounds_toArray, List.set_cons_zero, List.set_cons_succ]
        refine wpAnyH_take (i := 36) (v := .int .i64 (L : Int)) rfl (by kernel_rfl) (by kernel_rfl) (by kernel_rfl) (fun _ _ _ h => h) (Or.inl ⟨by kernel_rfl, fun w hSw => by obtain ⟨q0, q2⟩ := hSw; go_simp⟩) hs5 ?_
        simp only [Act.put, List.setIfInBounds_toArray, List.set_cons_zero, List.set_cons_succ]
        refine ⟨fun hno => ?_, fun j hj => ?_⟩
        · exact absurd (hno.symm.trans (show _ = [32] by kernel_rfl)) (by simp)
        replace hj := Eq.subst (motive := fun l => j ∈ l) (show _ = [32] by kernel_rfl) hj
        rw [List.mem_singleton] at hj
        subst hj
        unfold wpOp
        simp only [List.getElem?_toArray, List.getElem?_cons_succ, List.getElem?_cons_zero]
        rw [if_pos (by kernel_rfl)]
        refine Or.inl ?_
        unfold Oper.wp
        go_simp
        refine Calls.mono (HB20.out w5 hb5) ?_
        rintro e w6 ⟨rfl, k6⟩
        try dsimp only
        have hb6 := Lib.hid (hb5.keep k6)
        have hs6 := And.intro hb6.out.c0 hb6.out.c2
        refine ⟨hs6, ?_⟩
        try simp only [Act.put, List.setIfInBounds_toArray, List.set_cons_zero, List.set_cons_succ]
        refine wpAnyH_take (i := 37) (v := .bool false) rfl (by kernel_rfl) (by kernel_rfl) (by kernel_rfl) (fun _ _ _ h => h) (Or.inl ⟨by kernel_rfl, fun w hSw => by go_simp⟩) hs6 ?_
        simp only [Act.put, List.getElem_toArray, List.getElem_cons_succ, List.getElem_cons_zero, List.setIfInBounds_toArray, List.set_cons_zero, List.set_cons_succ]
        refine wpAnyH_take (i := 38) (v := .bool false) rfl (by kernel_rfl) (by kernel_rfl) (by kernel_rfl) (fun _ _ _ h => h) (Or.inl ⟨by kernel_rfl, fun w hSw => by go_simp⟩) hs6 ?_
        simp only [Act.put, List.getElem_toArray, List.getElem_cons_succ, List.getElem_cons_zero, List.setIfInBounds_toArray, List.set_cons_zero, List.set_cons_succ]
        refine wpAnyH_done (by kernel_rfl) ?_ _
        clear hs3 hs4 hs5 hs6 hb2 hb3 hb4 hb5
        go_wp2_with fail
        go_meet
        exact ⟨rfl, hb6⟩
      case rest =>
      obtain ⟨rfl, HOY⟩ := hcut
      go_wp2_with fail
      go_roundw
      case rel => exact ⟨k + 1, x2, Y, L, by omega, by go_num, rfl, hln, hlen, HOY⟩
      case measure => simp [intOf]; omega
    · obtain rfl : k = s.size := by omega
      have dk : decide ((s.size : Int) < (s.size : Int)) = false := by simp
      have H1 : Hid (Calls Tryd.prog 21 #[ptr b] wr fun e w' => NumsAns (numV xs) e w' ∧ Kept0 wr w') := by
        obtain ⟨B, hb⟩ := HO.out.first
        exact bnums_any hb (by omega)
      have H2 : Hid (∀ w, Calls Tryd.prog 11 #[.string (str xs)] w fun e w' => NumsAns (numV xs) e w' ∧ Kept0 w w') := fun w => by
        have := refNumbers_any (str xs) (by rw [str_size]; omega) w
        rw [← num_ref] at this
        rwa [show (str xs).data.toList = xs by simp [str]] at this
      have HLn : Hid (∀ l, numV xs = some l → l.length ≤ 1000) := fun l hl => by have := numV_len hl; omega
      have x0 := HO.out.c0
      have KO := Lib.hid HO.out.old
      obtain ⟨o, ho⟩ : ∃ o, o = numV xs := ⟨_, rfl⟩
      rw [← ho] at H1 H2 HLn
      clear ho HO
      cases o with
      | none =>
        go_wp2_with fail
        refine H1.out.mono ?_
        rintro e w2 ⟨rfl, k2⟩
        replace x0 := kcell k2 x0
        go_wp2_with fail
        refine (H2.out w2).mono ?_
        rintro e w3 ⟨rfl, k3⟩
        go_wp2_with fail
        refine (ints_same none none 0 0 [] w3 (fun i x hx => by simp at hx) (fun i x hx => by simp at hx) (by simp)).mono ?_
        rintro e w4 ⟨rfl, k4⟩
        go_wp2_with fail
        refine (awake_any w4).mono ?_
        rintro e w5 ⟨rfl, k5⟩
        go_wp2_with fail
        go_ret
        exact ⟨rfl, KO.out.trans ((k2.trans k3).trans (k4.trans k5))⟩
      | some l =>
        have hl := HLn.out l rfl
        go_wp2_with fail
        refine H1.out.mono ?_
        rintro e w2 ⟨⟨a, cap, rfl, hi⟩, k2⟩
        have HI := Lib.hid hi
        clear hi
        replace x0 := kcell k2 x0
        go_wp2_with fail
        refine (H2.out w2).mono ?_
        rintro e w3 ⟨⟨a', cap', rfl, hj⟩, k3⟩
        have HJ := Lib.hid hj
        have HI3 : Hid (IntsIn w3 a l) := HI.out.kept0 k3
        clear hj HI
        go_wp2_with fail
        refine (ints_same a a' cap cap' l w3 HI3.out HJ.out (by omega)).mono ?_
        rintro e w4 ⟨rfl, k4⟩
        clear HI3 HJ
        go_wp2_with fail
        refine (awake_any w4).mono ?_
        rintro e w5 ⟨rfl, k5⟩
        go_wp2_with fail
        go_ret
        exact ⟨rfl, KO.out.trans ((k2.trans k3).trans (k4.trans k5))⟩

theorem plays_out (most : Int) (s : ByteArray) (reset : Int) (h : ¬ (1 ≤ most ∧ most ≤ 64)) (w : World) : Calls Tryd.prog 4 #[.int .i64 most, .string s, .int .i64 reset] w fun e w' => e = .returned (.bool true) ∧ Kept0 w w' := by
  have HN := Lib.hid (new_no most w h)
  by_cases h0 : most < 1
  · have d0 : decide (most < 1) = true := by simpa using h0
    clear h h0
    go_enter Tryd.func4, Tryd.ntmps4
    go_wp2_with fail
    refine HN.out.mono ?_
    rintro e w1 ⟨rfl, k1⟩
    go_wp2_with fail
    refine (awake_any w1).mono ?_
    rintro e w2 ⟨rfl, k2⟩
    go_wp2_with fail
    go_ret
    exact ⟨rfl, k1.trans k2⟩
  · have d0 : decide (most < 1) = false := by simpa using h0
    have d1 : decide (64 < most) = true := by simp; omega
    clear h h0
    go_enter Tryd.func4, Tryd.ntmps4
    go_wp2_with fail
    refine HN.out.mono ?_
    rintro e w1 ⟨rfl, k1⟩
    go_wp2_with fail
    refine (awake_any w1).mono ?_
    rintro e w2 ⟨rfl, k2⟩
    go_wp2_with fail
    go_ret
    exact ⟨rfl, k1.trans k2⟩
theorem plays_long (most : Nat) (s : ByteArray) (reset : Int) (h1 : 1 ≤ most) (h2 : most ≤ 64) (hs : 300 < s.size) (w : World) : Calls Tryd.prog 4 #[.int .i64 (most : Int), .string s, .int .i64 reset] w fun e w' => e = .returned (.bool true) ∧ Kept0 w w' := by
  have ds : decide ((300 : Int) < (s.size : Int)) = true := by simp; omega
  have dm1 : decide ((most : Int) < 1) = false := by simp; omega
  have dm2 : decide ((64 : Int) < (most : Int)) = false := by simp; omega
  have HN := Lib.hid (new_yes most w h1 h2)
  clear hs h1 h2
  go_enter Tryd.func4, Tryd.ntmps4
  go_wp2_with fail
  refine HN.out.mono ?_
  rintro e w1 ⟨b, B, rfl, _, _, k1⟩
  go_wp2_with fail
  refine (awake_any w1).mono ?_
  rintro e w2 ⟨rfl, k2⟩
  go_wp2_with fail
  go_ret
  exact ⟨rfl, k1.trans k2⟩
theorem plays_calls (most : Int) (s : ByteArray) (reset : Int) (w : World) : Calls Tryd.prog 4 #[.int .i64 most, .string s, .int .i64 reset] w fun e w' => e = .returned (.bool true) ∧ Below w.heap.size w w' := by
  by_cases h : 1 ≤ most ∧ most ≤ 64
  · obtain ⟨m, rfl⟩ := Int.eq_ofNat_of_zero_le (show 0 ≤ most by omega)
    by_cases hs : s.size ≤ 300
    · exact (plays_in m s reset (by omega) (by omega) hs w).mono fun e w' ⟨h1, h2⟩ => ⟨h1, Kept0.below h2⟩
    · exact (plays_long m s reset (by omega) (by omega) (by omega) w).mono fun e w' ⟨h1, h2⟩ => ⟨h1, Kept0.below h2⟩
  · exact (plays_out most s reset h w).mono fun e w' ⟨h1, h2⟩ => ⟨h1, Kept0.below h2⟩
end Go.Proofs.YtadcnfenchemhaaDoor
