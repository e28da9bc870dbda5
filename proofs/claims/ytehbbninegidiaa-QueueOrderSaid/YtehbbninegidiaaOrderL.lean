/-
  QueueOrder: what is fetched is what was taken, in order, each byte once, and there are never more bytes than the bound.
-/
import Derived.Test.YtehbbninegidiaaRgH
import Derived.Deep.DeepCutAuto
import Derived.Deep.CutBlock
namespace Go.Proofs.Ytehbbninegidiaa
open Go.RowKit Go.Maps

set_option maxRecDepth 100000 in
set_option maxHeartbeats 8000000 in
theorem order_in (most : Nat) (a : Option Addr) (cap : Nat) (l : List OpV) (h : most ≤ 4096) (w : World) (hl : OpsIn w a l) (hok : OpsOk l) (hn : l.length ≤ 9223372036854775807) : Calls Try.prog 4 #[.int .i64 (most : Int), .slice a l.length cap] w fun e w' => e = .returned (.bool true) ∧ Kept0 w w' := by
  have HF := Lib.hid (few_any a cap l)
  have HL0 := Lib.hid hl
  have HOK := Lib.hid hok
  obtain ⟨n, hnl⟩ : ∃ n, n = l.length := ⟨_, rfl⟩
  rw [← hnl] at HF hn ⊢
  have HN := Lib.hid hnl
  clear hnl hl hok
  have h0 : (⟨#[]⟩ : ByteArray) = str [] := rfl
  go_enter Try.func4, Try.ntmps4
  go_wp2_with fail
  refine (new_yes most w h).mono ?_
  rintro e w1 ⟨b, g, rfl, hq, hb, hg, k1⟩
  have HQ := Lib.hid hq
  have HK := Lib.hid k1
  clear hq k1
  go_wp2_with fail
  refine (HF.out _ (HL0.out.kept0 HK.out) HOK.out hn).mono ?_
  cases hf : fewB l with
  | false =>
    clear hf HF
    rintro e w2 ⟨rfl, rfl⟩
    go_wp2_with fail
    refine (awake_any _).mono ?_
    rintro e w4 ⟨rfl, hk4⟩
    go_wp2_with fail
    go_ret
    exact ⟨rfl, HK.out.trans hk4⟩
  | true =>
    have HFP := Lib.hid (few_parts hf)
    clear hf HF
    rintro e w2 ⟨rfl, rfl⟩
    go_wp2_with fail
    go_loopw [7, 8, 9] (fun s7 s8 i wr => ∃ (k : Nat) (gs xs : List UInt8) (over : Bool), k ≤ n ∧ i = .int .i64 (k : Int) ∧ s7 = .string (str (gs ++ xs)) ∧ s8 = .string (str gs) ∧ gs.length + xs.length ≤ total (l.take k) ∧ Hid (Qf wr b g most xs over) ∧ Hid (Kept0 w wr)) (fun _ _ i _ => n - (num i).toNat)
    case atStart => exact ⟨0, [], [], false, by omega, rfl, rfl, rfl, by simp [total], HQ, HK⟩
    case round =>
      clear HQ HK
      obtain ⟨k, gs, xs, over, hk, rfl, rfl, rfl, hT, HQ, HK⟩ := hrel
      by_cases hlt : k < n
      · obtain ⟨o, ho⟩ : ∃ o, l[k]? = some o := ⟨_, List.getElem?_eq_getElem (by rw [← HN.out]; exact hlt)⟩
        obtain ⟨bo, off, rfl, hO, hS⟩ := HL0.out k o ho
        have hO2 := hO.kept0 HK.out
        have c0 := hO2.ask
        have c1 := hO2.l
        have c2 := hO2.n
        have hts := total_step ho
        have htt := total_take_le l (k + 1)
        have htl := HFP.out.2.1
        obtain ⟨T', hT'⟩ : ∃ T', T' = total (l.take (k + 1)) := ⟨_, rfl⟩
        rw [← hT'] at hts htt
        have HT' := Lib.hid hT'
        have hT9 : gs.length + xs.length + sizes o.l ≤ T' := by omega
        have hTb : T' ≤ 20000 := by omega
        have HS := Lib.hid hS
        have HOo := Lib.hid (HOK.out k o ho)
        have hmx := HQ.out.len
        have hol20 := (HFP.out.2.2 k o ho).1
        have HSO : Hid (∀ T : Nat → Prop, (∀ i, i < w.heap.size → ¬ T i) → Off o.la o.l T) := fun T hT => off_old hS hT
        clear hT hts htt htl hT' ho hO hO2 hS
        obtain ⟨ol, hol⟩ : ∃ ol, ol = o.l.length := ⟨_, rfl⟩
        rw [← hol] at c1 hol20
        have HOL := Lib.hid hol
        clear hol
        have HLN : Hid (∀ W xs over, Qf W b g most xs over → Calls Try.prog 13 #[ptr b] W fun e w' => e = .returned (.int .i64 (xs.length : Int)) ∧ w' = W) := fun W xs over hq => len_any hq
        obtain ⟨P, hP⟩ : ∃ P, P = str (gs ++ xs) := ⟨_, rfl⟩
        obtain ⟨G, hG⟩ : ∃ G, G = str gs := ⟨_, rfl⟩
        obtain ⟨m, hm⟩ : ∃ m, m = xs.length := ⟨_, rfl⟩
        have HPG : Hid (P = str (gs ++ xs) ∧ G = str gs ∧ m = xs.length) := ⟨hP, hG, hm⟩
        have hPz : P.size = gs.length + m := by rw [hP, str_size, List.length_append, hm]
        have hGz : G.size = gs.length := by rw [hG, str_size]
        rw [← hP, ← hG]
        rw [← hm] at hT9 hmx
        have hz : wr.heap.size = wr.heap.size := rfl
        clear hP hG hm hz h0
        go_wp2_with fail
        obtain ⟨z, hz⟩ : ∃ z, z = wr.heap.size := ⟨_, rfl⟩
        obtain ⟨W, hW⟩ : ∃ W, W = wr.alloc (.cells #[.int .i64 o.ask, .slice o.la ol o.lcap, .int .i64 o.n] 35) := ⟨_, rfl⟩
        have hbl := HQ.out.lt
        have hgl := HQ.out.ltg
        have kW : Kept0 wr W := by rw [hW]; exact (Kept.refl _ wr).alloc _
        have hh : W.heap[z]? = some (.cells #[.int .i64 o.ask, .slice o.la ol o.lcap, .int .i64 o.n] 35 (0, 0)) := by rw [hW, hz]; exact heap_new wr _
        rw [← hz, ← hW]
        have d0 : W.cell? ⟨z, 0, none⟩ = some (.int .i64 o.ask) := by simp [World.cell?, hh]
        have d1 : W.cell? ⟨z, 1, none⟩ = some (.slice o.la ol o.lcap) := by simp [World.cell?, hh]
        have d2 : W.cell? ⟨z, 2, none⟩ = some (.int .i64 o.n) := by simp [World.cell?, hh]
        have hzb : z ≠ b ∧ z ≠ g := by omega
        replace HQ := Lib.hid (HQ.out.kept0 kW)
        replace HK := Lib.hid (HK.out.trans kW)
        replace HS : Hid (StrsIn W o.la o.l) := HS.out.kept0 HK.out
        clear hh hz hW kW hbl hgl c0 c1 c2
        refine (HLN.out _ _ _ HQ.out).mono ?_
        rw [← HPG.out.2.2]
        rintro e w4 ⟨rfl, rfl⟩
        go_upto_block 2 with fail
        go_cut [7, 8, 12, 13, 14, 15] from 54 to 135 (fun s7 s8 _ _ _ _ wx => ∃ gs' xs' over', s7 = .string (str (gs' ++ xs')) ∧ s8 = .string (str gs') ∧ gs'.length + xs'.length ≤ T' ∧ Hid (Qf wx b g most xs' over') ∧ Hid (Kept0 w wx))
        case first =>
          by_cases h0 : o.ask = 0
          · have e0 : (o.ask == 0) = true := by rw [h0]; rfl
            have q0 : (⟨#[]⟩ : ByteArray) = str (bytesOf (o.l.take 0)) := rfl
            clear h0
            go_wp2_with fail
            go_loopw [12, 13] (fun s12 s13 wx => ∃ j : Nat, j ≤ ol ∧ s13 = .int .i64 (j : Int) ∧ s12 = .string (str (bytesOf (o.l.take j))) ∧ w4 = wx) (fun _ s13 _ => ol - (num s13).toNat)
            case atStart => exact ⟨0, by omega, rfl, rfl, rfl⟩
            case round =>
              obtain ⟨j, hj, rfl, rfl, rfl⟩ := hrel
              by_cases hjl : j < ol
              · obtain ⟨s, hs1⟩ : ∃ s, o.l[j]? = some s := ⟨_, List.getElem?_eq_getElem (by rw [← HOL.out]; exact hjl)⟩
                obtain ⟨b2, off2, hla, hc, hsz⟩ := HS.out j s hs1
                have h1 := sizes_step hs1
                have h2 := sizes_take_le o.l (j + 1)
                have hAs : str (bytesOf (o.l.take j)) ++ s = str (bytesOf (o.l.take (j + 1))) := by
                  rw [bytes_step hs1]
                  exact str_append _ s.data.toList
                obtain ⟨A, hA⟩ : ∃ A, A = str (bytesOf (o.l.take j)) := ⟨_, rfl⟩
                have hAz : A.size + s.size ≤ 20000 := by rw [hA, str_size, len_bytesOf]; omega
                rw [← hA] at hAs ⊢
                have HAs := Lib.hid hAs
                rw [hla] at d1
                clear hA hAs hs1 h1 h2 hsz hla
                go_wp2_with fail
                rw [HAs.out]
                go_roundw
                case rel => exact ⟨j + 1, by omega, by go_num, rfl, by trivial⟩
                case measure => simp [num]; omega
              · obtain rfl : j = ol := by omega
                have ht : o.l.take j = o.l := by rw [HOL.out, List.take_length]
                rw [ht]
                have hbz : (str (bytesOf o.l)).size = sizes o.l := by rw [str_size, len_bytesOf]
                obtain ⟨A, hA⟩ : ∃ A, A = str (bytesOf o.l) := ⟨_, rfl⟩
                rw [← hA] at hbz ⊢
                have hPA : P ++ A = str (gs ++ (xs ++ bytesOf o.l)) := by rw [HPG.out.1, hA, str_append, List.append_assoc]
                have HPA := Lib.hid hPA
                have hlen : (xs ++ bytesOf o.l).length = m + sizes o.l := by rw [List.length_append, len_bytesOf, HPG.out.2.2]
                have HLEN := Lib.hid hlen
                obtain ⟨q, hq⟩ : ∃ q, q = sizes o.l := ⟨_, rfl⟩
                rw [← hq] at hbz hT9 HLEN
                clear hlen hPA hA ht hjl
                by_cases hf : m + q ≤ most
                · have HP := Lib.hid (push_yes o.la o.lcap o.l HQ.out HS.out (HSO.out _ (fun i hi => by omega)) HOo.out.l (by rw [← HPG.out.2.2, ← hq]; exact hf))
                  rw [← HOL.out] at HP
                  clear hq
                  have f1 : (m : Int) + (q : Int) ≤ (most : Int) := by omega
                  go_wp2_with fail
                  refine HP.out.mono ?_
                  rintro e w5 ⟨rfl, hq5, k5⟩
                  replace HQ := Lib.hid hq5
                  replace HK := Lib.hid (HK.out.later k5 (fun i hi e => by omega))
                  clear hq5 k5 HP
                  go_wp2_with fail
                  go_meet
                  exact ⟨gs, xs ++ bytesOf o.l, over, by rw [HPA.out], by rw [HPG.out.2.1], by rw [HLEN.out]; omega, HQ, HK⟩
                · have HP := Lib.hid (push_no o.la o.lcap o.l HQ.out HS.out HOo.out.l (by rw [← HPG.out.2.2, ← hq]; exact hf))
                  rw [← HOL.out] at HP
                  clear hq
                  have f1 : ¬ (m : Int) + (q : Int) ≤ (most : Int) := by omega
                  go_wp2_with fail
                  refine HP.out.mono ?_
                  rintro e w5 ⟨rfl, hq5, k5⟩
                  replace HQ := Lib.hid hq5
                  replace HK := Lib.hid (HK.out.later k5 (fun i hi e => by omega))
                  clear hq5 k5 HP
                  have HL5 := Lib.hid (len_any HQ.out)
                  have HV5 := Lib.hid (over_any HQ.out)
                  rw [← HPG.out.2.2] at HL5
                  go_wp2_with fail
                  refine HL5.out.mono ?_
                  rintro e w6 ⟨rfl, rfl⟩
                  go_wp2_with fail
                  refine HV5.out.mono ?_
                  rintro e w7 ⟨rfl, rfl⟩
                  go_wp2_with fail
                  go_meet
                  exact ⟨gs, xs, true, by rw [HPG.out.1], by rw [HPG.out.2.1], by have := HPG.out.2.2; omega, HQ, HK⟩
          · have e0 : (o.ask == 0) = false := by simpa using h0
            by_cases h1 : o.ask = 1
            · have e1 : (o.ask == 1) = true := by rw [h1]; rfl
              have HD := Lib.hid (drain_any HQ.out)
              obtain ⟨A, hA⟩ : ∃ A, A = str xs := ⟨_, rfl⟩
              have hAz : A.size = m := by rw [hA, str_size, HPG.out.2.2]
              have HGA : Hid (G ++ A = str (gs ++ xs)) := by unfold Hid; rw [HPG.out.2.1, hA, str_append]
              rw [← hA] at HD
              clear hA h0 h1
              go_wp2_with fail
              refine HD.out.mono ?_
              rintro e w5 ⟨rfl, hq5, k5⟩
              replace HQ := Lib.hid hq5
              replace HK := Lib.hid (HK.out.later k5 (fun i hi e => by omega))
              have HL5 := Lib.hid (len_any hq5)
              have HV5 := Lib.hid (over_any hq5)
              clear hq5 k5 HD
              go_wp2_with fail
              refine HL5.out.mono ?_
              rintro e w6 ⟨rfl, rfl⟩
              go_wp2_with fail
              refine HV5.out.mono ?_
              rintro e w7 ⟨rfl, rfl⟩
              go_wp2_with fail
              go_meet
              exact ⟨gs ++ xs, [], false, by rw [List.append_nil, HPG.out.1], by rw [HGA.out], by rw [List.length_append, List.length_nil]; have := HPG.out.2.2; omega, HQ, HK⟩
            · have e1 : (o.ask == 1) = false := by simpa using h1
              obtain ⟨t, ht⟩ : ∃ t, t = takeN o.n xs := ⟨_, rfl⟩
              have hsm := some_any o.n HQ.out
              rw [← ht] at hsm
              obtain ⟨A, hA⟩ : ∃ A, A = str (xs.take t) := ⟨_, rfl⟩
              rw [← hA] at hsm
              have htm : t ≤ m := by rw [ht, HPG.out.2.2]; unfold takeN; omega
              have htn : ¬ (if o.n < 0 then 0 else o.n) < (t : Int) := by rw [ht]; unfold takeN; split <;> omega
              have hAz : A.size = t := by rw [hA, str_size, List.length_take, ← HPG.out.2.2]; omega
              have HGA : Hid (G ++ A = str (gs ++ xs.take t)) := by unfold Hid; rw [HPG.out.2.1, hA, str_append]
              have HDL : Hid ((xs.drop t).length = m - t) := by unfold Hid; rw [List.length_drop, HPG.out.2.2]
              have HTL : Hid ((xs.take t).length = t) := by unfold Hid; rw [List.length_take, ← HPG.out.2.2]; omega
              have hsub : (m : Int) - ((m - t : Nat) : Int) = (t : Int) := by omega
              have HS1 := Lib.hid hsm
              clear hA ht hsm h0 h1
              go_wp2_with fail
              refine HS1.out.mono ?_
              rintro e w5 ⟨rfl, hq5, k5⟩
              replace HQ := Lib.hid hq5
              replace HK := Lib.hid (HK.out.later k5 (fun i hi e => by omega))
              have d2' : w5.cell? ⟨z, 2, none⟩ = some (.int .i64 o.n) := kcellS k5 d2 (by omega)
              have HL5 := Lib.hid (len_any hq5)
              rw [HDL.out] at HL5
              clear hq5 k5 HS1 d0 d1 d2
              have hGA : G.size + A.size ≤ 20000 := by omega
              go_wp2_with fail
              all_goals
                refine HL5.out.mono ?_
                rintro e w6 ⟨rfl, rfl⟩
                go_wp2_with fail
                go_meet
                exact ⟨gs ++ xs.take t, xs.drop t, over, by rw [HPG.out.1, List.append_assoc, List.take_append_drop], by rw [HGA.out], by rw [List.length_append, HTL.out, HDL.out]; omega, HQ, HK⟩
        case rest =>
        clear HS d0 d1 d2 HQ HK hzb HPG hPz hGz hmx hT9 HSO HOo
        obtain ⟨gs', xs', over', rfl, rfl, hT2, HQ, HK⟩ := hcut
        obtain ⟨P', hP⟩ : ∃ P', P' = str (gs' ++ xs') := ⟨_, rfl⟩
        obtain ⟨G', hG⟩ : ∃ G', G' = str gs' := ⟨_, rfl⟩
        obtain ⟨m', hm⟩ : ∃ m', m' = xs'.length := ⟨_, rfl⟩
        have hPz : P'.size = gs'.length + m' := by rw [hP, str_size, List.length_append, hm]
        have hGz : G'.size = gs'.length := by rw [hG, str_size]
        have hmx := HQ.out.len
        have hcutG : P'.extract 0 gs'.length = G' := by rw [hP, hG, cut_to, List.take_append_of_le_length (Nat.le_refl _), List.take_length]
        have HPG : Hid (P' = str (gs' ++ xs') ∧ G' = str gs') := ⟨hP, hG⟩
        have HL5 := Lib.hid (len_any HQ.out)
        rw [← hm] at hmx hT2 HL5
        rw [← hP, ← hG]
        have HM := Lib.hid hm
        clear hP hG hm
        obtain ⟨gl, hgl⟩ : ∃ gl, gl = gs'.length := ⟨_, rfl⟩
        have HGL := Lib.hid hgl
        rw [← hgl] at hPz hGz hcutG hT2
        clear hgl
        obtain ⟨pz, hpz⟩ : ∃ pz, pz = gl + m' := ⟨_, rfl⟩
        rw [← hpz] at hPz
        have hpm : (pz : Int) - (gl : Int) = (m' : Int) := by omega
        have hp1 : pz ≤ 20000 := by omega
        have hp2 : ¬ pz < gl := by omega
        have hp4 : gl ≤ pz := by omega
        have hp3 : ¬ most < m' := by omega
        have HT2 := Lib.hid hT2
        clear hpz hT2 hmx hTb
        go_wp2_with fail
        refine HL5.out.mono ?_
        rintro e w6 ⟨rfl, rfl⟩
        go_wp2_with fail
        refine HL5.out.mono ?_
        rintro e w7 ⟨rfl, rfl⟩
        go_wp2_with fail
        go_roundw
        case rel => exact ⟨k + 1, gs', xs', over', by omega, by go_num, by rw [HPG.out.1], by rw [HPG.out.2], by rw [← HT'.out, ← HGL.out, ← HM.out]; exact HT2.out, HQ, HK⟩
        case measure => simp [num]; omega
      · have HQ1 := Lib.hid (drain_any HQ.out)
        have hz1 := str_size gs
        have hz2 := str_size xs
        have hz3 : gs.length + xs.length ≤ 20000 := by
          have := total_take_le l k
          have := HFP.out.2.1
          omega
        have hcat := str_append gs xs
        clear h0 hT
        go_wp2_with fail
        refine HQ1.out.mono ?_
        rintro e w3 ⟨rfl, _, k3⟩
        replace HK := Lib.hid (HK.out.later k3 (fun i hi e => by omega))
        clear k3
        go_wp2_with fail
        refine (awake_any _).mono ?_
        rintro e w8 ⟨rfl, hk8⟩
        go_wp2_with fail
        go_ret
        exact ⟨rfl, HK.out.trans hk8⟩
set_option maxRecDepth 100000 in
set_option maxHeartbeats 4000000 in
theorem order_calls (most : Int) (a : Option Addr) (cap : Nat) (l : List OpV) (w : World) (hl : OpsIn w a l) (hok : OpsOk l) (hn : l.length ≤ 9223372036854775807) : Calls Try.prog 4 #[.int .i64 most, .slice a l.length cap] w fun e w' => e = .returned (.bool true) ∧ Below w.heap.size w w' := by
  by_cases h : 0 ≤ most ∧ most ≤ 4096
  · obtain ⟨m, rfl⟩ := Int.eq_ofNat_of_zero_le h.1
    exact (order_in m a cap l (by omega) w hl hok hn).mono fun e w' ⟨h1, h2⟩ => ⟨h1, Kept0.below h2⟩
  · have HN := Lib.hid (new_no most w h)
    clear hl hok hn h
    go_enter Try.func4, Try.ntmps4
    go_wp2_with fail
    refine HN.out.mono ?_
    rintro e w1 ⟨rfl, k1⟩
    have HK := Lib.hid k1
    clear k1
    go_wp2_with fail
    refine (awake_any _).mono ?_
    rintro e w4 ⟨rfl, hk4⟩
    go_wp2_with fail
    go_ret
    exact ⟨rfl, Kept0.below (HK.out.trans hk4)⟩
end Go.Proofs.Ytehbbninegidiaa
