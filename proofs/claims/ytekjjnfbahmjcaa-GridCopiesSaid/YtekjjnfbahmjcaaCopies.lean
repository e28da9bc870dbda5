/-
  GridCopies returns true: a copy is the same, and goes its own way; rows that are answered are the caller's.
-/
import Derived.Test.YtekjjnfbahmjcaaSameH
namespace Go.Proofs.Ytekjjnfbahmjcaa
open Go.RowKit

theorem Pair.kept0 {w w' : World} {g tg r tr R C : Nat} {f : Nat → Int} (h : Pair w g tg r tr R C f) (k : Kept0 w w') : Pair w' g tg r tr R C f := by
  obtain ⟨⟨c1, h1⟩, ⟨c2, h2⟩, a, b, c, d⟩ := h
  exact ⟨⟨c1, h1.kept k (fun e => e) (fun e => e)⟩, ⟨c2, h2.kept k (fun e => e) (fun e => e)⟩, a, b, c, d⟩

set_option maxRecDepth 100000 in
set_option maxHeartbeats 8000000 in
theorem copies_calls (a : Option Addr) (cap : Nat) (l : List OpV) (a2 : Option Addr) (cap2 : Nat) (m : List OpV) (w : World) (h : OpsIn w a l) (hok : OpsOk l) (hn : l.length ≤ 9223372036854775807)
    (h2 : OpsIn w a2 m) (hok2 : OpsOk m) (hn2 : m.length ≤ 9223372036854775807) :
    Calls Try.prog 4 #[.slice a l.length cap, .slice a2 m.length cap2] w fun e w' => e = .returned (.bool true) ∧ Below w.heap.size w w' := by
  obtain ⟨n, hnl⟩ : ∃ n, n = l.length := ⟨_, rfl⟩
  obtain ⟨n2, hnl2⟩ : ∃ n2, n2 = m.length := ⟨_, rfl⟩
  rw [← hnl, ← hnl2]
  have HN := Lib.hid hnl
  have HN2 := Lib.hid hnl2
  have hn2' : n2 ≤ 9223372036854775807 := by rw [HN2.out]; exact hn2
  clear hnl hnl2
  go_enter Try.func4, Try.ntmps4
  go_wp2_with fail
  rw [HN.out]
  refine (few_opt a cap l _ h hn).mono ?_
  rw [← HN.out]
  cases hf : fewB l with
  | false =>
    clear hf
    rintro e w2 ⟨rfl, hk2⟩
    go_wp2_with fail
    refine (awake_any _).mono ?_
    rintro e w3 ⟨rfl, hk3⟩
    go_wp2_with fail
    go_ret
    exact ⟨rfl, Kept0.below (hk2.trans hk3)⟩
  | true =>
    clear hf
    rintro e w2 ⟨rfl, hk2⟩
    go_wp2_with fail
    rw [HN2.out]
    refine (few_opt a2 cap2 m _ (h2.kept hk2) hn2).mono ?_
    rw [← HN2.out]
    cases hf : fewB m with
    | false =>
      clear hf
      rintro e w3 ⟨rfl, hk3⟩
      go_wp2_with fail
      refine (awake_any _).mono ?_
      rintro e w4 ⟨rfl, hk4⟩
      go_wp2_with fail
      go_ret
      exact ⟨rfl, Kept0.below ((hk2.trans hk3).trans hk4)⟩
    | true =>
      clear hf
      rintro e w3 ⟨rfl, hk3⟩
      have hk03 : Kept0 w w3 := hk2.trans hk3
      clear hk2 hk3
      go_wp2_with fail
      rw [HN.out]
      refine (begun_opt a cap l _ (h.kept hk03) hok hn).mono ?_
      rw [← HN.out]
      clear h hok hn
      rintro e w4 ⟨g, r, rfl, ⟨tg, tr, R, C, f, hP, _, _, _, _⟩, hk34⟩
      have hk04 : Kept0 w w4 := hk03.trans hk34
      clear hk03 hk34
      obtain ⟨⟨capg, hG⟩, ⟨capr, hR⟩, n1, n2', n3, n4⟩ := hP
      have hgl := hG.lt
      have htgl := hG.row.lt
      have hrl := hR.lt
      have htrl := hR.row.lt
      have hR2 := hG.R2
      have hC2 := hG.C2
      go_wp2_with fail
      refine (copy_any g tg capg R C f _ hG).mono ?_
      rintro e w5 ⟨c, tc, capc, rfl, hc5, htc5, hGc5, hk45⟩
      have hcl := hGc5.lt
      have htcl := hGc5.row.lt
      have hG5 := hG.kept hk45 (fun e => e) (fun e => e)
      go_wp2_with fail
      refine (rows_any g tg capg R C f _ hG5).mono ?_
      rintro e w6 ⟨lr, rfl, hlr, hRows, hk56⟩
      go_wp2_with fail
      have s5 := hk45.size
      have s6 := hk56.size
      go_loopw [9, 10] (fun s9 s10 wr => ∃ i : Nat, i ≤ R ∧ s9 = .int .i64 i ∧ (∃ F, RowsAt wr w5.heap.size lr R C F) ∧ Kept0 w5 wr) (fun s9 _ _ => R - (intOf s9).toNat)
      case atStart => exact ⟨0, by omega, rfl, ⟨_, hRows⟩, hk56⟩
      case round =>
        obtain ⟨i, hi, rfl, ⟨F, hF⟩, hkr⟩ := hrel
        by_cases hlt : i < R
        · go_wp2_with fail
          go_loopw [10] (fun s10 wq => ∃ k : Nat, k ≤ C ∧ s10 = .int .i64 k ∧ (∃ F, RowsAt wq w5.heap.size lr R C F) ∧ Kept0 w5 wq) (fun s10 _ => C - (intOf s10).toNat)
          case atStart => exact ⟨0, by omega, rfl, ⟨_, hF⟩, hkr⟩
          case round =>
            obtain ⟨k, hk, rfl, ⟨F2, hF2⟩, hkq⟩ := hrel
            obtain ⟨ti, ci, z1, z2, z3, z4⟩ := hF2.len i hlt
            by_cases hlt2 : k < C
            · have x1 := z4.cell hlt2
              have x2 := z4.frozen k
              have hkw := hkq.drew
              clear hF hkr
              go_wp2_with fail
              go_region
              go_wp2_with fail
              have s9 := hkq.size
              obtain ⟨F3, hF3⟩ := rows_set hF2 ti k (wrap64 (F2 i k + 1)) z3
              refine ⟨⟨k + 1, by omega, by go_num, ⟨F3, ⟨fun j hj => hF3.len j hj⟩⟩, (hkq.setCell _ (Or.inl z2) _).drew⟩, by simp [intOf]; omega⟩
            · go_wp2_with fail
              go_roundw
              case rel => exact ⟨i + 1, by omega, by go_num, ⟨_, hF2⟩, hkq⟩
              case measure => simp [intOf]; omega
        · go_wp2_with fail
          clear hF hRows hk56
          have k4r : Kept0 w4 wr := hk45.trans hkr
          have k0r : Kept0 w wr := hk04.trans k4r
          have hGcr := hGc5.kept hkr (fun e => e) (fun e => e)
          have hGr := hG.kept k4r (fun e => e) (fun e => e)
          have hRr := hR.kept k4r (fun e => e) (fun e => e)
          have srr := hkr.size
          refine (same_any wr c tc r tr R C f ⟨⟨_, hGcr⟩, ⟨_, hRr⟩, by omega, by omega, by omega, by omega⟩).mono ?_
          rintro e w7 ⟨rfl, hk7⟩
          go_wp2_with fail
          refine (sameG_any _ g tg capg c tc capc R C f f (hGr.kept hk7 (fun e => e) (fun e => e)) (hGcr.kept hk7 (fun e => e) (fun e => e))).mono ?_
          rw [sameF_refl]
          rintro e w8 ⟨rfl, hk8⟩
          have hk78 := hk7.trans hk8
          go_wp2_with fail
          refine (sameG_any _ c tc capc g tg capg R C f f (hGcr.kept hk78 (fun e => e) (fun e => e)) (hGr.kept hk78 (fun e => e) (fun e => e))).mono ?_
          rw [sameF_refl]
          rintro e w9 ⟨rfl, hk9⟩
          have hk79 := hk78.trans hk9
          go_wp2_with fail
          refine (copyR r tr capr R C f _ (hRr.kept hk79 (fun e => e) (fun e => e))).mono ?_
          rintro e w10 ⟨o, tq, capo, rfl, ho10, hto10, hRo, hk910⟩
          have k410 : Kept0 w4 w10 := (k4r.trans hk79).trans hk910
          have hGc10 := (hGcr.kept hk79 (fun e => e) (fun e => e)).kept hk910 (fun e => e) (fun e => e)
          have s10 := hk79.size
          have hP0 : ∃ tc' tq' R' C' f', Pair w10 c tc' o tq' R' C' f' ∧ w4.heap.size ≤ c ∧ w4.heap.size ≤ tc' ∧ w4.heap.size ≤ o ∧ w4.heap.size ≤ tq' :=
            ⟨tc, tq, R, C, f, ⟨⟨_, hGc10⟩, ⟨_, hRo⟩, by omega, by omega, by omega, by omega⟩, by omega, by omega, by omega, by omega⟩
          clear hk7 hk8 hk9 hk78 hk79 hk910 hGcr hGr hRr k4r k0r hkr hGc10 hRo ho10 hto10 hGc5 hG5
          go_wp2_with fail
          go_loopw [11, 12, 13, 14] (fun s11 s12 s13 s14 wd => ∃ k o : Nat, k ≤ n2 ∧ s12 = .int .i64 k ∧ s11 = .pointer (some ⟨o, 0, none⟩) ∧ (∃ tc' tq' R' C' f', Pair wd c tc' o tq' R' C' f' ∧ w4.heap.size ≤ c ∧ w4.heap.size ≤ tc' ∧ w4.heap.size ≤ o ∧ w4.heap.size ≤ tq') ∧ Kept0 w4 wd) (fun _ s12 _ _ _ => n2 - (intOf s12).toNat)
          case atStart => exact ⟨0, o, by omega, rfl, rfl, hP0, k410⟩
          case round =>
            clear hP0 k410
            obtain ⟨k, o9, hk, rfl, rfl, ⟨tc9, tq9, R9, C9, f9, hP9, b1, b2, b3, b4⟩, hkd⟩ := hrel
            by_cases hlt9 : k < n2
            · obtain ⟨op, hop⟩ : ∃ op, m[k]? = some op := ⟨_, List.getElem?_eq_getElem (by rw [← HN2.out]; exact hlt9)⟩
              have hon := hok2 k op hop
              have HON := Lib.hid hon
              obtain ⟨b, off, rfl, hO⟩ := (h2.kept (hk04.trans hkd)) k op hop
              clear hop hon
              have c0 := hO.ask
              have c1 := hO.ar
              have c2 := hO.ac
              have c3 := hO.br
              have c4 := hO.bc
              have c5 := hO.n
              have c6 := hO.x
              go_wp2_with fail
              refine (does_any _ c tc9 o9 tq9 R9 C9 f9 op hP9 HON.out).mono ?_
              rintro e w11 ⟨r', tg', tr', R', C', f', rfl, hP11, hk11, q1, q2, q3⟩
              have hsz := hkd.size
              have hk411 : Kept0 w4 w11 := hkd.later hk11 (fun i hi e => by omega)
              have hNP : ∃ tc' tq' R' C' f', Pair w11 c tc' r' tq' R' C' f' ∧ w4.heap.size ≤ c ∧ w4.heap.size ≤ tc' ∧ w4.heap.size ≤ r' ∧ w4.heap.size ≤ tq' := ⟨tg', tr', R', C', f', hP11, b1, by omega, by omega, by omega⟩
              clear c0 c1 c2 c3 c4 c5 c6 hP11 hk11 q1 q2 q3 hP9
              go_wp2_with fail
              go_roundw
              case rel => exact ⟨k + 1, r', by omega, by go_num, rfl, hNP, hk411⟩
              case measure => simp [intOf]; omega
            · go_wp2_with fail
              have hGd := hG.kept hkd (fun e => e) (fun e => e)
              have hRd := hR.kept hkd (fun e => e) (fun e => e)
              have hP9' := hP9
              obtain ⟨⟨cap9, hGc9⟩, ⟨capo9, hRo9⟩, _, _, _, _⟩ := hP9'
              have r0 := hRd.c0
              have r1 := hRd.c1
              have r2 := hRd.c2
              have o0 := hRo9.c0
              have o1 := hRo9.c1
              have o2 := hRo9.c2
              by_cases hsz : R9 = R ∧ C9 = C
              · obtain ⟨e1, e2⟩ := hsz
                rw [e1, e2] at hP9 hGc9 hRo9 o2
                rw [e1] at o0
                rw [e2] at o1
                clear e1 e2
                have hRC : R * C ≤ 65025 := Nat.mul_le_mul hR2 hC2
                obtain ⟨bb, hbb⟩ : ∃ bb, sameF f9 f (R * C) = bb := ⟨_, rfl⟩
                have HBB := Lib.hid hbb
                have hints : ∀ nn, Calls Try.prog 23 #[.slice (some ⟨tq9, 0, none⟩) (R * C) capo9, .slice (some ⟨tr, 0, none⟩) (R * C) capr] (wr.drewN nn) fun e w' => e = .returned (.bool bb) ∧ ∃ m, w' = (wr.drewN nn).drewN m := fun nn => by
                  have := ints_q tq9 capo9 tr capr (R * C) f9 f (wr.drewN nn) hRC (hRo9.row.drewN nn) (hRd.row.drewN nn)
                  rwa [HBB.out] at this
                clear hbb
                have HI := Lib.hid hints
                clear hints
                obtain ⟨N, hN⟩ : ∃ N, N = R * C := ⟨_, rfl⟩
                rw [← hN] at r2 o2
                have HNN := Lib.hid hN
                clear hN hRC
                go_quiet ((go_at_call 23; rw [HNN.out]; exact Calls.quiet_of (HI.out _)))
                have hkx := (Kept.refl (fun _ => False) wr).drewN nq
                clear r0 r1 r2 o0 o1 o2
                go_wp2_with fail
                refine (same_any _ g tg r tr R C f ⟨⟨_, hGd.kept hkx (fun e => e) (fun e => e)⟩, ⟨_, hRd.kept hkx (fun e => e) (fun e => e)⟩, n1, n2', n3, n4⟩).mono ?_
                rintro e v1 ⟨rfl, hv1⟩
                have hx1 := hkx.trans hv1
                go_wp2_with fail
                refine (same_any _ c tc9 o9 tq9 R C f9 (hP9.kept0 hx1)).mono ?_
                rintro e v2 ⟨rfl, hv2⟩
                have hx2 := hx1.trans hv2
                go_wp2_with fail
                refine (sameG_any _ g tg capg c tc9 cap9 R C f f9 (hGd.kept hx2 (fun e => e) (fun e => e)) (hGc9.kept hx2 (fun e => e) (fun e => e))).mono ?_
                rw [sameF_symm, HBB.out]
                rintro e v3 ⟨rfl, hv3⟩
                have hx3 := hx2.trans hv3
                cases bb
                all_goals
                  go_wp2_with fail
                  refine (sameG_nil1 g _).mono ?_
                  rintro e v4 ⟨rfl, hv4⟩
                  go_wp2_with fail
                  refine (sameG_nil2 g _).mono ?_
                  rintro e v5 ⟨rfl, hv5⟩
                  go_wp2_with fail
                  refine (sameG_nil3 _).mono ?_
                  rintro e v6 ⟨rfl, hv6⟩
                  go_wp2_with fail
                  refine (awake_any _).mono ?_
                  rintro e v7 ⟨rfl, hv7⟩
                  go_wp2_with fail
                  go_ret
                  exact ⟨rfl, Kept0.below ((((((hk04.trans hkd).trans hx3).trans hv4).trans hv5).trans hv6).trans hv7)⟩
              · have HSZ := Lib.hid hsz
                by_cases e1 : R9 = R
                · have e2 : ¬ C9 = C := fun e => hsz ⟨e1, e⟩
                  rw [e1] at o0
                  have d1 : ((C9 : Int) == (C : Int)) = false := by simp only [beq_eq_false_iff_ne, ne_eq]; omega
                  have d2 : (C9 == C) = false := by simpa using e2
                  have d3 : decide (C9 = C) = false := by simpa using e2
                  clear hsz e1
                  go_quiet (fail)
                  have hkx := (Kept.refl (fun _ => False) wr).drewN nq
                  clear r0 r1 r2 o0 o1 o2 e2
                  go_wp2_with fail
                  refine (same_any _ g tg r tr R C f ⟨⟨_, hGd.kept hkx (fun e => e) (fun e => e)⟩, ⟨_, hRd.kept hkx (fun e => e) (fun e => e)⟩, n1, n2', n3, n4⟩).mono ?_
                  rintro e v1 ⟨rfl, hv1⟩
                  have hx1 := hkx.trans hv1
                  go_wp2_with fail
                  refine (same_any _ c tc9 o9 tq9 R9 C9 f9 (hP9.kept0 hx1)).mono ?_
                  rintro e v2 ⟨rfl, hv2⟩
                  have hx2 := hx1.trans hv2
                  go_wp2_with fail
                  refine (sameG_ne _ g tg capg c tc9 cap9 R C R9 C9 f f9 (hGd.kept hx2 (fun e => e) (fun e => e)) (hGc9.kept hx2 (fun e => e) (fun e => e)) HSZ.out).mono ?_
                  rintro e v3 ⟨rfl, hv3⟩
                  have hx3 := hx2.trans hv3
                  all_goals
                    go_wp2_with fail
                    refine (sameG_nil1 g _).mono ?_
                    rintro e v4 ⟨rfl, hv4⟩
                    go_wp2_with fail
                    refine (sameG_nil2 g _).mono ?_
                    rintro e v5 ⟨rfl, hv5⟩
                    go_wp2_with fail
                    refine (sameG_nil3 _).mono ?_
                    rintro e v6 ⟨rfl, hv6⟩
                    go_wp2_with fail
                    refine (awake_any _).mono ?_
                    rintro e v7 ⟨rfl, hv7⟩
                    go_wp2_with fail
                    go_ret
                    exact ⟨rfl, Kept0.below ((((((hk04.trans hkd).trans hx3).trans hv4).trans hv5).trans hv6).trans hv7)⟩
                · have d1 : ((R9 : Int) == (R : Int)) = false := by simp only [beq_eq_false_iff_ne, ne_eq]; omega
                  have d2 : (R9 == R) = false := by simpa using e1
                  have d3 : decide (R9 = R) = false := by simpa using e1
                  clear hsz
                  go_quiet (fail)
                  have hkx := (Kept.refl (fun _ => False) wr).drewN nq
                  clear r0 r1 r2 o0 o1 o2 e1
                  go_wp2_with fail
                  refine (same_any _ g tg r tr R C f ⟨⟨_, hGd.kept hkx (fun e => e) (fun e => e)⟩, ⟨_, hRd.kept hkx (fun e => e) (fun e => e)⟩, n1, n2', n3, n4⟩).mono ?_
                  rintro e v1 ⟨rfl, hv1⟩
                  have hx1 := hkx.trans hv1
                  go_wp2_with fail
                  refine (same_any _ c tc9 o9 tq9 R9 C9 f9 (hP9.kept0 hx1)).mono ?_
                  rintro e v2 ⟨rfl, hv2⟩
                  have hx2 := hx1.trans hv2
                  go_wp2_with fail
                  refine (sameG_ne _ g tg capg c tc9 cap9 R C R9 C9 f f9 (hGd.kept hx2 (fun e => e) (fun e => e)) (hGc9.kept hx2 (fun e => e) (fun e => e)) HSZ.out).mono ?_
                  rintro e v3 ⟨rfl, hv3⟩
                  have hx3 := hx2.trans hv3
                  all_goals
                    go_wp2_with fail
                    refine (sameG_nil1 g _).mono ?_
                    rintro e v4 ⟨rfl, hv4⟩
                    go_wp2_with fail
                    refine (sameG_nil2 g _).mono ?_
                    rintro e v5 ⟨rfl, hv5⟩
                    go_wp2_with fail
                    refine (sameG_nil3 _).mono ?_
                    rintro e v6 ⟨rfl, hv6⟩
                    go_wp2_with fail
                    refine (awake_any _).mono ?_
                    rintro e v7 ⟨rfl, hv7⟩
                    go_wp2_with fail
                    go_ret
                    exact ⟨rfl, Kept0.below ((((((hk04.trans hkd).trans hx3).trans hv4).trans hv5).trans hv6).trans hv7)⟩
end Go.Proofs.Ytekjjnfbahmjcaa
