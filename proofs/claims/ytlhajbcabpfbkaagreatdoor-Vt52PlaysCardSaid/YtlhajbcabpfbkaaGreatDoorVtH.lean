/-
  Feed, Reset, On, and what is asked of a terminal.
-/
import Derived.Test.YtlhajbcabpfbkaaGreatDoorVtE
namespace Go.Proofs.YtlhajbcabpfbkaaGreatDoor
open Go.RowKit
attribute [local go_sem] Oper.semAt_some

set_option maxRecDepth 100000 in
set_option maxHeartbeats 4000000 in
theorem feed_vt {w : World} {a : Bl} {v : Vt} (s : List UInt8) (hs : s.length ≤ 140737488351232) (h : VtIn w a v) (hp : v.pre.length ≤ 3) : Calls Tryz.prog 11 #[ptr a.tm, .string (Qu.str s)] w (Ends a (feedV s v) w) := by
  have H := Lib.hid h
  have hO : ∀ i, a.O i → i < w.heap.size := h.lt
  have h00 : 0 < w.heap.size := h.blank.lt
  clear h
  refine calls_marks Tryz.func11 rfl ?_
  simp only [Tryz.ntmps11, List.size_toArray, List.length_cons, List.length_nil, Nat.reduceAdd, Nat.reduceSub, Array.replicate_succ, Array.replicate_zero, List.push_toArray, List.append_toArray, List.nil_append, List.cons_append]
  go_upto_region 1 with fail
  obtain ⟨w1, hw1⟩ : ∃ w1, w1 = w.alloc (.cells #[ptr a.tm] 34) := ⟨_, rfl⟩
  have k1 : Kept0 w w1 := by rw [hw1]; exact (Kept.refl _ w).alloc _
  have c1 : w1.cell? ⟨w.heap.size, 0, none⟩ = some (ptr a.tm) := by rw [hw1]; simp [go_sem]
  have hs1 : w.heap.size + 1 = w1.heap.size := by rw [hw1]; simp
  rw [← hw1]
  clear hw1
  have K1 := Lib.hid k1
  clear k1
  go_wp2_with fail
  refine (counted_any a.tm (Qu.str s) _).mono ?_
  rintro e w2 ⟨rfl, hw2⟩
  have k2 : Kept0 w1 w2 := by rw [hw2]; exact ((Kept.refl _ w1).alloc _).alloc _
  have d1 : w2.cell? ⟨w1.heap.size, 0, none⟩ = some (ptr a.tm) := by rw [hw2]; simp [go_sem]
  have d2 : w2.cell? ⟨w1.heap.size + 1, 0, none⟩ = some (.string (Qu.str s)) := by rw [hw2]; simp [go_sem]
  have hs2 : w1.heap.size + 2 = w2.heap.size := by rw [hw2]; simp
  replace c1 := kcell k2 c1
  have K2 : Hid (Kept0 w w2) := K1.out.trans k2
  clear hw2 k2
  go_wp2_with fail
  have hV2 := H.out.kept0 K2.out
  have hOw : ∀ i, a.O i → i < w2.heap.size := hV2.lt
  have HV2 := Lib.hid hV2
  clear hV2
  refine wpIn_wide.1 (wp_rangeX (n := 0) (gf := 42) (lb := #[ptr (w1.heap.size + 1), ptr w1.heap.size]) rfl (enters_of Tryz.func42 (by kernel_rfl) rfl)
    (ι := Dw × List UInt8 × Vt)
    (fun i args W => ∃ f, args = #[.string (Qu.str i.2.1), f] ∧ VtIn W a i.2.2 ∧ LenOk i.1 i.2.1 ∧ ActF (w2.heap.size + 2) W i.1 f ∧ Kept a.O w2 W)
    (fun i W => VtIn W a (actV i.1 i.2.1 i.2.2) ∧ Kept a.O w2 W)
    (fun W => VtIn W a (feedV s v) ∧ Kept a.O w2 W)
    (fun _ _ _ h b => ⟨h.1.below b hOw (by omega), h.2.later (keptB b) (fun i hi e => absurd hi e)⟩)
    (fun _ _ h b => ⟨h.1.below b hOw (by omega), h.2.later (keptB b) (fun i hi e => absurd hi e)⟩)
    (fun _ _ _ h => by obtain ⟨f, rfl, _⟩ := h; rfl) ?_ ?_ ?_)
  · intro n l X W hb hsz hXc hX0 hY
    have kW : Kept a.O w2 W := ⟨hb.os, hb.tape, hb.output, hb.size, fun k hk _ => hb.block k hk⟩
    refine (counted_iter a (w1.heap.size + 1) w1.heap.size s hs n l (fun W1 => X W1 ∧ Kept a.O w2 W1) W v (HV2.out.below hb hOw (by omega)) hp ?_ ?_ ⟨hX0, kW⟩ ?_).mono ?_
    · rintro W1 ⟨_, k⟩
      exact ⟨kcellS k d2 (fun e => by have := hO _ e; omega), kcellS k d1 (fun e => by have := hO _ e; omega)⟩
    · rintro W1 W2 ⟨hx, k⟩ kk
      exact ⟨hXc W1 W2 hx (kk.mono (fun i _ e => e.imp (fun h => hOw i h) (fun h => by omega))), k.later kk (fun i hi e => e.elim id (fun h => by omega))⟩
    · rintro d sl f y W1 hV ⟨hx, k⟩ hL hA hsW
      rw [hsz] at hA
      obtain ⟨fn, tmps, assign, body, hy, hR⟩ := hY (d, sl, y) _ W1 ⟨f, rfl, hV, hL, hA, k⟩ hx
      refine ⟨fn, tmps, assign, body, hy, hR.mono ?_⟩
      rintro e W' ⟨h1, h2, h3, h4⟩
      exact ⟨h1, h2.1, ⟨h3, h2.2⟩, by rw [hsz]; exact h4⟩
    · rintro e W' ⟨h1, h2, h3, h4⟩
      exact ⟨h1, ⟨h2, h4⟩, h3⟩
  · rintro ⟨d, sl, y⟩ args W lo ⟨f, rfl, hV, hL, hA, hk⟩ hd hl
    simp only at hV hL hA
    obtain ⟨fn, caps, rfl, he, hc⟩ := hA
    have HV := Lib.hid hV
    have HC := Lib.hid hc
    have HK := Lib.hid hk
    have hsW := hk.size
    have hlW : w2.heap.size + 1 < W.heap.size := (Array.getElem?_eq_some_iff.1 hl).1
    have HE := Lib.hid he
    have HLn := Lib.hid hL
    clear hV hc hd hl hk he hL
    gi_wp2_with fail
    refine ⟨Kept.refl _ W, fun W2 hk2 => ?_⟩
    have HV2' : Hid (VtIn W2 a y) := HV.out.kept hk2 (fun i hi e => by have := hOw i hi; omega) (by omega)
    have HK2 : Hid (Kept a.O w2 W2) := HK.out.later hk2 (fun i hi e => by omega)
    have HC2 := Lib.hid (fun s' hl' => HC.out W2 a y s' (hk2.mono (fun i _ e => by subst e; omega)) HV2'.out hl')
    have c2 := kcellS HK2.out c1 (fun e => by have := hO _ e; omega)
    have hsW2 := hk2.size
    clear hk2 HC
    have he := HE.out
    gi_wp2_with fail
    refine ⟨trivial, rfl, (CallsIn.inRound _ (callsIn_wide.2 (HC2.out sl HLn.out))).mono ?_⟩
    rintro e W3 ⟨rfl, h3, k3⟩
    have H3 := Lib.hid h3
    have K3 : Hid (Kept a.O w2 W3) := HK2.out.trans k3
    have K3' : Hid (Kept (· < w2.heap.size) W2 W3) := k3.mono (fun i _ e => hOw i e)
    clear h3 k3 he
    gi_wp2_with fail
    exact ⟨K3'.out, H3.out, K3.out⟩
  · intro W ⟨hV, hk⟩ hD
    have HV := Lib.hid hV
    have HK := Lib.hid hk
    have hDl : w2.heap.size < W.heap.size := (Array.getElem?_eq_some_iff.1 hD).1
    clear hV hk
    go_wp2_with fail
    refine ⟨by simp, .inl ⟨_, _, rfl, run_takeDeferred hD, ?_⟩⟩
    have kF : Kept (· = w2.heap.size) W (W.putObj w2.heap.size (.deferred none)) := kept_putObj _ _ _
    refine ⟨_, results_none rfl _ _ _, rfl, HV.out.kept kF (fun i hi e => by have := hOw i hi; omega) (by omega), ?_⟩
    exact (Kept0.to K2.out).trans (HK.out.later kF (fun i hi e => by omega))
end Go.Proofs.YtlhajbcabpfbkaaGreatDoor
