/-
  The chapter's example.
-/
import Derived.Test.YtkdnjkcebfckiaaPens
import Derived.Test.YtkdnjkcebfckiaaPut
namespace Go.Proofs.Ytkdnjkcebfckiaa
open Go.RowKit

def abT : ByteArray := ⟨#[97, 98]⟩
def cdT : ByteArray := ⟨#[99, 100]⟩
def cxT : ByteArray := ⟨#[99, 120]⟩

theorem strs_two (w : World) : StrsIn (w.alloc (.cells #[.string abT, .string cdT] 9)) (some ⟨w.heap.size, 0, none⟩) [abT, cdT] := by
  intro i s hs
  have hi : i < 2 := by have := (List.getElem?_eq_some_iff.1 hs).1; simpa using this
  rcases (show i = 0 ∨ i = 1 by omega) with rfl | rfl
  · simp at hs
    subst hs
    exact ⟨_, _, rfl, by simp [go_sem], by decide⟩
  · simp at hs
    subst hs
    exact ⟨_, _, rfl, by simp [go_sem], by decide⟩
theorem strs_one (w : World) : StrsIn (w.alloc (.cells #[.string cxT] 9)) (some ⟨w.heap.size, 0, none⟩) [cxT] := by
  intro i s hs
  have hi : i < 1 := by have := (List.getElem?_eq_some_iff.1 hs).1; simpa using this
  obtain rfl : i = 0 := by omega
  simp at hs
  subst hs
  exact ⟨_, _, rfl, by simp [go_sem], by decide⟩

set_option maxHeartbeats 4000000 in
set_option maxRecDepth 100000 in
theorem awake_any (w : World) : Calls Try.prog 10 #[] w fun e w' => e = .returned (.bool true) ∧ Kept0 w w' := by
  have HM : Hid (∀ w : World, Calls Try.prog 11 #[.agg #[.slice (some ⟨w.heap.size, 0, none⟩) 2 2, .int .i64 2]] (w.alloc (.cells #[.string abT, .string cdT] 9)) fun e w' => ∃ g t cap g' t' cap', e = .returned (.tuple #[.pointer (some ⟨g, 0, none⟩), .pointer (some ⟨g', 0, none⟩)]) ∧ w.heap.size < g ∧ w.heap.size < t ∧
      GridAt w' g t cap 2 2 (boardF 2 [abT, cdT]) ∧ Kept0 (w.alloc (.cells #[.string abT, .string cdT] 9)) w') := fun w => by
    have h0 := made_any (some ⟨w.heap.size, 0, none⟩) 2 2 [abT, cdT] (w.alloc (.cells #[.string abT, .string cdT] 9)) (strs_two w) (by decide) (by decide) (by omega) (by omega)
    rw [show ([abT, cdT] : List ByteArray).length = 2 from rfl, show ((2 : Nat) : Int) = 2 from rfl] at h0
    refine h0.mono ?_
    rintro e w' ⟨g, t, cap, g', t', cap', h, h1, h2, _, _, _, _, _, _, h3, _, h4⟩
    rw [World.size_alloc] at h1 h2
    exact ⟨g, t, cap, g', t', cap', h, h1, h2, h3, h4⟩
  have HM1 : Hid (∀ w : World, Calls Try.prog 11 #[.agg #[.slice (some ⟨w.heap.size, 0, none⟩) 1 1, .int .i64 2]] (w.alloc (.cells #[.string cxT] 9)) fun e w' => ∃ g t cap g' t' cap', e = .returned (.tuple #[.pointer (some ⟨g, 0, none⟩), .pointer (some ⟨g', 0, none⟩)]) ∧ w.heap.size < g' ∧ w.heap.size < t' ∧
      RefAt w' g' t' cap' 1 2 (boardF 2 [cxT]) ∧ Kept0 (w.alloc (.cells #[.string cxT] 9)) w' ∧ cap = cap ∧ t = t) := fun w => by
    have h0 := made_any (some ⟨w.heap.size, 0, none⟩) 1 2 [cxT] (w.alloc (.cells #[.string cxT] 9)) (strs_one w) (by decide) (by decide) (by omega) (by omega)
    rw [show ([cxT] : List ByteArray).length = 1 from rfl, show ((2 : Nat) : Int) = 2 from rfl] at h0
    refine h0.mono ?_
    rintro e w' ⟨g, t, cap, g', t', cap', h, _, _, h1, h2, _, _, _, _, _, h3, h4⟩
    rw [World.size_alloc] at h1 h2
    exact ⟨g, t, cap, g', t', cap', h, h1, h2, h3, h4, rfl, rfl⟩
  have HP1 : Hid (putR 2 2 1 1 false 2 = 1) := by show _ = _; decide
  have HP2 : Hid (putC 2 1 false 2 = 0) := by show _ = _; decide
  have HP3 : Hid (putP 2 1 false 2 = false) := by show _ = _; decide
  have HP4 : Hid (putN 2 2 1 1 false 2 = 1) := by show _ = _; decide
  have HA : Hid (putF 2 2 (boardF 2 [abT, cdT]) 1 1 false (celB 120) 2 (celB 32) (idx 2 0 0) = celB 99) := by show _ = _; decide
  have HB : Hid (putF 2 2 (boardF 2 [abT, cdT]) 1 1 false (celB 120) 2 (celB 32) (idx 2 0 1) = celB 120) := by show _ = _; decide
  have HC2 : Hid (putF 2 2 (boardF 2 [abT, cdT]) 1 1 false (celB 120) 2 (celB 32) (idx 2 1 0) = celB 32) := by show _ = _; decide
  have HD1 : Hid (boardF 2 [cxT] (idx 2 0 0) = celB 99) := by show _ = _; decide
  have HD2 : Hid (boardF 2 [cxT] (idx 2 0 1) = celB 120) := by show _ = _; decide
  have hT1 : Hid (There 2 2 0 0) := ⟨by omega, by omega, by omega, by omega⟩
  have hT2 : Hid (There 2 2 0 1) := ⟨by omega, by omega, by omega, by omega⟩
  have hT3 : Hid (There 2 2 1 0) := ⟨by omega, by omega, by omega, by omega⟩
  have hT4 : Hid (There 1 2 0 0) := ⟨by omega, by omega, by omega, by omega⟩
  have hT5 : Hid (There 1 2 0 1) := ⟨by omega, by omega, by omega, by omega⟩
  have HC : Hid (∀ (b : Int) (w : World), 0 ≤ b → b ≤ 255 → Calls Try.prog 12 #[.int .u8 b] w fun e w' => e = .returned (celB b).v ∧ Kept0 w w') := fun b w => cellL b w
  have h32 := same_cel (celB 32)
  have h99 := same_cel (celB 99)
  have h120 := same_cel (celB 120)
  have hsp := same_place 1 0 false
  generalize hF : boardF 2 [abT, cdT] = F at *
  generalize hG : boardF 2 [cxT] = G at *
  unfold abT cdT at HM
  unfold cxT at HM1
  generalize hcb : celB = cB at *
  clear hF hcb hG
  go_enter Try.func10, Try.ntmps10
  go_wp2_with fail
  refine (HM.out w).mono ?_
  rintro e w1 ⟨g, t, cap, gq, tq, capq, rfl, n1, n2, hg, k1⟩
  have kk1 : Kept0 w w1 := ((Kept.refl _ w).alloc _).trans k1
  clear k1
  go_wp2_with fail
  refine (HM1.out w1).mono ?_
  rintro e w2 ⟨gx, tx, capx, gr, tr, capr, rfl, n3, n4, hr, k2, _, _⟩
  have kk2 : Kept0 w1 w2 := ((Kept.refl _ w1).alloc _).trans k2
  have hg2 := hg.kept kk2 (fun e => e) (fun e => e)
  have hgl := hg.lt
  have htl := hg.row.lt
  replace kk1 := kk1.trans kk2
  clear k2 kk2 hg HM HM1
  go_wp2_with fail
  refine (HC.out 120 _ (by omega) (by omega)).mono ?_
  rintro e w3 ⟨rfl, k3⟩
  go_wp2_with fail
  refine (HC.out 32 _ (by omega) (by omega)).mono ?_
  rintro e w4 ⟨rfl, k4⟩
  replace k4 := k3.trans k4
  replace hg2 := hg2.kept k4 (fun e => e) (fun e => e)
  replace hr := hr.kept k4 (fun e => e) (fun e => e)
  replace kk1 := kk1.trans k4
  clear k3 k4
  go_wp2_with fail
  refine (put_any g t cap 2 2 F 1 1 2 false (cB 120) (cB 32) w4 hg2).mono ?_
  rintro e w5 ⟨rfl, hg5, k5⟩
  rw [HP1.out, HP2.out, HP3.out, HP4.out]
  have hr5 := hr.kept k5 (by omega) (by omega)
  replace kk1 : Kept0 w w5 := kk1.later k5 (fun i hi e => by omega)
  clear k5 hg2 hr HP1 HP2 HP3 HP4
  obtain ⟨X0, hX0⟩ : ∃ X0, X0 = w5.alloc (.cells #[.int .i64 1, .int .i64 0, .bool false] 39) := ⟨_, rfl⟩
  have kX0 : Kept0 w5 X0 := by rw [hX0]; exact (Kept.refl _ w5).alloc _
  have hpl : Three X0 w5.heap.size 1 0 false := by rw [hX0]; exact Three.of (heap_new w5 _)
  go_wp2_with fail
  rw [← hX0]
  clear hX0
  have hgX := Lib.hid (hg5.kept kX0 (fun e => e) (fun e => e))
  have hrX := Lib.hid (hr5.kept kX0 (fun e => e) (fun e => e))
  have KX := Lib.hid (kk1.trans kX0)
  clear hg5 hr5 kk1 kX0
  refine (at_in g t cap 2 2 _ 0 0 X0 hgX.out hT1.out).mono ?_
  rw [HA.out]
  rintro e v1 ⟨rfl, kv1⟩
  obtain ⟨X1, hX1⟩ : ∃ X1, X1 = v1.alloc (.cells #[.int .i32 (cB 99).g, .int .i64 (cB 99).a, .bool (cB 99).b, .int .i64 (cB 99).m] 36) := ⟨_, rfl⟩
  have kX1 : Kept0 v1 X1 := by rw [hX1]; exact (Kept.refl _ v1).alloc _
  have hc1 : CelAt X1 v1.heap.size (cB 99) := by rw [hX1]; exact CelAt.new v1 (cB 99) 36
  go_wp2_with fail
  rw [← hX1]
  clear hX1
  have kz1 := kv1.trans kX1
  replace hgX := Lib.hid (hgX.out.kept kz1 (fun e => e) (fun e => e))
  replace hrX := Lib.hid (hrX.out.kept kz1 (fun e => e) (fun e => e))
  replace KX := Lib.hid (KX.out.trans kz1)
  replace hpl := hpl.kept0 kz1
  clear kv1 kX1 kz1
  refine (at_in g t cap 2 2 _ 0 1 X1 hgX.out hT2.out).mono ?_
  rw [HB.out]
  rintro e v2 ⟨rfl, kv2⟩
  obtain ⟨X2, hX2⟩ : ∃ X2, X2 = v2.alloc (.cells #[.int .i32 (cB 120).g, .int .i64 (cB 120).a, .bool (cB 120).b, .int .i64 (cB 120).m] 36) := ⟨_, rfl⟩
  have kX2 : Kept0 v2 X2 := by rw [hX2]; exact (Kept.refl _ v2).alloc _
  have hc2 : CelAt X2 v2.heap.size (cB 120) := by rw [hX2]; exact CelAt.new v2 (cB 120) 36
  go_wp2_with fail
  rw [← hX2]
  clear hX2
  have kz2 := kv2.trans kX2
  replace hgX := Lib.hid (hgX.out.kept kz2 (fun e => e) (fun e => e))
  replace hrX := Lib.hid (hrX.out.kept kz2 (fun e => e) (fun e => e))
  replace KX := Lib.hid (KX.out.trans kz2)
  replace hpl := hpl.kept0 kz2
  replace hc1 := hc1.kept kz2 (fun e => e)
  clear kv2 kX2 kz2
  refine (at_in g t cap 2 2 _ 1 0 X2 hgX.out hT3.out).mono ?_
  rw [HC2.out]
  rintro e v3 ⟨rfl, kv3⟩
  obtain ⟨X3, hX3⟩ : ∃ X3, X3 = v3.alloc (.cells #[.int .i32 (cB 32).g, .int .i64 (cB 32).a, .bool (cB 32).b, .int .i64 (cB 32).m] 36) := ⟨_, rfl⟩
  have kX3 : Kept0 v3 X3 := by rw [hX3]; exact (Kept.refl _ v3).alloc _
  have hc3 : CelAt X3 v3.heap.size (cB 32) := by rw [hX3]; exact CelAt.new v3 (cB 32) 36
  go_wp2_with fail
  rw [← hX3]
  clear hX3
  have kz3 := kv3.trans kX3
  replace hgX := Lib.hid (hgX.out.kept kz3 (fun e => e) (fun e => e))
  replace hrX := Lib.hid (hrX.out.kept kz3 (fun e => e) (fun e => e))
  replace KX := Lib.hid (KX.out.trans kz3)
  replace hpl := hpl.kept0 kz3
  replace hc1 := hc1.kept kz3 (fun e => e)
  replace hc2 := hc2.kept kz3 (fun e => e)
  clear kv3 kX3 kz3
  clear hgX HA HB HC2 hT1 hT2 hT3
  obtain ⟨p0, p1, p2, p3, p4, p5⟩ := hpl
  obtain ⟨c10, c11, c12, c13⟩ := hc1
  obtain ⟨c20, c21, c22, c23⟩ := hc2
  obtain ⟨c30, c31, c32, c33⟩ := hc3
  have KD : Hid (Kept0 X3 X3.drew) := (Kept.refl _ X3).drew
  go_region_held3 (fun w' => w'.cell? ⟨w5.heap.size, 0, none⟩ = some (.int .i64 1) ∧ w'.cell? ⟨w5.heap.size, 1, none⟩ = some (.int .i64 0) ∧ w'.cell? ⟨w5.heap.size, 2, none⟩ = some (.bool false) ∧ w'.cell? ⟨v1.heap.size, 0, none⟩ = some (.int .i32 (cB 99).g) ∧ w'.cell? ⟨v1.heap.size, 1, none⟩ = some (.int .i64 (cB 99).a) ∧ w'.cell? ⟨v1.heap.size, 2, none⟩ = some (.bool (cB 99).b) ∧ w'.cell? ⟨v1.heap.size, 3, none⟩ = some (.int .i64 (cB 99).m) ∧ w'.cell? ⟨v2.heap.size, 0, none⟩ = some (.int .i32 (cB 120).g) ∧ w'.cell? ⟨v2.heap.size, 1, none⟩ = some (.int .i64 (cB 120).a) ∧ w'.cell? ⟨v2.heap.size, 2, none⟩ = some (.bool (cB 120).b) ∧ w'.cell? ⟨v2.heap.size, 3, none⟩ = some (.int .i64 (cB 120).m) ∧ w'.cell? ⟨v3.heap.size, 0, none⟩ = some (.int .i32 (cB 32).g) ∧ w'.cell? ⟨v3.heap.size, 1, none⟩ = some (.int .i64 (cB 32).a) ∧ w'.cell? ⟨v3.heap.size, 2, none⟩ = some (.bool (cB 32).b) ∧ w'.cell? ⟨v3.heap.size, 3, none⟩ = some (.int .i64 (cB 32).m) ∧ Hid (Kept0 X3 w')) (go_keep)
    (first
      | (go_at_call 33; have hy := hfirst; refine (getR gr tr capr 1 2 G 0 1 _ (hrX.out.kept (Hid.out (by assumption)) (fun e => e) (fun e => e)) hT5.out).mono ?_; rw [HD2.out]; rintro e9 w6 ⟨rfl, hk6⟩; have kn : Hid (Kept0 X3 w6) := Kept.trans (Hid.out (by assumption)) hk6; have q0 := kcell kn.out p0; have q1 := kcell kn.out p1; have q2 := kcell kn.out p2; have q3 := kcell kn.out c10; have q4 := kcell kn.out c11; have q5 := kcell kn.out c12; have q6 := kcell kn.out c13; have q7 := kcell kn.out c20; have q8 := kcell kn.out c21; have q9 := kcell kn.out c22; have q10 := kcell kn.out c23; have q11 := kcell kn.out c30; have q12 := kcell kn.out c31; have q13 := kcell kn.out c32; have q14 := kcell kn.out c33)
      | (go_at_call 33; refine (getR gr tr capr 1 2 G 0 0 _ (hrX.out.kept (Hid.out (by assumption)) (fun e => e) (fun e => e)) hT4.out).mono ?_; rw [HD1.out]; rintro e9 w6 ⟨rfl, hk6⟩; have hfirst : True := trivial; have kn : Hid (Kept0 X3 w6) := Kept.trans (Hid.out (by assumption)) hk6; have q0 := kcell kn.out p0; have q1 := kcell kn.out p1; have q2 := kcell kn.out p2; have q3 := kcell kn.out c10; have q4 := kcell kn.out c11; have q5 := kcell kn.out c12; have q6 := kcell kn.out c13; have q7 := kcell kn.out c20; have q8 := kcell kn.out c21; have q9 := kcell kn.out c22; have q10 := kcell kn.out c23; have q11 := kcell kn.out c30; have q12 := kcell kn.out c31; have q13 := kcell kn.out c32; have q14 := kcell kn.out c33)
      | (go_at_call 12; refine (HC.out _ _ (by omega) (by omega)).mono ?_; rintro e9 w6 ⟨rfl, hk6⟩; have kn : Hid (Kept0 X3 w6) := Kept.trans (Hid.out (by assumption)) hk6; have q0 := kcell kn.out p0; have q1 := kcell kn.out p1; have q2 := kcell kn.out p2; have q3 := kcell kn.out c10; have q4 := kcell kn.out c11; have q5 := kcell kn.out c12; have q6 := kcell kn.out c13; have q7 := kcell kn.out c20; have q8 := kcell kn.out c21; have q9 := kcell kn.out c22; have q10 := kcell kn.out c23; have q11 := kcell kn.out c30; have q12 := kcell kn.out c31; have q13 := kcell kn.out c32; have q14 := kcell kn.out c33))
  all_goals
    go_wp2_with fail
    go_ret
    exact ⟨rfl, KX.out.trans (Hid.out (by assumption))⟩
end Go.Proofs.Ytkdnjkcebfckiaa
