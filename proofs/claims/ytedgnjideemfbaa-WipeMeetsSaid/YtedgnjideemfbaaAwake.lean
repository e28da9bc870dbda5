/-
  The chapter's example.
-/
import Derived.Test.YtedgnjideemfbaaSame
import Derived.Test.YtedgnjideemfbaaDoes
namespace Go.Proofs.Ytedgnjideemfbaa
open Go.RowKit

def abT : ByteArray := ⟨#[97, 98]⟩
def cdT : ByteArray := ⟨#[99, 100]⟩

theorem strs_two (w : World) : StrsIn (w.alloc (.cells #[.string abT, .string cdT] 9)) (some ⟨w.heap.size, 0, none⟩) [abT, cdT] := by
  intro i s hs
  have hi : i < 2 := by have := (List.getElem?_eq_some_iff.1 hs).1; simpa using this
  rcases (show i = 0 ∨ i = 1 by omega) with rfl | rfl
  · simp at hs
    subst hs
    exact ⟨_, _, rfl, by simp [go_sem], by decide⟩
  · simp at hs
    subst hs
    exact ⟨_, _, rfl, by simp [go_sem], by decide⟩

set_option maxHeartbeats 2000000 in
set_option maxRecDepth 100000 in
theorem awake_any (w : World) : Calls Try.prog 10 #[] w fun e w' => e = .returned (.bool true) ∧ Kept0 w w' := by
  have HM : Hid (∀ w : World, Calls Try.prog 11 #[.agg #[.slice (some ⟨w.heap.size, 0, none⟩) 2 2, .int .i64 2]] (w.alloc (.cells #[.string abT, .string cdT] 9)) fun e w' => ∃ g t cap g' t' cap', e = .returned (.tuple #[.pointer (some ⟨g, 0, none⟩), .pointer (some ⟨g', 0, none⟩)]) ∧ w.heap.size < g ∧ w.heap.size < t ∧
      GridAt w' g t cap 2 2 (boardF 2 [abT, cdT]) ∧ Kept0 (w.alloc (.cells #[.string abT, .string cdT] 9)) w') := fun w => by
    have h0 := made_any (some ⟨w.heap.size, 0, none⟩) 2 2 [abT, cdT] (w.alloc (.cells #[.string abT, .string cdT] 9)) (strs_two w) (by decide) (by decide) (by omega) (by omega)
    rw [show ([abT, cdT] : List ByteArray).length = 2 from rfl, show ((2 : Nat) : Int) = 2 from rfl] at h0
    refine h0.mono ?_
    rintro e w' ⟨g, t, cap, g', t', cap', h, h1, h2, _, _, _, _, _, _, h3, _, h4⟩
    rw [World.size_alloc] at h1 h2
    exact ⟨g, t, cap, g', t', cap', h, h1, h2, h3, h4⟩
  have HE : Hid (wipeE 2 2 0 1 1 0 = 0) := by show _ = _; decide
  have HN : Hid ((wipeN 2 2 (boardF 2 [abT, cdT]) (one false (fun _ => celB 32)) 0 1 1 0 : Int) = 2) := by show _ = _; decide
  have HA : Hid (wipeF 2 2 (boardF 2 [abT, cdT]) (one false (fun _ => celB 32)) 0 1 1 0 (idx 2 0 1) = celB 32) := by show _ = _; decide
  have HB : Hid (wipeF 2 2 (boardF 2 [abT, cdT]) (one false (fun _ => celB 32)) 0 1 1 0 (idx 2 1 1) = celB 100) := by show _ = _; decide
  have hT1 : Hid (There 2 2 0 1) := ⟨by omega, by omega, by omega, by omega⟩
  have hT2 : Hid (There 2 2 1 1) := ⟨by omega, by omega, by omega, by omega⟩
  have HC : Hid (∀ (b : Int) (w : World), 0 ≤ b → b ≤ 255 → Calls Try.prog 21 #[.int .u8 b] w fun e w' => e = .returned (celB b).v ∧ Kept0 w w') := fun b w => cellL b w
  have h32 := same_cel (celB 32)
  have h100 := same_cel (celB 100)
  generalize hF : boardF 2 [abT, cdT] = F at *
  unfold abT cdT at HM
  generalize hcb : celB = cB at *
  clear hF hcb
  go_enter Try.func10, Try.ntmps10
  go_wp2_with fail
  refine (HM.out w).mono ?_
  rintro e w1 ⟨g, t, cap, gr, tr, capr, rfl, n1, n2, hg, k1⟩
  have kk1 : Kept0 w w1 := ((Kept.refl _ w).alloc _).trans k1
  clear k1
  have hgl := hg.lt
  have htl := hg.row.lt
  go_wp2_with fail
  refine (HC.out 32 _ (by omega) (by omega)).mono ?_
  rintro e w2 ⟨rfl, k2⟩
  replace hg := hg.kept k2 (fun e => e) (fun e => e)
  replace kk1 := kk1.trans k2
  clear k2
  go_wp2_with fail
  refine (wipe_any g t cap 2 2 F 0 1 1 0 (cB 32) false w2 hg).mono ?_
  rintro e w3 ⟨rfl, hg3, k3⟩
  rw [HE.out, HN.out]
  replace kk1 : Kept0 w w3 := kk1.later k3 (fun i hi e => by omega)
  clear k3 hg
  go_wp2_with fail
  refine (at_in g t cap 2 2 _ 0 1 w3 hg3 hT1.out).mono ?_
  rw [HA.out]
  rintro e w4 ⟨rfl, k4⟩
  replace hg3 := hg3.kept k4 (fun e => e) (fun e => e)
  replace kk1 := kk1.trans k4
  obtain ⟨V, hV⟩ : ∃ V, V = w4.alloc (.cells #[.int .i32 (cB 32).g, .int .i64 (cB 32).a, .bool (cB 32).b, .int .i64 (cB 32).m] 38) := ⟨_, rfl⟩
  have kV : Kept0 w4 V := by rw [hV]; exact (Kept.refl _ w4).alloc _
  have hc : CelAt V w4.heap.size (cB 32) := by rw [hV]; exact CelAt.new w4 (cB 32) 38
  go_wp2_with fail
  rw [← hV]
  clear hV k4
  replace hg3 := hg3.kept kV (fun e => e) (fun e => e)
  replace kk1 := kk1.trans kV
  clear kV
  refine (at_in g t cap 2 2 _ 1 1 V hg3 hT2.out).mono ?_
  rw [HB.out]
  rintro e w5 ⟨rfl, k5⟩
  replace hc := hc.kept k5 (fun e => e)
  replace kk1 := kk1.trans k5
  clear k5
  obtain ⟨U, hU⟩ : ∃ U, U = w5.alloc (.cells #[.int .i32 (cB 100).g, .int .i64 (cB 100).a, .bool (cB 100).b, .int .i64 (cB 100).m] 38) := ⟨_, rfl⟩
  have kU : Kept0 w5 U := by rw [hU]; exact (Kept.refl _ w5).alloc _
  have hd : CelAt U w5.heap.size (cB 100) := by rw [hU]; exact CelAt.new w5 (cB 100) 38
  go_wp2_with fail
  rw [← hU]
  clear hU
  have KU : Hid (Kept0 w U) := kk1.trans kU
  obtain ⟨x0, x1, x2, x3⟩ := hc.kept kU (fun e => e)
  obtain ⟨y0, y1, y2, y3⟩ := hd
  clear kU hc kk1 hg3 HM HE HN HA HB
  have KD : Hid (Kept0 U U.drew) := (Kept.refl _ U).drew
  go_region_held3 (fun w' => w'.cell? ⟨w4.heap.size, 0, none⟩ = some (.int .i32 (cB 32).g) ∧ w'.cell? ⟨w4.heap.size, 1, none⟩ = some (.int .i64 (cB 32).a) ∧ w'.cell? ⟨w4.heap.size, 2, none⟩ = some (.bool (cB 32).b) ∧ w'.cell? ⟨w4.heap.size, 3, none⟩ = some (.int .i64 (cB 32).m) ∧ w'.cell? ⟨w5.heap.size, 0, none⟩ = some (.int .i32 (cB 100).g) ∧ w'.cell? ⟨w5.heap.size, 1, none⟩ = some (.int .i64 (cB 100).a) ∧ w'.cell? ⟨w5.heap.size, 2, none⟩ = some (.bool (cB 100).b) ∧ w'.cell? ⟨w5.heap.size, 3, none⟩ = some (.int .i64 (cB 100).m) ∧ Hid (Kept0 U w')) (go_keep)
    (first
      | (go_at_call 21; refine (HC.out _ _ (by omega) (by omega)).mono ?_; rintro e9 w6 ⟨rfl, hk6⟩; have kn : Hid (Kept0 U w6) := Kept.trans (Hid.out (by assumption)) hk6; have v0 := kcell kn.out x0; have v1 := kcell kn.out x1; have v2 := kcell kn.out x2; have v3 := kcell kn.out x3; have v4 := kcell kn.out y0; have v5 := kcell kn.out y1; have v6 := kcell kn.out y2; have v7 := kcell kn.out y3))
  all_goals
    go_wp2_with fail
    go_ret
    exact ⟨rfl, KU.out.trans (Hid.out (by assumption))⟩
end Go.Proofs.Ytedgnjideemfbaa
