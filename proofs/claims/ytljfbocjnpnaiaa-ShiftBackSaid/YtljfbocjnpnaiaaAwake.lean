/-
  The chapter's examples.
-/
import Derived.Test.YtljfbocjnpnaiaaSame
namespace Go.Proofs.Ytljfbocjnpnaiaa
open Go.RowKit

def abc : ByteArray := ⟨#[97, 98, 99]⟩

theorem same_celB (b : Int) (w : World) : (Op.equalIn 10000 44 (celB b).v (celB b).v).run Try.prog w = .ok true w := same_cel _ w

theorem strs_one (w : World) : StrsIn (w.alloc (.cells #[.string abc] 9)) (some ⟨w.heap.size, 0, none⟩) [abc] := by
  intro i s hs
  have hi : i = 0 := by have := (List.getElem?_eq_some_iff.1 hs).1; simpa using this
  subst hi
  simp at hs
  subst hs
  exact ⟨_, _, rfl, by simp [go_sem], by decide⟩

set_option maxHeartbeats 2000000 in
theorem awake_any (w : World) : Calls Try.prog 10 #[] w fun e w' => e = .returned (.bool true) ∧ Kept0 w w' := by
  have HM : Hid (∀ w : World, Calls Try.prog 11 #[.agg #[.slice (some ⟨w.heap.size, 0, none⟩) 1 1, .int .i64 3]] (w.alloc (.cells #[.string abc] 9)) fun e w' => ∃ g t cap g' t' cap', e = .returned (.tuple #[.pointer (some ⟨g, 0, none⟩), .pointer (some ⟨g', 0, none⟩)]) ∧ w.heap.size < g ∧ w.heap.size < t ∧ w.heap.size < g' ∧ w.heap.size < t' ∧ g ≠ g' ∧ g ≠ t' ∧ t ≠ g' ∧ t ≠ t' ∧
      GridAt w' g t cap 1 3 (boardF 3 [abc]) ∧ RefAt w' g' t' cap' 1 3 (boardF 3 [abc]) ∧ Kept0 (w.alloc (.cells #[.string abc] 9)) w') := fun w => by
    have h0 := made_any (some ⟨w.heap.size, 0, none⟩) 1 3 [abc] (w.alloc (.cells #[.string abc] 9)) (strs_one w) (by decide) (by decide) (by omega) (by omega)
    rw [show ([abc] : List ByteArray).length = 1 from rfl, show ((3 : Nat) : Int) = 3 from rfl] at h0
    refine h0.mono ?_
    rintro e w' ⟨g, t, cap, g', t', cap', h⟩
    rw [World.size_alloc] at h
    exact ⟨g, t, cap, g', t', cap', h⟩
  have HA : Hid (charsF 1 3 (boardF 3 [abc]) 0 1 1 (celB 32) false (idx 3 0 2) = celB 98) := by show _ = _; decide
  have hT : Hid (There 1 3 0 2) := ⟨by omega, by omega, by omega, by omega⟩
  have h98 := same_celB 98
  generalize hF : boardF 3 [abc] = F at *
  unfold abc at HM
  obtain ⟨bl, hbl⟩ : ∃ bl, bl = celB 32 := ⟨_, rfl⟩
  obtain ⟨cb, hcb⟩ : ∃ cb, cb = celB 98 := ⟨_, rfl⟩
  have HC : Hid (∀ w : World, Calls Try.prog 15 #[.int .u8 32] w fun e w' => e = .returned bl.v ∧ Kept0 w w') := fun w => by rw [hbl]; exact cellL 32 w (by omega) (by omega)
  have HB : Hid (∀ w : World, Calls Try.prog 15 #[.int .u8 98] w fun e w' => e = .returned cb.v ∧ Kept0 w w') := fun w => by rw [hcb]; exact cellL 98 w (by omega) (by omega)
  rw [← hbl, ← hcb] at HA
  rw [← hcb] at h98
  clear hF hbl hcb
  have kz : Kept0 w w := Kept.refl _ _
  go_enter Try.func10, Try.ntmps10
  go_wp2_with fail
  refine (HM.out w).mono ?_
  rintro e w1 ⟨g, t, cap, gr, tr, capr, rfl, n1, n2, n3, n4, _, _, _, _, hg, _, k1⟩
  have kk1 : Kept0 w w1 := ((Kept.refl _ w).alloc _).trans k1
  clear k1
  have s1 := kk1.size
  have hgl := hg.lt
  have htl := hg.row.lt
  go_wp2_with fail
  refine (HM.out w1).mono ?_
  rintro e w2 ⟨h, u, cap2, r, v, cap3, rfl, m1, m2, m3, m4, m5, m6, m7, m8, hh, hr, k2⟩
  have kk2 : Kept0 w1 w2 := ((Kept.refl _ w1).alloc _).trans k2
  clear k2
  replace hg := hg.kept kk2 (fun e => e) (fun e => e)
  replace kk2 := kk1.trans kk2
  have s2 := kk2.size
  go_wp2_with fail
  refine (HC.out _).mono ?_
  rintro e w3 ⟨rfl, k3⟩
  replace hg := hg.kept k3 (fun e => e) (fun e => e)
  replace hh := hh.kept k3 (fun e => e) (fun e => e)
  replace hr := hr.kept k3 (fun e => e) (fun e => e)
  replace kk2 := kk2.trans k3
  clear k3
  go_wp2_with fail
  refine (chars_any g t cap 1 3 F 0 1 1 bl false w3 hg (by omega)).mono ?_
  rintro e w4 ⟨rfl, hg4, k4⟩
  replace hh := hh.kept k4 (by omega) (by omega)
  replace hr := hr.kept k4 (by omega) (by omega)
  replace kk2 : Kept0 w w4 := kk2.later k4 (fun i hi e => by omega)
  clear k4 hg
  go_wp2_with fail
  refine (HC.out _).mono ?_
  rintro e w5 ⟨rfl, k3⟩
  replace hg4 := hg4.kept k3 (fun e => e) (fun e => e)
  replace hh := hh.kept k3 (fun e => e) (fun e => e)
  replace hr := hr.kept k3 (fun e => e) (fun e => e)
  replace kk2 := kk2.trans k3
  clear k3
  go_wp2_with fail
  refine (chars_any h u cap2 1 3 F 0 1 (-1) bl false w5 hh (by omega)).mono ?_
  rintro e w6 ⟨rfl, hh6, k4⟩
  replace hg4 := hg4.kept k4 (by omega) (by omega)
  replace hr := hr.kept k4 (by omega) (by omega)
  replace kk2 : Kept0 w w6 := kk2.later k4 (fun i hi e => by omega)
  clear k4 hh
  go_wp2_with fail
  refine (HC.out _).mono ?_
  rintro e w7 ⟨rfl, k3⟩
  replace hg4 := hg4.kept k3 (fun e => e) (fun e => e)
  replace hh6 := hh6.kept k3 (fun e => e) (fun e => e)
  replace hr := hr.kept k3 (fun e => e) (fun e => e)
  replace kk2 := kk2.trans k3
  clear k3
  go_wp2_with fail
  refine (charsR r v cap3 1 3 F 0 1 (-1) bl false w7 hr ⟨by omega, by omega⟩).mono ?_
  rintro e w8 ⟨rfl, hr8, k4⟩
  replace hg4 := hg4.kept k4 (by omega) (by omega)
  replace hh6 := hh6.kept k4 (by omega) (by omega)
  replace kk2 : Kept0 w w8 := kk2.later k4 (fun i hi e => by omega)
  clear k4 hr
  go_wp2_with fail
  refine (at_in g t cap 1 3 _ 0 2 w8 hg4 hT.out).mono ?_
  rw [HA.out]
  rintro e w9 ⟨rfl, k3⟩
  obtain ⟨V, hV⟩ : ∃ V, V = w9.alloc (.cells #[.int .i32 cb.g, .int .i64 cb.a, .bool cb.b, .int .i64 cb.m] 44) := ⟨_, rfl⟩
  have kV : Kept0 w8 V := by rw [hV]; exact k3.alloc _
  have hc : CelAt V w9.heap.size cb := by rw [hV]; exact CelAt.new w9 cb 44
  have e1 : charsE 1 3 0 1 = 0 := rfl
  rw [e1]
  go_wp2_with fail
  rw [← hV]
  clear hV k3 hg4 e1
  have HH : Hid (GridAt V h u cap2 1 3 (charsF 1 3 F 0 1 (-1) bl false)) := hh6.kept kV (fun e => e) (fun e => e)
  have HR : Hid (RefAt V r v cap3 1 3 (charsF 1 3 F 0 1 (-1) bl false)) := hr8.kept kV (fun e => e) (fun e => e)
  have KV : Hid (Kept0 w V) := kk2.trans kV
  obtain ⟨y0, y1, y2, y3⟩ := hc
  clear hh6 hr8
  have KD : Hid (Kept0 V V.drew) := (Kept.refl _ V).drew
  go_region_held3 (fun w' => w'.cell? ⟨w9.heap.size, 0, none⟩ = some (.int .i32 cb.g) ∧ w'.cell? ⟨w9.heap.size, 1, none⟩ = some (.int .i64 cb.a) ∧ w'.cell? ⟨w9.heap.size, 2, none⟩ = some (.bool cb.b) ∧ w'.cell? ⟨w9.heap.size, 3, none⟩ = some (.int .i64 cb.m)) (go_keep)
    (first
      | (go_at_call 15; refine (HB.out _).mono ?_; rintro e9 w4 ⟨rfl, hk4⟩; have hk5 : Kept0 V w4 := ((Kept.refl (fun _ => False) V).drew).trans hk4; have v0 := kcell hk5 y0; have v1 := kcell hk5 y1; have v2 := kcell hk5 y2; have v3 := kcell hk5 y3)
      | (go_at_call 17; refine (sameL h u cap2 r v cap3 1 3 _ _ (HH.out.kept hk5 (fun e => e) (fun e => e)) (HR.out.kept hk5 (fun e => e) (fun e => e))).mono ?_; rintro e9 w5 ⟨rfl, hk6⟩; have v0 := kcell (hk5.trans hk6) y0; have v1 := kcell (hk5.trans hk6) y1; have v2 := kcell (hk5.trans hk6) y2; have v3 := kcell (hk5.trans hk6) y3))
  all_goals
    go_wp2_with fail
    go_ret
    exact ⟨rfl, KV.out.trans (hk5.trans hk6)⟩
end Go.Proofs.Ytljfbocjnpnaiaa
