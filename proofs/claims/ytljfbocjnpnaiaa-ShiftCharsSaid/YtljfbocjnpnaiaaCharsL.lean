/-
  The law ShiftChars.
-/
import Derived.Test.YtljfbocjnpnaiaaAwake
namespace Go.Proofs.Ytljfbocjnpnaiaa
open Go.RowKit

/-- A grid with the cells fg, and the document's with the cells fr; the place that is asked for lies in block p; all that was there is kept. -/
structure Ph2 (w : World) (g t cg h u ch p R C : Nat) (r c : Int) (fg fr : Nat → Cel) (w' : World) : Prop where
  grid : GridAt w' g t cg R C fg
  ref : RefAt w' h u ch R C fr
  kept : Kept0 w w'
  p0 : w'.cell? ⟨p, 0, none⟩ = some (.int .i64 r)
  p1 : w'.cell? ⟨p, 1, none⟩ = some (.int .i64 c)
  n1 : w.heap.size ≤ t
  n2 : w.heap.size ≤ u
  n3 : ¬ t = u
  n4 : ¬ t = h
  n5 : ¬ u = g
  n6 : ¬ p = t
  n7 : ¬ p = u

namespace Ph2
variable {w : World} {g t cg h u ch p R C : Nat} {r c : Int} {fg fr : Nat → Cel} {w1 : World}
theorem keep (H : Ph2 w g t cg h u ch p R C r c fg fr w1) {w2 : World} (k : Kept0 w1 w2) : Ph2 w g t cg h u ch p R C r c fg fr w2 :=
  ⟨H.grid.kept k (fun e => e) (fun e => e), H.ref.kept k (fun e => e) (fun e => e), H.kept.trans k, kcell k H.p0, kcell k H.p1, H.n1, H.n2, H.n3, H.n4, H.n5, H.n6, H.n7⟩
theorem drew (H : Ph2 w g t cg h u ch p R C r c fg fr w1) : Ph2 w g t cg h u ch p R C r c fg fr w1.drew := H.keep (Kept.refl _ w1).drew
theorem ongrid (H : Ph2 w g t cg h u ch p R C r c fg fr w1) {w2 : World} {fg' : Nat → Cel} (hg : GridAt w2 g t cg R C fg') (k : Kept (· = t) w1 w2) : Ph2 w g t cg h u ch p R C r c fg' fr w2 :=
  ⟨hg, H.ref.kept k (fun e => H.n4 e.symm) (fun e => H.n3 e.symm), H.kept.later k (fun i hi e => by have := H.n1; omega), kcellS k H.p0 H.n6, kcellS k H.p1 H.n6, H.n1, H.n2, H.n3, H.n4, H.n5, H.n6, H.n7⟩
theorem onref (H : Ph2 w g t cg h u ch p R C r c fg fr w1) {w2 : World} {fr' : Nat → Cel} (hg : RefAt w2 h u ch R C fr') (k : Kept (· = u) w1 w2) : Ph2 w g t cg h u ch p R C r c fg fr' w2 :=
  ⟨H.grid.kept k (fun e => H.n5 e.symm) (fun e => H.n3 e), hg, H.kept.later k (fun i hi e => by have := H.n2; omega), kcellS k H.p0 H.n7, kcellS k H.p1 H.n7, H.n1, H.n2, H.n3, H.n4, H.n5, H.n6, H.n7⟩
end Ph2

set_option maxHeartbeats 4000000 in
set_option maxRecDepth 100000 in
theorem chars_calls (a : Option Addr) (cap : Nat) (C : Int) (l : List ByteArray) (r c n : Int) (b : Bool) (w : World) (hl : StrsIn w a l) (hL : l.length ≤ 9223372036854775807) (hn : -9223372036854775808 ≤ n ∧ n ≤ 9223372036854775807) :
    Calls Try.prog 4 #[.agg #[.slice a l.length cap, .int .i64 C], .agg #[.int .i64 r, .int .i64 c, .int .i64 n, .bool b]] w fun e w' => e = .returned (.bool true) ∧ Below w.heap.size w w' := by
  have kA : Kept0 w ((w.alloc (.cells #[.slice a l.length cap, .int .i64 C] 24)).alloc (.cells #[.int .i64 r, .int .i64 c, .int .i64 n, .bool b] 28)) := ((Kept.refl _ w).alloc _).alloc _
  by_cases hf : 1 ≤ l.length ∧ l.length ≤ 8 ∧ 1 ≤ C ∧ C ≤ 12
  rotate_left
  · have HB : Hid (fewB l.length C = false) := decide_eq_false hf
    clear hf
    have HL := Lib.hid hL
    clear hL hn hl
    go_enter Try.func4, Try.ntmps4
    go_wp2_with fail
    refine (few_any a l.length cap C _ HL.out).mono ?_
    rw [HB.out]
    rintro e w1 ⟨rfl, k1⟩
    go_wp2_with fail
    refine (awake_any _).mono ?_
    rintro e w2 ⟨rfl, k2⟩
    go_wp2_with fail
    go_ret
    exact ⟨rfl, Kept0.below ((kA.trans k1).trans k2)⟩
  have HB : Hid (fewB l.length C = true) := decide_eq_true hf
  obtain ⟨f1, f2, f3, f4⟩ := hf
  obtain ⟨C, rfl⟩ := Int.eq_ofNat_of_zero_le (show 0 ≤ C by omega)
  obtain ⟨dot, hdot⟩ : ∃ dot, dot = celB 46 := ⟨_, rfl⟩
  have HC : Hid (∀ w : World, Calls Try.prog 15 #[.int .u8 46] w fun e w' => e = .returned dot.v ∧ Kept0 w w') := fun w => by rw [hdot]; exact cellL 46 w (by omega) (by omega)
  have HM : Hid (∀ w', Kept0 w w' → _) := fun w' k => made_any a cap C l w' (hl.kept0 k) f1 f2 (by omega) (by omega)
  have HL := Lib.hid hL
  have HN := Lib.hid hn
  obtain ⟨F, hF⟩ : ∃ F, F = boardF C l := ⟨_, rfl⟩
  rw [← hF] at HM
  obtain ⟨R, hR⟩ : ∃ R, R = l.length := ⟨_, rfl⟩
  rw [← hR] at f1 f2 HM HL HB kA ⊢
  have hAp : ∀ o, ((w.alloc (.cells #[.slice a R cap, .int .i64 (C : Int)] 24)).alloc o).cell? ⟨w.heap.size, 0, none⟩ = some (.slice a R cap) := fun o => by simp [go_sem]
  have hAq : ∀ o, ((w.alloc (.cells #[.slice a R cap, .int .i64 (C : Int)] 24)).alloc o).cell? ⟨w.heap.size, 1, none⟩ = some (.int .i64 (C : Int)) := fun o => by simp [go_sem]
  clear hF hl hL hn hR hdot
  go_enter Try.func4, Try.ntmps4
  go_wp2_with fail
  obtain ⟨V, hV⟩ : ∃ V, V = (w.alloc (.cells #[.slice a R cap, .int .i64 (C : Int)] 24)).alloc (.cells #[.int .i64 r, .int .i64 c, .int .i64 n, .bool b] 28) := ⟨_, rfl⟩
  have p0 : V.cell? ⟨w.heap.size + 1, 0, none⟩ = some (.int .i64 r) := by rw [hV]; simp [go_sem]
  have p1 : V.cell? ⟨w.heap.size + 1, 1, none⟩ = some (.int .i64 c) := by rw [hV]; simp [go_sem]
  have p2 : V.cell? ⟨w.heap.size + 1, 2, none⟩ = some (.int .i64 n) := by rw [hV]; simp [go_sem]
  have p3 : V.cell? ⟨w.heap.size + 1, 3, none⟩ = some (.bool b) := by rw [hV]; simp [go_sem]
  have s0 : V.cell? ⟨w.heap.size, 0, none⟩ = some (.slice a R cap) := by rw [hV]; exact hAp _
  have s1 : V.cell? ⟨w.heap.size, 1, none⟩ = some (.int .i64 (C : Int)) := by rw [hV]; exact hAq _
  rw [← hV] at kA ⊢
  clear hV hAp hAq
  refine (few_any a R cap (C : Int) V HL.out).mono ?_
  rw [HB.out]
  rintro e w1 ⟨rfl, k1⟩
  replace s0 := kcell k1 s0
  replace s1 := kcell k1 s1
  replace kA := kA.trans k1
  have z0 : Hid (w1.cell? ⟨w.heap.size, 0, none⟩ = some (.slice a R cap)) := s0
  have z1 : Hid (w1.cell? ⟨w.heap.size, 1, none⟩ = some (.int .i64 (C : Int))) := s1
  replace p0 := kcell k1 p0
  replace p1 := kcell k1 p1
  replace p2 := kcell k1 p2
  replace p3 := kcell k1 p3
  have hs0 : w.heap.size < w1.heap.size := World.block_lt_of_cell? w1 _ s0
  have hs1 : w.heap.size + 1 < w1.heap.size := World.block_lt_of_cell? w1 _ p0
  clear k1
  obtain ⟨W, hW⟩ : ∃ W, W = w1.alloc (.cells #[.int .i64 r, .int .i64 c] 26) := ⟨_, rfl⟩
  have kW : Kept0 w1 W := by rw [hW]; exact (Kept.refl _ w1).alloc _
  have x0 : W.cell? ⟨w1.heap.size, 0, none⟩ = some (.int .i64 r) := by rw [hW]; simp [go_sem]
  have x1 : W.cell? ⟨w1.heap.size, 1, none⟩ = some (.int .i64 c) := by rw [hW]; simp [go_sem]
  have hsW : w1.heap.size < W.heap.size := World.block_lt_of_cell? W _ x0
  go_wp2_with fail
  rw [← hW]
  clear hW
  refine (HM.out W (kA.trans kW)).mono ?_
  rintro e w2 ⟨g, t, cg, h, u, ch, rfl, n1, n2, n3, n4, n5, n6, n7, n8, hg, hh, k2⟩
  have sA := kA.size
  have hph : Ph2 w g t cg h u ch w1.heap.size R C r c F F w2 := ⟨hg, hh, (kA.trans kW).trans k2, kcell k2 x0, kcell k2 x1, by omega, by omega, n8, n7, fun e => n6 e.symm, by omega, by omega⟩
  clear k2 s0 s1 z0 z1 p0 p1 p2 p3 hg hh kA n1 n2 n3 n4 n5 n6 n7 n8 x0 x1 hsW kW hs0 hs1 sA
  obtain ⟨q, hq⟩ : ∃ q, q = w1.heap.size := ⟨_, rfl⟩
  rw [← hq] at hph ⊢
  clear hq
  have p0 := hph.p0
  have p1 := hph.p1
  have hor : (¬ (0 ≤ r ∧ r < R ∧ 0 ≤ c ∧ c < C)) ∨ (0 ≤ r ∧ r < R ∧ 0 ≤ c ∧ c < C) := by omega
  rcases hor with hth | hth
  case' inl =>
    have HBT := Lib.hid (thereB_no hth)
    go_wp2_with fail
    refine (field_out g t cg R C F r c w2 hph.grid hth).mono ?_
    rintro e w3 ⟨rfl, k3⟩
    replace hph := hph.keep k3
    replace p0 := hph.p0
    replace p1 := hph.p1
    clear k3 hth
    go_wp2_with fail
    refine (thereR h R C _ _ _ hph.ref.c0 hph.ref.c1).mono ?_
    rw [HBT.out]
    rintro e W4 ⟨rfl, k4⟩
    have HP := Lib.hid (hph.keep k4)
    clear k4 hph p0 p1 HBT
    have p0 := HP.out.p0
    have p1 := HP.out.p1
    go_wp2_with fail
  case' inr =>
    have HBT := Lib.hid (thereB_yes hth)
    have HTH := Lib.hid hth
    obtain ⟨h1, h2, h3, h4⟩ := hth
    obtain ⟨rn, rfl⟩ := Int.eq_ofNat_of_zero_le h1
    obtain ⟨cn, rfl⟩ := Int.eq_ofNat_of_zero_le h3
    have hrn : rn < R := by omega
    have hcn : cn < C := by omega
    clear h1 h2 h3 h4
    have hfb := field_b (F (idx C (rn : Int) (cn : Int)))
    rw [gd_idx C F rn cn] at hfb
    cases hb : gd C F rn cn
    case' true =>
      rw [hb] at hfb
      go_wp2_with fail
      refine (field_taken g t cg R C F rn cn w2 hph.grid hrn hcn hb).mono ?_
      rintro e w3 ⟨rfl, k3⟩
      replace hph := hph.keep k3
      replace p0 := hph.p0
      replace p1 := hph.p1
      clear k3 hb
      go_wp2_with fail
      refine (thereR h R C _ _ _ hph.ref.c0 hph.ref.c1).mono ?_
      rw [HBT.out]
      rintro e w4 ⟨rfl, k4⟩
      replace hph := hph.keep k4
      replace p0 := hph.p0
      replace p1 := hph.p1
      clear k4
      go_wp2_with fail
      refine (getR h u ch R C F _ _ _ hph.ref HTH.out).mono ?_
      rintro e W4 ⟨rfl, k5⟩
      have HP := Lib.hid (hph.keep k5)
      clear k5 hph p0 p1 HBT
      have p0 := HP.out.p0
      have p1 := HP.out.p1
      go_wp2_with fail
    case' false =>
      rw [hb] at hfb
      have HF1 : Hid (∀ w', GridAt w' g t cg R C F → _) := fun w' hgg => field_ok g t cg R C F rn cn w' hgg hrn hcn hb
      have HF2 : Hid (∀ w', RefAt w' h u ch R C F → _) := fun w' hgg => fieldR h u ch R C F rn cn w' hgg hrn hcn
      generalize hA : (lo (gd C F rn) cn : Int) = A at HF1 HF2
      generalize hZ : (hi (gd C F rn) (C - 1 - cn) cn : Int) = Z at HF1 HF2
      clear hA hZ hb
      go_wp2_with fail
      refine (HF1.out w2 hph.grid).mono ?_
      rintro e w3 ⟨rfl, k3⟩
      replace hph := hph.keep k3
      replace p0 := hph.p0
      replace p1 := hph.p1
      clear k3
      go_wp2_with fail
      refine (thereR h R C _ _ _ hph.ref.c0 hph.ref.c1).mono ?_
      rw [HBT.out]
      rintro e w4 ⟨rfl, k4⟩
      replace hph := hph.keep k4
      replace p0 := hph.p0
      replace p1 := hph.p1
      clear k4
      go_wp2_with fail
      refine (getR h u ch R C F _ _ _ hph.ref HTH.out).mono ?_
      rintro e w5 ⟨rfl, k5⟩
      replace hph := hph.keep k5
      replace p0 := hph.p0
      replace p1 := hph.p1
      clear k5
      go_wp2_with fail
      refine (HF2.out w5 hph.ref).mono ?_
      rintro e W4 ⟨rfl, k5⟩
      have HP := Lib.hid (hph.keep k5)
      clear k5 hph p0 p1 HBT
      have p0 := HP.out.p0
      have p1 := HP.out.p1
      go_wp2_with fail
  case inl =>
    go_region_held3 (fun w' => w'.cell? ⟨q, 0, none⟩ = some (.int .i64 r) ∧ w'.cell? ⟨q, 1, none⟩ = some (.int .i64 c)) (go_keep)
      (first
        | (go_at_call 15; refine (HC.out _).mono ?_; rintro e9 w6 ⟨rfl, k6⟩; have P3 : Hid (Ph2 w g t cg h u ch q R C r c (charsF R C F r c n dot b) F w6) := P2.out.keep k6; have v0 := P3.out.p0; have v1 := P3.out.p1)
        | (go_at_call 15; refine (HC.out _).mono ?_; rintro e9 w6 ⟨rfl, k6⟩; have P1 : Hid (Ph2 w g t cg h u ch q R C r c F F w6) := HP.out.drew.keep k6; have v0 := P1.out.p0; have v1 := P1.out.p1)
        | (go_at_call 24; refine (chars_any g t cg R C F r c n dot b _ P1.out.grid HN.out.2).mono ?_; rintro e9 w6 ⟨rfl, hg6, k6⟩; have P2 : Hid (Ph2 w g t cg h u ch q R C r c (charsF R C F r c n dot b) F w6) := P1.out.ongrid hg6 k6; have v0 := P2.out.p0; have v1 := P2.out.p1)
        | (go_at_call 25; refine (charsR h u ch R C F r c n dot b _ P3.out.ref HN.out).mono ?_; rintro e9 w6 ⟨rfl, hg6, k6⟩; have P4 : Hid (Ph2 w g t cg h u ch q R C r c (charsF R C F r c n dot b) (charsF R C F r c n dot b) w6) := P3.out.onref hg6 k6; have v0 := P4.out.p0; have v1 := P4.out.p1)
        | (go_at_call 17; refine (sameL g t cg h u ch R C _ _ P4.out.grid P4.out.ref).mono ?_; rintro e9 w6 ⟨rfl, k6⟩; have P5 : Hid (Ph2 w g t cg h u ch q R C r c (charsF R C F r c n dot b) (charsF R C F r c n dot b) w6) := P4.out.keep k6; have v0 := P5.out.p0; have v1 := P5.out.p1)
        | (go_at_call 10; refine (awake_any _).mono ?_; rintro e9 w7 ⟨rfl, k7⟩; have P6 : Hid (Ph2 w g t cg h u ch q R C r c (charsF R C F r c n dot b) (charsF R C F r c n dot b) w7) := P5.out.keep k7; have v0 := P6.out.p0; have v1 := P6.out.p1))
    all_goals
      go_wp2_with fail
      go_ret
      exact ⟨rfl, Kept0.below P6.out.kept⟩
  case inr.true =>
    go_region_held3 (fun w' => w'.cell? ⟨q, 0, none⟩ = some (.int .i64 (rn : Int)) ∧ w'.cell? ⟨q, 1, none⟩ = some (.int .i64 (cn : Int))) (go_keep)
      (first
        | (go_at_call 15; refine (HC.out _).mono ?_; rintro e9 w6 ⟨rfl, k6⟩; have P3 : Hid (Ph2 w g t cg h u ch q R C (rn : Int) (cn : Int) (charsF R C F (rn : Int) (cn : Int) n dot b) F w6) := P2.out.keep k6; have v0 := P3.out.p0; have v1 := P3.out.p1)
        | (go_at_call 15; refine (HC.out _).mono ?_; rintro e9 w6 ⟨rfl, k6⟩; have P1 : Hid (Ph2 w g t cg h u ch q R C (rn : Int) (cn : Int) F F w6) := HP.out.drew.keep k6; have v0 := P1.out.p0; have v1 := P1.out.p1)
        | (go_at_call 24; refine (chars_any g t cg R C F (rn : Int) (cn : Int) n dot b _ P1.out.grid HN.out.2).mono ?_; rintro e9 w6 ⟨rfl, hg6, k6⟩; have P2 : Hid (Ph2 w g t cg h u ch q R C (rn : Int) (cn : Int) (charsF R C F (rn : Int) (cn : Int) n dot b) F w6) := P1.out.ongrid hg6 k6; have v0 := P2.out.p0; have v1 := P2.out.p1)
        | (go_at_call 25; refine (charsR h u ch R C F (rn : Int) (cn : Int) n dot b _ P3.out.ref HN.out).mono ?_; rintro e9 w6 ⟨rfl, hg6, k6⟩; have P4 : Hid (Ph2 w g t cg h u ch q R C (rn : Int) (cn : Int) (charsF R C F (rn : Int) (cn : Int) n dot b) (charsF R C F (rn : Int) (cn : Int) n dot b) w6) := P3.out.onref hg6 k6; have v0 := P4.out.p0; have v1 := P4.out.p1)
        | (go_at_call 17; refine (sameL g t cg h u ch R C _ _ P4.out.grid P4.out.ref).mono ?_; rintro e9 w6 ⟨rfl, k6⟩; have P5 : Hid (Ph2 w g t cg h u ch q R C (rn : Int) (cn : Int) (charsF R C F (rn : Int) (cn : Int) n dot b) (charsF R C F (rn : Int) (cn : Int) n dot b) w6) := P4.out.keep k6; have v0 := P5.out.p0; have v1 := P5.out.p1)
        | (go_at_call 10; refine (awake_any _).mono ?_; rintro e9 w7 ⟨rfl, k7⟩; have P6 : Hid (Ph2 w g t cg h u ch q R C (rn : Int) (cn : Int) (charsF R C F (rn : Int) (cn : Int) n dot b) (charsF R C F (rn : Int) (cn : Int) n dot b) w7) := P5.out.keep k7; have v0 := P6.out.p0; have v1 := P6.out.p1))
    all_goals
      go_wp2_with fail
      go_ret
      exact ⟨rfl, Kept0.below P6.out.kept⟩
  case inr.false =>
    go_region_held3 (fun w' => w'.cell? ⟨q, 0, none⟩ = some (.int .i64 (rn : Int)) ∧ w'.cell? ⟨q, 1, none⟩ = some (.int .i64 (cn : Int))) (go_keep)
      (first
        | (go_at_call 15; refine (HC.out _).mono ?_; rintro e9 w6 ⟨rfl, k6⟩; have P3 : Hid (Ph2 w g t cg h u ch q R C (rn : Int) (cn : Int) (charsF R C F (rn : Int) (cn : Int) n dot b) F w6) := P2.out.keep k6; have v0 := P3.out.p0; have v1 := P3.out.p1)
        | (go_at_call 15; refine (HC.out _).mono ?_; rintro e9 w6 ⟨rfl, k6⟩; have P1 : Hid (Ph2 w g t cg h u ch q R C (rn : Int) (cn : Int) F F w6) := HP.out.drew.keep k6; have v0 := P1.out.p0; have v1 := P1.out.p1)
        | (go_at_call 24; refine (chars_any g t cg R C F (rn : Int) (cn : Int) n dot b _ P1.out.grid HN.out.2).mono ?_; rintro e9 w6 ⟨rfl, hg6, k6⟩; have P2 : Hid (Ph2 w g t cg h u ch q R C (rn : Int) (cn : Int) (charsF R C F (rn : Int) (cn : Int) n dot b) F w6) := P1.out.ongrid hg6 k6; have v0 := P2.out.p0; have v1 := P2.out.p1)
        | (go_at_call 25; refine (charsR h u ch R C F (rn : Int) (cn : Int) n dot b _ P3.out.ref HN.out).mono ?_; rintro e9 w6 ⟨rfl, hg6, k6⟩; have P4 : Hid (Ph2 w g t cg h u ch q R C (rn : Int) (cn : Int) (charsF R C F (rn : Int) (cn : Int) n dot b) (charsF R C F (rn : Int) (cn : Int) n dot b) w6) := P3.out.onref hg6 k6; have v0 := P4.out.p0; have v1 := P4.out.p1)
        | (go_at_call 17; refine (sameL g t cg h u ch R C _ _ P4.out.grid P4.out.ref).mono ?_; rintro e9 w6 ⟨rfl, k6⟩; have P5 : Hid (Ph2 w g t cg h u ch q R C (rn : Int) (cn : Int) (charsF R C F (rn : Int) (cn : Int) n dot b) (charsF R C F (rn : Int) (cn : Int) n dot b) w6) := P4.out.keep k6; have v0 := P5.out.p0; have v1 := P5.out.p1)
        | (go_at_call 10; refine (awake_any _).mono ?_; rintro e9 w7 ⟨rfl, k7⟩; have P6 : Hid (Ph2 w g t cg h u ch q R C (rn : Int) (cn : Int) (charsF R C F (rn : Int) (cn : Int) n dot b) (charsF R C F (rn : Int) (cn : Int) n dot b) w7) := P5.out.keep k7; have v0 := P6.out.p0; have v1 := P6.out.p1))
    all_goals
      go_wp2_with fail
      go_ret
      exact ⟨rfl, Kept0.below P6.out.kept⟩
end Go.Proofs.Ytljfbocjnpnaiaa
