/-
  The law ShiftLines.
-/
import Derived.Test.YtljfbocjnpnaiaaPh
namespace Go.Proofs.Ytljfbocjnpnaiaa
open Go.RowKit

set_option maxHeartbeats 4000000 in
set_option maxRecDepth 100000 in
theorem lines_calls (a : Option Addr) (cap : Nat) (C : Int) (l : List ByteArray) (r c n : Int) (b : Bool) (w : World) (hl : StrsIn w a l) (hL : l.length ≤ 9223372036854775807) (hn : -9223372036854775808 ≤ n ∧ n ≤ 9223372036854775807) :
    Calls Try.prog 3 #[.agg #[.slice a l.length cap, .int .i64 C], .agg #[.int .i64 r, .int .i64 c, .int .i64 n, .bool b]] w fun e w' => e = .returned (.bool true) ∧ Below w.heap.size w w' := by
  have kA : Kept0 w ((w.alloc (.cells #[.slice a l.length cap, .int .i64 C] 24)).alloc (.cells #[.int .i64 r, .int .i64 c, .int .i64 n, .bool b] 28)) := ((Kept.refl _ w).alloc _).alloc _
  by_cases hf : 1 ≤ l.length ∧ l.length ≤ 8 ∧ 1 ≤ C ∧ C ≤ 12
  rotate_left
  · have HB : Hid (fewB l.length C = false) := decide_eq_false hf
    clear hf
    have HL := Lib.hid hL
    clear hL hn hl
    go_enter Try.func3, Try.ntmps3
    go_wp2_with fail
    refine (few_any a l.length cap C _ HL.out).mono ?_
    rw [HB.out]
    rintro e w1 ⟨rfl, k1⟩
    go_wp2_with fail
    refine (awake_any _).mono ?_
    rintro e w2 ⟨rfl, k2⟩
    go_wp2_with fail
    go_ret
    exact ⟨rfl, Kept0.below ((kA.trans k1).trans k2)⟩
  have HB : Hid (fewB l.length C = true) := decide_eq_true hf
  obtain ⟨f1, f2, f3, f4⟩ := hf
  obtain ⟨C, rfl⟩ := Int.eq_ofNat_of_zero_le (show 0 ≤ C by omega)
  obtain ⟨dot, hdot⟩ : ∃ dot, dot = celB 46 := ⟨_, rfl⟩
  have HC : Hid (∀ w : World, Calls Try.prog 15 #[.int .u8 46] w fun e w' => e = .returned dot.v ∧ Kept0 w w') := fun w => by rw [hdot]; exact cellL 46 w (by omega) (by omega)
  have HM : Hid (∀ w', Kept0 w w' → _) := fun w' k => made_any a cap C l w' (hl.kept0 k) f1 f2 (by omega) (by omega)
  have HL := Lib.hid hL
  have HN := Lib.hid hn
  obtain ⟨F, hF⟩ : ∃ F, F = boardF C l := ⟨_, rfl⟩
  rw [← hF] at HM
  obtain ⟨R, hR⟩ : ∃ R, R = l.length := ⟨_, rfl⟩
  rw [← hR] at f1 f2 HM HL HB kA ⊢
  have hAp : ∀ o, ((w.alloc (.cells #[.slice a R cap, .int .i64 (C : Int)] 24)).alloc o).cell? ⟨w.heap.size, 0, none⟩ = some (.slice a R cap) := fun o => by simp [go_sem]
  have hAq : ∀ o, ((w.alloc (.cells #[.slice a R cap, .int .i64 (C : Int)] 24)).alloc o).cell? ⟨w.heap.size, 1, none⟩ = some (.int .i64 (C : Int)) := fun o => by simp [go_sem]
  clear hF hl hL hn hR hdot
  go_enter Try.func3, Try.ntmps3
  go_wp2_with fail
  obtain ⟨V, hV⟩ : ∃ V, V = (w.alloc (.cells #[.slice a R cap, .int .i64 (C : Int)] 24)).alloc (.cells #[.int .i64 r, .int .i64 c, .int .i64 n, .bool b] 28) := ⟨_, rfl⟩
  have p0 : V.cell? ⟨w.heap.size + 1, 0, none⟩ = some (.int .i64 r) := by rw [hV]; simp [go_sem]
  have p1 : V.cell? ⟨w.heap.size + 1, 1, none⟩ = some (.int .i64 c) := by rw [hV]; simp [go_sem]
  have p2 : V.cell? ⟨w.heap.size + 1, 2, none⟩ = some (.int .i64 n) := by rw [hV]; simp [go_sem]
  have p3 : V.cell? ⟨w.heap.size + 1, 3, none⟩ = some (.bool b) := by rw [hV]; simp [go_sem]
  have s0 : V.cell? ⟨w.heap.size, 0, none⟩ = some (.slice a R cap) := by rw [hV]; exact hAp _
  have s1 : V.cell? ⟨w.heap.size, 1, none⟩ = some (.int .i64 (C : Int)) := by rw [hV]; exact hAq _
  rw [← hV] at kA ⊢
  clear hV hAp hAq
  refine (few_any a R cap (C : Int) V HL.out).mono ?_
  rw [HB.out]
  rintro e w1 ⟨rfl, k1⟩
  replace s0 := kcell k1 s0
  replace s1 := kcell k1 s1
  replace kA := kA.trans k1
  go_wp2_with fail
  refine (HM.out w1 kA).mono ?_
  rintro e w2 ⟨g, t, cg, h, u, ch, rfl, n1, n2, n3, n4, n5, n6, n7, n8, hg, hh, k2⟩
  have hV1 : w.heap.size + 1 < V.heap.size := World.block_lt_of_cell? V _ p0
  have hV2 := k1.size
  replace k1 := k1.trans k2
  have hph : Ph w g t cg h u ch (w.heap.size + 1) R C r c n b F F w2 := ⟨hg, hh, kA.trans k2, kcell k1 p0, kcell k1 p1, kcell k1 p2, kcell k1 p3, by omega, by omega, n8, n7, fun e => n6 e.symm, by omega, by omega⟩
  clear k1 k2 s0 s1 p0 p1 p2 p3 hg hh kA n1 n2 n3 n4 n5 n6 n7 n8 hV1 hV2
  obtain ⟨q, hq⟩ : ∃ q, q = w.heap.size + 1 := ⟨_, rfl⟩
  rw [← hq] at hph ⊢
  clear hq
  have p0 := hph.p0
  have h0 := hph.ref.c0
  have hor : (r < 0 ∨ (¬ r < 0 ∧ (R : Int) ≤ r)) ∨ (0 ≤ r ∧ r < R) := by omega
  rcases hor with (hr | ⟨hr, hr2⟩) | ⟨hr, hr2⟩
  case' inl.inl =>
    have hd : decide (r < 0) = true := decide_eq_true hr
    go_wp2_with fail
    refine (guarded_out g t cg R C F r w2 hph.grid (by omega)).mono ?_
    rintro e w3 ⟨rfl, k3⟩
    replace hph := hph.keep k3
    replace p0 := hph.p0
    replace h0 := hph.ref.c0
    clear k3
    have HP := Lib.hid hph
    clear hph
    go_wp2_with fail
    go_quiet (fail)
    replace HP : Hid (Ph w g t cg h u ch q R C r c n b F F (w3.drewN nq)) := HP.out.keep ((Kept.refl _ w3).drewN _)
    generalize w3.drewN nq = W4 at HP ⊢
    clear p0 h0 hd hr
    have p0 := HP.out.p0
    have p2 := HP.out.p2
    have p3 := HP.out.p3
    go_wp2_with fail
  case' inl.inr =>
    have hd : decide (r < 0) = false := decide_eq_false hr
    have hd2 : decide ((R : Int) ≤ r) = true := decide_eq_true hr2
    go_wp2_with fail
    refine (guarded_out g t cg R C F r w2 hph.grid (by omega)).mono ?_
    rintro e w3 ⟨rfl, k3⟩
    replace hph := hph.keep k3
    replace p0 := hph.p0
    replace h0 := hph.ref.c0
    clear k3
    have HP := Lib.hid hph
    clear hph
    go_wp2_with fail
    go_quiet (fail)
    replace HP : Hid (Ph w g t cg h u ch q R C r c n b F F (w3.drewN nq)) := HP.out.keep ((Kept.refl _ w3).drewN _)
    generalize w3.drewN nq = W4 at HP ⊢
    clear p0 h0 hd hd2 hr hr2
    have p0 := HP.out.p0
    have p2 := HP.out.p2
    have p3 := HP.out.p3
    go_wp2_with fail
  case' inr =>
    have hd : decide (r < 0) = false := decide_eq_false (by omega)
    have hd2 : decide ((R : Int) ≤ r) = false := decide_eq_false (by omega)
    have HG1 : Hid (∀ w', Kept0 w2 w' → Calls Try.prog 12 #[.pointer (some ⟨g, 0, none⟩), .int .i64 r] w' fun e w'' => e = .returned (.tuple #[.int .i64 (cnt F (r.toNat * C) ((R - r.toNat) * C) : Int), .int .i64 0]) ∧ Kept0 w' w'') := fun w' k => by
      have := guarded_ok g t cg R C F r.toNat w' (hph.keep k).grid (by omega)
      rwa [Int.toNat_of_nonneg hr] at this
    have HG2 : Hid (∀ w', Kept0 w2 w' → Calls Try.prog 13 #[.pointer (some ⟨h, 0, none⟩), .int .i64 r] w' fun e w'' => e = .returned (.int .i64 (cnt F (r.toNat * C) ((R - r.toNat) * C) : Int)) ∧ Kept0 w' w'') := fun w' k => by
      have := guardedR h u ch R C F r.toNat w' (hph.keep k).ref (by omega)
      rwa [Int.toNat_of_nonneg hr] at this
    generalize hv : (cnt F (r.toNat * C) ((R - r.toNat) * C) : Int) = v at HG1 HG2
    clear hv
    go_wp2_with fail
    refine (HG1.out w2 (Kept.refl _ _)).mono ?_
    rintro e w3 ⟨rfl, k3⟩
    replace hph := hph.keep k3
    replace p0 := hph.p0
    replace h0 := hph.ref.c0
    have HP := Lib.hid hph
    clear hph
    go_wp2_with fail
    go_quiet (fail)
    have k4 : Kept0 w2 (w3.drewN nq) := k3.trans ((Kept.refl _ w3).drewN _)
    replace HP : Hid (Ph w g t cg h u ch q R C r c n b F F (w3.drewN nq)) := HP.out.keep ((Kept.refl _ w3).drewN _)
    generalize w3.drewN nq = W3 at HP k4 ⊢
    clear p0 h0 hd hd2 hr hr2
    have p0 := HP.out.p0
    go_wp2_with fail
    refine (HG2.out W3 k4).mono ?_
    rintro e W4 ⟨rfl, k5⟩
    replace HP : Hid (Ph w g t cg h u ch q R C r c n b F F W4) := HP.out.keep k5
    clear k3 k4 k5 p0
    have p0 := HP.out.p0
    have p2 := HP.out.p2
    have p3 := HP.out.p3
    go_wp2_with fail
  all_goals
    go_region_held3 (fun w' => w'.cell? ⟨q, 0, none⟩ = some (.int .i64 r) ∧ w'.cell? ⟨q, 2, none⟩ = some (.int .i64 n) ∧ w'.cell? ⟨q, 3, none⟩ = some (.bool b)) (go_keep)
      (first
        | (go_at_call 15; refine (HC.out _).mono ?_; rintro e9 w6 ⟨rfl, k6⟩; have P3 : Hid (Ph w g t cg h u ch q R C r c n b (linesF R C F r n dot b) F w6) := P2.out.keep k6; have v0 := P3.out.p0; have v2 := P3.out.p2; have v3 := P3.out.p3)
        | (go_at_call 15; refine (HC.out _).mono ?_; rintro e9 w6 ⟨rfl, k6⟩; have P1 : Hid (Ph w g t cg h u ch q R C r c n b F F w6) := HP.out.drew.keep k6; have v0 := P1.out.p0; have v2 := P1.out.p2; have v3 := P1.out.p3)
        | (go_at_call 14; refine (lines_any g t cg R C F r n dot b _ P1.out.grid HN.out.2).mono ?_; rintro e9 w6 ⟨rfl, hg6, k6⟩; have P2 : Hid (Ph w g t cg h u ch q R C r c n b (linesF R C F r n dot b) F w6) := P1.out.ongrid hg6 k6; have v0 := P2.out.p0; have v2 := P2.out.p2; have v3 := P2.out.p3)
        | (go_at_call 16; refine (linesR h u ch R C F r n dot b _ P3.out.ref HN.out).mono ?_; rintro e9 w6 ⟨rfl, hg6, k6⟩; have P4 : Hid (Ph w g t cg h u ch q R C r c n b (linesF R C F r n dot b) (linesF R C F r n dot b) w6) := P3.out.onref hg6 k6; have v0 := P4.out.p0; have v2 := P4.out.p2; have v3 := P4.out.p3)
        | (go_at_call 17; refine (sameL g t cg h u ch R C _ _ P4.out.grid P4.out.ref).mono ?_; rintro e9 w6 ⟨rfl, k6⟩; have P5 : Hid (Ph w g t cg h u ch q R C r c n b (linesF R C F r n dot b) (linesF R C F r n dot b) w6) := P4.out.keep k6; have v0 := P5.out.p0; have v2 := P5.out.p2; have v3 := P5.out.p3))
  all_goals
    clear HP p0 p2 p3
    generalize linesF R C F r n dot b = F2 at P5
    go_wp2_with fail
    have p2 := P5.out.p2
    clear P1 P2 P3 P4
    go_region_held3 (fun w' => w'.cell? ⟨q, 2, none⟩ = some (.int .i64 n)) (go_keep)
      (first
        | (go_at_call 15; refine (HC.out _).mono ?_; rintro e9 w7 ⟨rfl, k7⟩; have P6 : Hid (Ph w g t cg h u ch q R C r c n b F2 F2 w7) := P5.out.drew.keep k7; have v2 := P6.out.p2)
        | (go_at_call 18; refine (up_any g t cg R C F2 n dot _ P6.out.grid).mono ?_; rintro e9 w8 ⟨rfl, hg8, k8⟩; have P7 : Hid (Ph w g t cg h u ch q R C r c n b (upF R C F2 n dot) F2 w8) := P6.out.ongrid hg8 k8; have v2 := P7.out.p2))
  all_goals
    go_wp2_with fail
    have p22 := P7.out.p2
    clear P5 P6 p2
    go_region_held3 (fun w' => w'.cell? ⟨q, 2, none⟩ = some (.int .i64 n)) (go_keep)
      (first
        | (go_at_call 15; refine (HC.out _).mono ?_; rintro e9 w9 ⟨rfl, k9⟩; have P8 : Hid (Ph w g t cg h u ch q R C r c n b (upF R C F2 n dot) F2 w9) := P7.out.drew.keep k9; have v2 := P8.out.p2)
        | (go_at_call 19; refine (upR h u ch R C F2 n dot _ P8.out.ref HN.out).mono ?_; rintro e9 w10 ⟨rfl, hg10, k10⟩; have P9 : Hid (Ph w g t cg h u ch q R C r c n b (upF R C F2 n dot) (upF R C F2 n dot) w10) := P8.out.onref hg10 k10; have v2 := P9.out.p2))
  all_goals
    go_wp2_with fail
    refine (sameL g t cg h u ch R C _ _ P9.out.grid P9.out.ref).mono ?_
    rintro e w11 ⟨rfl, k11⟩
    go_wp2_with fail
    refine (awake_any _).mono ?_
    rintro e w12 ⟨rfl, k12⟩
    go_wp2_with fail
    go_ret
    exact ⟨rfl, Kept0.below ((P9.out.kept.trans k11).trans k12)⟩
end Go.Proofs.Ytljfbocjnpnaiaa
