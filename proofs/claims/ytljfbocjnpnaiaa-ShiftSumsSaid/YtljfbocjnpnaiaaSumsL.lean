/-
  The law ShiftSums.
-/
import Derived.Test.YtljfbocjnpnaiaaSameG
namespace Go.Proofs.Ytljfbocjnpnaiaa
open Go.RowKit

/-- Two moves of one sign are one. -/
theorem moveF_sum (f : Nat → Cel) (o L : Nat) (a b : Int) (x : Cel) (k : Nat) (h : (0 ≤ a ∧ 0 ≤ b) ∨ (a ≤ 0 ∧ b ≤ 0)) : moveF (moveF f o L a x) o L b x k = moveF f o L (a + b) x k := by
  unfold moveF
  by_cases h1 : o ≤ k ∧ k < o + L
  · rw [if_pos h1, if_pos h1]
    by_cases h2 : (o : Int) ≤ k + b ∧ (k : Int) + b < o + L
    · rw [if_pos h2, if_pos (by omega)]
      have e : (((k : Int) + b).toNat : Int) = (k : Int) + b := Int.toNat_of_nonneg (by omega)
      rw [e, show (k : Int) + b + a = (k : Int) + (a + b) by omega]
    · rw [if_neg h2, if_neg (by omega)]
  · rw [if_neg h1, if_neg h1, if_neg h1]

/-- Two numbers of one sign, not great. -/
def OneSign (n m : Int) : Prop := (0 ≤ n ∧ n ≤ 10 ∧ 0 ≤ m ∧ m ≤ 10) ∨ (-10 ≤ n ∧ n ≤ 0 ∧ -10 ≤ m ∧ m ≤ 0)
theorem opp_small {n : Int} (h : -1000 ≤ n) : opp n = -n := by unfold opp; omega

theorem lines_sum (R C : Nat) (f : Nat → Cel) (r n m : Int) (x : Cel) (h : OneSign n m) (k : Nat) : linesF R C (linesF R C f r n x false) r m x false k = linesF R C f r (n + m) x false k := by
  by_cases hr : 0 ≤ r ∧ r < R
  · have hf : ∀ (f : Nat → Cel) (n : Int), linesF R C f r n x false = moveF f (r.toNat * C) ((R - r.toNat) * C) (opp n * C) x := fun f n => if_pos ⟨hr, fun e => by cases e⟩
    have e1 : ∀ n : Int, n ≤ 0 → n * (C : Int) ≤ 0 := fun n hn => by have := Int.mul_le_mul_of_nonneg_right hn (show (0 : Int) ≤ C by omega); simpa using this
    have e2 : ∀ n : Int, 0 ≤ n → 0 ≤ n * (C : Int) := fun n hn => Int.mul_nonneg hn (by omega)
    rw [hf, hf, hf]
    unfold OneSign at h
    rw [opp_small (n := n) (by omega), opp_small (n := m) (by omega), opp_small (n := n + m) (by omega), moveF_sum, ← Int.add_mul, show -n + -m = -(n + m) by omega]
    rcases h with h | h
    · exact Or.inr ⟨e1 _ (by omega), e1 _ (by omega)⟩
    · exact Or.inl ⟨e2 _ (by omega), e2 _ (by omega)⟩
  · have hf : ∀ (f : Nat → Cel) (n : Int), linesF R C f r n x false = f := fun f n => if_neg (fun e => hr e.1)
    rw [hf, hf, hf]

theorem chars_sum (R C : Nat) (f : Nat → Cel) (r c n m : Int) (x : Cel) (h : OneSign n m) (k : Nat) : charsF R C (charsF R C f r c n x false) r c m x false k = charsF R C f r c (n + m) x false k := by
  by_cases hr : 0 ≤ r ∧ r < R ∧ 0 ≤ c ∧ c < C
  · have hf : ∀ (f : Nat → Cel) (n : Int), charsF R C f r c n x false = moveF f (idx C r c) (C - 1 + 1 - c.toNat) (opp n) x := fun f n => if_pos ⟨hr, fun e => by cases e.1⟩
    rw [hf, hf, hf]
    unfold OneSign at h
    rw [opp_small (n := n) (by omega), opp_small (n := m) (by omega), opp_small (n := n + m) (by omega), moveF_sum, show -n + -m = -(n + m) by omega]
    omega
  · have hf : ∀ (f : Nat → Cel) (n : Int), charsF R C f r c n x false = f := fun f n => if_neg (fun e => hr e.1)
    rw [hf, hf, hf]

theorem up_sum (R C : Nat) (f : Nat → Cel) (n m : Int) (x : Cel) (h : OneSign n m) (k : Nat) : upF R C (upF R C f n x) m x k = upF R C f (n + m) x k := by
  have e1 : ∀ n : Int, n ≤ 0 → n * (C : Int) ≤ 0 := fun n hn => by have := Int.mul_le_mul_of_nonneg_right hn (show (0 : Int) ≤ C by omega); simpa using this
  have e2 : ∀ n : Int, 0 ≤ n → 0 ≤ n * (C : Int) := fun n hn => Int.mul_nonneg hn (by omega)
  unfold upF
  unfold OneSign at h
  rw [moveF_sum, ← Int.add_mul]
  rcases h with h | h
  · exact Or.inl ⟨e2 _ (by omega), e2 _ (by omega)⟩
  · exact Or.inr ⟨e1 _ (by omega), e1 _ (by omega)⟩

/-- Two grids, with the cells fg and fh; what is asked lies in block p, what fills in block d; all that was there is kept. -/
structure Pg (w : World) (g t cg h u ch p d R C : Nat) (r c : Int) (b : Bool) (x : Cel) (fg fh : Nat → Cel) (w' : World) : Prop where
  grid : GridAt w' g t cg R C fg
  grid2 : GridAt w' h u ch R C fh
  kept : Kept0 w w'
  p0 : w'.cell? ⟨p, 0, none⟩ = some (.int .i64 r)
  p1 : w'.cell? ⟨p, 1, none⟩ = some (.int .i64 c)
  p3 : w'.cell? ⟨p, 3, none⟩ = some (.bool b)
  dt : CelAt w' d x
  n1 : w.heap.size ≤ t
  n2 : w.heap.size ≤ u
  n3 : ¬ t = u
  n4 : ¬ t = h
  n5 : ¬ u = g
  n6 : ¬ p = t
  n7 : ¬ p = u
  n8 : ¬ d = t
  n9 : ¬ d = u

namespace Pg
variable {w : World} {g t cg h u ch p d R C : Nat} {r c : Int} {b : Bool} {x : Cel} {fg fh : Nat → Cel} {w1 : World}
theorem keep (H : Pg w g t cg h u ch p d R C r c b x fg fh w1) {w2 : World} (k : Kept0 w1 w2) : Pg w g t cg h u ch p d R C r c b x fg fh w2 :=
  ⟨H.grid.kept k (fun e => e) (fun e => e), H.grid2.kept k (fun e => e) (fun e => e), H.kept.trans k, kcell k H.p0, kcell k H.p1, kcell k H.p3, H.dt.kept k (fun e => e), H.n1, H.n2, H.n3, H.n4, H.n5, H.n6, H.n7, H.n8, H.n9⟩
theorem on1 (H : Pg w g t cg h u ch p d R C r c b x fg fh w1) {w2 : World} {fg' : Nat → Cel} (hg : GridAt w2 g t cg R C fg') (k : Kept (· = t) w1 w2) : Pg w g t cg h u ch p d R C r c b x fg' fh w2 :=
  ⟨hg, H.grid2.kept k (fun e => H.n4 e.symm) (fun e => H.n3 e.symm), H.kept.later k (fun i hi e => by have := H.n1; omega), kcellS k H.p0 H.n6, kcellS k H.p1 H.n6, kcellS k H.p3 H.n6, H.dt.kept k H.n8, H.n1, H.n2, H.n3, H.n4, H.n5, H.n6, H.n7, H.n8, H.n9⟩
theorem on2 (H : Pg w g t cg h u ch p d R C r c b x fg fh w1) {w2 : World} {fh' : Nat → Cel} (hg : GridAt w2 h u ch R C fh') (k : Kept (· = u) w1 w2) : Pg w g t cg h u ch p d R C r c b x fg fh' w2 :=
  ⟨H.grid.kept k (fun e => H.n5 e.symm) (fun e => H.n3 e), hg, H.kept.later k (fun i hi e => by have := H.n2; omega), kcellS k H.p0 H.n7, kcellS k H.p1 H.n7, kcellS k H.p3 H.n7, H.dt.kept k H.n9, H.n1, H.n2, H.n3, H.n4, H.n5, H.n6, H.n7, H.n8, H.n9⟩
theorem as1 (H : Pg w g t cg h u ch p d R C r c b x fg fh w1) {f' : Nat → Cel} (e : ∀ k, fg k = f' k) : Pg w g t cg h u ch p d R C r c b x f' fh w1 :=
  ⟨H.grid.congr (fun k _ => e k), H.grid2, H.kept, H.p0, H.p1, H.p3, H.dt, H.n1, H.n2, H.n3, H.n4, H.n5, H.n6, H.n7, H.n8, H.n9⟩
end Pg

set_option maxHeartbeats 4000000 in
set_option maxRecDepth 100000 in
theorem sums_calls (a : Option Addr) (cap : Nat) (C : Int) (l : List ByteArray) (r c z : Int) (b : Bool) (n m : Int) (w : World) (hl : StrsIn w a l) (hL : l.length ≤ 9223372036854775807) :
    Calls Try.prog 8 #[.agg #[.slice a l.length cap, .int .i64 C], .agg #[.int .i64 r, .int .i64 c, .int .i64 z, .bool b], .agg #[.int .i64 n, .int .i64 m]] w fun e w' => e = .returned (.bool true) ∧ Below w.heap.size w w' := by
  have kA : Kept0 w (((w.alloc (.cells #[.slice a l.length cap, .int .i64 C] 24)).alloc (.cells #[.int .i64 r, .int .i64 c, .int .i64 z, .bool b] 28)).alloc (.cells #[.int .i64 n, .int .i64 m] 66)) := (((Kept.refl _ w).alloc _).alloc _).alloc _
  by_cases hf : 1 ≤ l.length ∧ l.length ≤ 8 ∧ 1 ≤ C ∧ C ≤ 12
  rotate_left
  · have HB : Hid (fewB l.length C = false) := decide_eq_false hf
    clear hf
    have HL := Lib.hid hL
    clear hL hl
    go_enter Try.func8, Try.ntmps8
    go_wp2_with fail
    refine (few_any a l.length cap C _ HL.out).mono ?_
    rw [HB.out]
    rintro e w1 ⟨rfl, k1⟩
    go_wp2_with fail
    refine (awake_any _).mono ?_
    rintro e w2 ⟨rfl, k2⟩
    go_wp2_with fail
    go_ret
    exact ⟨rfl, Kept0.below ((kA.trans k1).trans k2)⟩
  have HB : Hid (fewB l.length C = true) := decide_eq_true hf
  by_cases c1 : n < 0
  · clear hf
    have HL := Lib.hid hL
    clear hL hl
    go_enter Try.func8, Try.ntmps8
    go_wp2_with fail
    refine (few_any a l.length cap C _ HL.out).mono ?_
    rw [HB.out]
    rintro e w1 ⟨rfl, k1⟩
    go_wp2_with fail
    refine (awake_any _).mono ?_
    rintro e w2 ⟨rfl, k2⟩
    go_wp2_with fail
    go_ret
    exact ⟨rfl, Kept0.below ((kA.trans k1).trans k2)⟩
  by_cases c2 : 10 < n
  · have d1 : decide (n < 0) = false := decide_eq_false c1
    clear hf
    have HL := Lib.hid hL
    clear hL hl
    go_enter Try.func8, Try.ntmps8
    go_wp2_with fail
    refine (few_any a l.length cap C _ HL.out).mono ?_
    rw [HB.out]
    rintro e w1 ⟨rfl, k1⟩
    go_wp2_with fail
    refine (awake_any _).mono ?_
    rintro e w2 ⟨rfl, k2⟩
    go_wp2_with fail
    go_ret
    exact ⟨rfl, Kept0.below ((kA.trans k1).trans k2)⟩
  by_cases c3 : m < 0
  · have d1 : decide (n < 0) = false := decide_eq_false c1
    have d2 : decide (10 < n) = false := decide_eq_false c2
    clear hf
    have HL := Lib.hid hL
    clear hL hl
    go_enter Try.func8, Try.ntmps8
    go_wp2_with fail
    refine (few_any a l.length cap C _ HL.out).mono ?_
    rw [HB.out]
    rintro e w1 ⟨rfl, k1⟩
    go_wp2_with fail
    refine (awake_any _).mono ?_
    rintro e w2 ⟨rfl, k2⟩
    go_wp2_with fail
    go_ret
    exact ⟨rfl, Kept0.below ((kA.trans k1).trans k2)⟩
  by_cases c4 : 10 < m
  · have d1 : decide (n < 0) = false := decide_eq_false c1
    have d2 : decide (10 < n) = false := decide_eq_false c2
    have d3 : decide (m < 0) = false := decide_eq_false c3
    clear hf
    have HL := Lib.hid hL
    clear hL hl
    go_enter Try.func8, Try.ntmps8
    go_wp2_with fail
    refine (few_any a l.length cap C _ HL.out).mono ?_
    rw [HB.out]
    rintro e w1 ⟨rfl, k1⟩
    go_wp2_with fail
    refine (awake_any _).mono ?_
    rintro e w2 ⟨rfl, k2⟩
    go_wp2_with fail
    go_ret
    exact ⟨rfl, Kept0.below ((kA.trans k1).trans k2)⟩
  have d1 : decide (n < 0) = false := decide_eq_false c1
  have d2 : decide (10 < n) = false := decide_eq_false c2
  have d3 : decide (m < 0) = false := decide_eq_false c3
  have d4 : decide (10 < m) = false := decide_eq_false c4
  obtain ⟨f1, f2, f3, f4⟩ := hf
  obtain ⟨C, rfl⟩ := Int.eq_ofNat_of_zero_le (show 0 ≤ C by omega)
  obtain ⟨dot, hdot⟩ : ∃ dot, dot = celB 46 := ⟨_, rfl⟩
  have HC : Hid (∀ w : World, Calls Try.prog 15 #[.int .u8 46] w fun e w' => e = .returned dot.v ∧ Kept0 w w') := fun w => by rw [hdot]; exact cellL 46 w (by omega) (by omega)
  have HM : Hid (∀ w', Kept0 w w' → _) := fun w' k => made_any a cap C l w' (hl.kept0 k) f1 f2 (by omega) (by omega)
  have HL := Lib.hid hL
  obtain ⟨F, hF⟩ : ∃ F, F = boardF C l := ⟨_, rfl⟩
  rw [← hF] at HM
  obtain ⟨R, hR⟩ : ∃ R, R = l.length := ⟨_, rfl⟩
  rw [← hR] at f1 f2 HM HL HB kA ⊢
  clear hF hl hL hR hdot
  go_enter Try.func8, Try.ntmps8
  obtain ⟨V, hV⟩ : ∃ V, V = ((w.alloc (.cells #[.slice a R cap, .int .i64 (C : Int)] 24)).alloc (.cells #[.int .i64 r, .int .i64 c, .int .i64 z, .bool b] 28)).alloc (.cells #[.int .i64 n, .int .i64 m] 66) := ⟨_, rfl⟩
  have ka : Kept0 (w.alloc (.cells #[.slice a R cap, .int .i64 (C : Int)] 24)) V := by rw [hV]; exact ((Kept.refl _ _).alloc _).alloc _
  have kb : Kept0 ((w.alloc (.cells #[.slice a R cap, .int .i64 (C : Int)] 24)).alloc (.cells #[.int .i64 r, .int .i64 c, .int .i64 z, .bool b] 28)) V := by rw [hV]; exact (Kept.refl _ _).alloc _
  have s0 : V.cell? ⟨w.heap.size, 0, none⟩ = some (.slice a R cap) := kcell ka (by simp [go_sem])
  have s1 : V.cell? ⟨w.heap.size, 1, none⟩ = some (.int .i64 (C : Int)) := kcell ka (by simp [go_sem])
  have p0 : V.cell? ⟨w.heap.size + 1, 0, none⟩ = some (.int .i64 r) := kcell kb (by simp [go_sem])
  have p1 : V.cell? ⟨w.heap.size + 1, 1, none⟩ = some (.int .i64 c) := kcell kb (by simp [go_sem])
  have p2 : V.cell? ⟨w.heap.size + 1, 2, none⟩ = some (.int .i64 z) := kcell kb (by simp [go_sem])
  have p3 : V.cell? ⟨w.heap.size + 1, 3, none⟩ = some (.bool b) := kcell kb (by simp [go_sem])
  have q0 : V.cell? ⟨w.heap.size + 2, 0, none⟩ = some (.int .i64 n) := by rw [hV]; simp [go_sem]
  have q1 : V.cell? ⟨w.heap.size + 2, 1, none⟩ = some (.int .i64 m) := by rw [hV]; simp [go_sem]
  have hVs : w.heap.size + 2 < V.heap.size := World.block_lt_of_cell? V _ q0
  go_wp2_with fail
  rw [← hV] at kA ⊢
  clear hV ka kb
  refine (few_any a R cap (C : Int) V HL.out).mono ?_
  rw [HB.out]
  rintro e w1 ⟨rfl, k1⟩
  have hs1 := k1.size
  replace s0 := kcell k1 s0
  replace s1 := kcell k1 s1
  replace p0 := kcell k1 p0
  replace p1 := kcell k1 p1
  replace p2 := kcell k1 p2
  replace p3 := kcell k1 p3
  replace kA := kA.trans k1
  clear q0 q1 k1
  go_wp2_with fail
  have hos : OneSign (-n) (-m) := Or.inr ⟨by omega, by omega, by omega, by omega⟩
  generalize -n = N at hos ⊢
  generalize -m = M at hos ⊢
  rotate_left
  have hos : OneSign n m := Or.inl ⟨by omega, by omega, by omega, by omega⟩
  generalize n = N at hos ⊢
  generalize m = M at hos ⊢
  all_goals
    have hN : -10 ≤ N ∧ N ≤ 10 := by unfold OneSign at hos; omega
    have hM : -10 ≤ M ∧ M ≤ 10 := by unfold OneSign at hos; omega
    obtain ⟨hN1, hN2⟩ := hN
    obtain ⟨hM1, hM2⟩ := hM
    have HOS := Lib.hid hos
    clear hos
    refine (HM.out w1 kA).mono ?_
    rintro e w2 ⟨g, t, cg, g9, t9, c9, rfl, n1, n2, _, _, _, _, _, _, hg, _, k2⟩
    have hs2 := k2.size
    have hgl := hg.lt
    have htl := hg.row.lt
    replace s0 := kcell k2 s0
    replace s1 := kcell k2 s1
    replace p0 := kcell k2 p0
    replace p1 := kcell k2 p1
    replace p3 := kcell k2 p3
    clear p2
    go_wp2_with fail
    refine (HM.out w2 (kA.trans k2)).mono ?_
    rintro e w3 ⟨h, u, ch, g8, t8, c8, rfl, m1, m2, _, _, _, _, _, _, hh, _, k3⟩
    replace hg := hg.kept k3 (fun e => e) (fun e => e)
    replace p0 := kcell k3 p0
    replace p1 := kcell k3 p1
    replace p3 := kcell k3 p3
    replace kA := (kA.trans k2).trans k3
    clear k2 k3 s0 s1
    go_wp2_with fail
    refine (HC.out _).mono ?_
    rintro e w4 ⟨rfl, k4⟩
    replace hg := hg.kept k4 (fun e => e) (fun e => e)
    replace hh := hh.kept k4 (fun e => e) (fun e => e)
    replace p0 := kcell k4 p0
    replace p1 := kcell k4 p1
    replace p3 := kcell k4 p3
    replace kA := kA.trans k4
    clear k4
    have hpl : w.heap.size + 1 < w4.heap.size := World.block_lt_of_cell? w4 _ p0
    have htl4 := hg.row.lt
    have hul4 := hh.row.lt
    have hsw := kA.size
    obtain ⟨W, hW⟩ : ∃ W, W = w4.alloc (.cells #[.int .i32 dot.g, .int .i64 dot.a, .bool dot.b, .int .i64 dot.m] 44) := ⟨_, rfl⟩
    have kW : Kept0 w4 W := by rw [hW]; exact (Kept.refl _ w4).alloc _
    have P : Pg w g t cg h u ch (w.heap.size + 1) w4.heap.size R C r c b dot F F W := ⟨hg.kept kW (fun e => e) (fun e => e), hh.kept kW (fun e => e) (fun e => e), kA.trans kW, kcell kW p0, kcell kW p1, kcell kW p3, by rw [hW]; exact CelAt.new w4 dot 44, by omega, by omega, by omega, by omega, by omega, by omega, by omega, by omega, by omega⟩
    have HP := Lib.hid P
    have z0 := P.p0
    have z1 := P.p1
    obtain ⟨x0, x1, x2, x3⟩ := P.dt
    clear P kW hg hh kA
    cases b
    case true =>
      go_wp2_with fail
      rw [← hW]
      clear hW
      refine (lines_any g t cg R C F r N dot false W HP.out.grid (by omega)).mono ?_
      rintro e w5 ⟨rfl, hgn, kn⟩
      have P1 : Hid (Pg w g t cg h u ch (w.heap.size + 1) w4.heap.size R C r c true dot (linesF R C F r N dot false) F w5) := HP.out.on1 hgn kn
      clear hgn kn z0 z1 x0 x1 x2 x3
      have z0 := P1.out.p0
      have z1 := P1.out.p1
      obtain ⟨x0, x1, x2, x3⟩ := P1.out.dt
      go_wp2_with fail
      refine (lines_any g t cg R C (linesF R C F r N dot false) r M dot false w5 P1.out.grid (by omega)).mono ?_
      rintro e w6 ⟨rfl, hgn, kn⟩
      have P2 : Hid (Pg w g t cg h u ch (w.heap.size + 1) w4.heap.size R C r c true dot (linesF R C (linesF R C F r N dot false) r M dot false) F w6) := P1.out.on1 hgn kn
      clear hgn kn z0 z1 x0 x1 x2 x3
      have z0 := P2.out.p0
      have z1 := P2.out.p1
      obtain ⟨x0, x1, x2, x3⟩ := P2.out.dt
      go_wp2_with fail
      refine (lines_any h u ch R C F r (N + M) dot false w6 P2.out.grid2 (by omega)).mono ?_
      rintro e w7 ⟨rfl, hgn, kn⟩
      have P3 : Hid (Pg w g t cg h u ch (w.heap.size + 1) w4.heap.size R C r c true dot (linesF R C (linesF R C F r N dot false) r M dot false) (linesF R C F r (N + M) dot false) w7) := P2.out.on2 hgn kn
      clear hgn kn z0 z1 x0 x1 x2 x3
      have z0 := P3.out.p0
      have z1 := P3.out.p1
      obtain ⟨x0, x1, x2, x3⟩ := P3.out.dt
      go_wp2_with fail
      have P4 := P3.out.as1 (lines_sum R C F r N M dot HOS.out)
      refine (sameG_any w7 g t cg h u ch R C _ P4.grid P4.grid2).mono ?_
      rintro e w8 ⟨rfl, k8⟩
      go_wp2_with fail
      refine (awake_any _).mono ?_
      rintro e w9 ⟨rfl, k9⟩
      go_wp2_with fail
      go_ret
      exact ⟨rfl, Kept0.below ((P4.kept.trans k8).trans k9)⟩
    case false =>
      go_wp2_with fail
      rw [← hW]
      clear hW
      refine (chars_any g t cg R C F r c N dot false W HP.out.grid (by omega)).mono ?_
      rintro e w5 ⟨rfl, hgn, kn⟩
      have P1 : Hid (Pg w g t cg h u ch (w.heap.size + 1) w4.heap.size R C r c false dot (charsF R C F r c N dot false) F w5) := HP.out.on1 hgn kn
      clear hgn kn z0 z1 x0 x1 x2 x3
      have z0 := P1.out.p0
      have z1 := P1.out.p1
      obtain ⟨x0, x1, x2, x3⟩ := P1.out.dt
      go_wp2_with fail
      refine (chars_any g t cg R C (charsF R C F r c N dot false) r c M dot false w5 P1.out.grid (by omega)).mono ?_
      rintro e w6 ⟨rfl, hgn, kn⟩
      have P2 : Hid (Pg w g t cg h u ch (w.heap.size + 1) w4.heap.size R C r c false dot (charsF R C (charsF R C F r c N dot false) r c M dot false) F w6) := P1.out.on1 hgn kn
      clear hgn kn z0 z1 x0 x1 x2 x3
      have z0 := P2.out.p0
      have z1 := P2.out.p1
      obtain ⟨x0, x1, x2, x3⟩ := P2.out.dt
      go_wp2_with fail
      refine (chars_any h u ch R C F r c (N + M) dot false w6 P2.out.grid2 (by omega)).mono ?_
      rintro e w7 ⟨rfl, hgn, kn⟩
      have P3 : Hid (Pg w g t cg h u ch (w.heap.size + 1) w4.heap.size R C r c false dot (charsF R C (charsF R C F r c N dot false) r c M dot false) (charsF R C F r c (N + M) dot false) w7) := P2.out.on2 hgn kn
      clear hgn kn z0 z1 x0 x1 x2 x3
      have z0 := P3.out.p0
      have z1 := P3.out.p1
      obtain ⟨x0, x1, x2, x3⟩ := P3.out.dt
      go_wp2_with fail
      have P4 := P3.out.as1 (chars_sum R C F r c N M dot HOS.out)
      refine (sameG_any w7 g t cg h u ch R C _ P4.grid P4.grid2).mono ?_
      rintro e w8 ⟨rfl, k8⟩
      have P5 := Lib.hid (P4.keep k8)
      clear P4 P1 P2 P3 k8 z0 z1 x0 x1 x2 x3
      generalize charsF R C F r c (N + M) dot false = F2 at P5
      have z0 := P5.out.p0
      have z1 := P5.out.p1
      obtain ⟨x0, x1, x2, x3⟩ := P5.out.dt
      go_wp2_with fail
      refine (up_any g t cg R C F2 N dot w8 P5.out.grid).mono ?_
      rintro e w10 ⟨rfl, hgn, kn⟩
      have P6 : Hid (Pg w g t cg h u ch (w.heap.size + 1) w4.heap.size R C r c false dot (upF R C F2 N dot) F2 w10) := P5.out.on1 hgn kn
      clear hgn kn z0 z1 x0 x1 x2 x3
      have z0 := P6.out.p0
      have z1 := P6.out.p1
      obtain ⟨x0, x1, x2, x3⟩ := P6.out.dt
      go_wp2_with fail
      refine (up_any g t cg R C (upF R C F2 N dot) M dot w10 P6.out.grid).mono ?_
      rintro e w11 ⟨rfl, hgn, kn⟩
      have P7 : Hid (Pg w g t cg h u ch (w.heap.size + 1) w4.heap.size R C r c false dot (upF R C (upF R C F2 N dot) M dot) F2 w11) := P6.out.on1 hgn kn
      clear hgn kn z0 z1 x0 x1 x2 x3
      have z0 := P7.out.p0
      have z1 := P7.out.p1
      obtain ⟨x0, x1, x2, x3⟩ := P7.out.dt
      go_wp2_with fail
      refine (up_any h u ch R C F2 (N + M) dot w11 P7.out.grid2).mono ?_
      rintro e w12 ⟨rfl, hgn, kn⟩
      have P8 : Hid (Pg w g t cg h u ch (w.heap.size + 1) w4.heap.size R C r c false dot (upF R C (upF R C F2 N dot) M dot) (upF R C F2 (N + M) dot) w12) := P7.out.on2 hgn kn
      clear hgn kn z0 z1 x0 x1 x2 x3
      have z0 := P8.out.p0
      have z1 := P8.out.p1
      obtain ⟨x0, x1, x2, x3⟩ := P8.out.dt
      go_wp2_with fail
      have P9 := P8.out.as1 (up_sum R C F2 N M dot HOS.out)
      refine (sameG_any w12 g t cg h u ch R C _ P9.grid P9.grid2).mono ?_
      rintro e w13 ⟨rfl, k13⟩
      go_wp2_with fail
      refine (awake_any _).mono ?_
      rintro e w14 ⟨rfl, k14⟩
      go_wp2_with fail
      go_ret
      exact ⟨rfl, Kept0.below ((P9.kept.trans k13).trans k14)⟩
end Go.Proofs.Ytljfbocjnpnaiaa
