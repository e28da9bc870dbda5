/-
  The law ShiftGuards.
-/
import Derived.Test.YtljfbocjnpnaiaaGuardF
import Derived.Test.YtljfbocjnpnaiaaSameG
namespace Go.Proofs.Ytljfbocjnpnaiaa
open Go.RowKit

attribute [local go_sem] Oper.semAt_some

theorem round_call0 {l : Nat} {f : FuncId} {args : Array Value} {w : World} {R : Ending → World → Prop} (h : Calls Try.prog f args w R) :
    Fence.wide.fn f ∧ Fence.wide.depth = none ∧ CallsIn (Fence.wide.inRound l) 0 Try.prog f args w R :=
  ⟨trivial, rfl, CallsIn.inRound l (callsIn_wide.2 h)⟩

/-- A grid with the cells fg, a copy with the cells F; the place in block p, whether lines are moved in block q, the grid's address in block e, the answer in block v; all that was there is kept. -/
structure Pq (w : World) (g t cg h u ch p q e v R C : Nat) (r c : Int) (b : Bool) (fg F : Nat → Cel) (w' : World) : Prop where
  grid : GridAt w' g t cg R C fg
  copy : GridAt w' h u ch R C F
  kept : Kept0 w w'
  p0 : w'.cell? ⟨p, 0, none⟩ = some (.int .i64 r)
  p1 : w'.cell? ⟨p, 1, none⟩ = some (.int .i64 c)
  q0 : w'.cell? ⟨q, 0, none⟩ = some (.bool b)
  e0 : w'.cell? ⟨e, 0, none⟩ = some (.pointer (some ⟨g, 0, none⟩))
  v0 : BoolAt w' v false
  n1 : w.heap.size ≤ t
  n2 : ¬ h = t
  n3 : ¬ u = t
  n4 : ¬ p = t
  n5 : ¬ q = t
  n6 : ¬ e = t
  n7 : ¬ v = t
  n8 : w.heap.size ≤ v

namespace Pq
variable {w : World} {g t cg h u ch p q e v R C : Nat} {r c : Int} {b : Bool} {fg F : Nat → Cel} {w1 : World}
theorem keep (H : Pq w g t cg h u ch p q e v R C r c b fg F w1) {w2 : World} (k : Kept0 w1 w2) : Pq w g t cg h u ch p q e v R C r c b fg F w2 :=
  ⟨H.grid.kept k (fun e => e) (fun e => e), H.copy.kept k (fun e => e) (fun e => e), H.kept.trans k, kcell k H.p0, kcell k H.p1, kcell k H.q0, kcell k H.e0, H.v0.kept k (fun e => e), H.n1, H.n2, H.n3, H.n4, H.n5, H.n6, H.n7, H.n8⟩
theorem drew (H : Pq w g t cg h u ch p q e v R C r c b fg F w1) : Pq w g t cg h u ch p q e v R C r c b fg F w1.drew := H.keep (Kept.refl _ w1).drew
theorem on (H : Pq w g t cg h u ch p q e v R C r c b fg F w1) {w2 : World} {fg' : Nat → Cel} (hg : GridAt w2 g t cg R C fg') (k : Kept (· = t) w1 w2) : Pq w g t cg h u ch p q e v R C r c b fg' F w2 :=
  ⟨hg, H.copy.kept k H.n2 H.n3, H.kept.later k (fun i hi e => by have := H.n1; omega), kcellS k H.p0 H.n4, kcellS k H.p1 H.n4, kcellS k H.q0 H.n5, kcellS k H.e0 H.n6, H.v0.kept k H.n7, H.n1, H.n2, H.n3, H.n4, H.n5, H.n6, H.n7, H.n8⟩
end Pq

set_option maxHeartbeats 4000000 in
set_option maxRecDepth 100000 in
theorem guards_calls (a : Option Addr) (cap : Nat) (C : Int) (l : List ByteArray) (r c n : Int) (b : Bool) (w : World) (hl : StrsIn w a l) (hL : l.length ≤ 9223372036854775807) (hn : -9223372036854775808 ≤ n ∧ n ≤ 9223372036854775807) :
    Calls Try.prog 5 #[.agg #[.slice a l.length cap, .int .i64 C], .agg #[.int .i64 r, .int .i64 c, .int .i64 n, .bool b]] w fun e w' => e = .returned (.bool true) ∧ Below w.heap.size w w' := by
  have kA : Kept0 w (((w.alloc (.cells #[.slice a l.length cap, .int .i64 C] 24)).alloc (.cells #[.int .i64 r, .int .i64 c, .int .i64 n, .bool b] 28)).alloc (.cells #[.bool false] 4)) := (((Kept.refl _ w).alloc _).alloc _).alloc _
  have hB0 : BoolAt (((w.alloc (.cells #[.slice a l.length cap, .int .i64 C] 24)).alloc (.cells #[.int .i64 r, .int .i64 c, .int .i64 n, .bool b] 28)).alloc (.cells #[.bool false] 4)) (w.heap.size + 1 + 1) false := BoolAt.of (heap_new3 w _ _ _)
  have ka : Kept0 (w.alloc (.cells #[.slice a l.length cap, .int .i64 C] 24)) (((w.alloc (.cells #[.slice a l.length cap, .int .i64 C] 24)).alloc (.cells #[.int .i64 r, .int .i64 c, .int .i64 n, .bool b] 28)).alloc (.cells #[.bool false] 4)) := ((Kept.refl _ _).alloc _).alloc _
  have kb : Kept0 ((w.alloc (.cells #[.slice a l.length cap, .int .i64 C] 24)).alloc (.cells #[.int .i64 r, .int .i64 c, .int .i64 n, .bool b] 28)) (((w.alloc (.cells #[.slice a l.length cap, .int .i64 C] 24)).alloc (.cells #[.int .i64 r, .int .i64 c, .int .i64 n, .bool b] 28)).alloc (.cells #[.bool false] 4)) := (Kept.refl _ _).alloc _
  by_cases hf : 1 ≤ l.length ∧ l.length ≤ 8 ∧ 1 ≤ C ∧ C ≤ 12
  rotate_left
  · have HB : Hid (fewB l.length C = false) := decide_eq_false hf
    clear hf
    have HL := Lib.hid hL
    clear hL hn hl ka kb
    refine calls_marks Try.func5 rfl ?_
    simp only [Try.ntmps5, List.size_toArray, List.length_cons, List.length_nil, Nat.reduceAdd, Nat.reduceSub, Array.replicate_succ, Array.replicate_zero, List.push_toArray, List.append_toArray, List.nil_append, List.cons_append]
    go_wp2_with fail
    refine (few_any a l.length cap C _ HL.out).mono ?_
    rw [HB.out]
    rintro e w1 ⟨rfl, k1⟩
    go_wp2_with fail
    refine (awake_any _).mono ?_
    rintro e w2 ⟨rfl, k2⟩
    have hB2 := (hB0.kept k1 (fun e => e)).kept k2 (fun e => e)
    have b1 := hB2.c
    have b2 := hB2.f
    have hB4 := (hB2.set true).c
    go_wp2_with fail
    refine ⟨.bool true, by simp [results, Try.results5, go_sem, hB4], rfl, ?_⟩
    exact Kept0.below (((kA.trans k1).trans k2).setCell _ (Or.inl (by simp; omega)) _)
  have HB : Hid (fewB l.length C = true) := decide_eq_true hf
  obtain ⟨f1, f2, f3, f4⟩ := hf
  obtain ⟨C, rfl⟩ := Int.eq_ofNat_of_zero_le (show 0 ≤ C by omega)
  obtain ⟨dot, hdot⟩ : ∃ dot, dot = celB 46 := ⟨_, rfl⟩
  have hdb : Hid (dot.b = false) := by rw [hdot]; rfl
  have HC : Hid (∀ w : World, Calls Try.prog 15 #[.int .u8 46] w fun e w' => e = .returned dot.v ∧ Kept0 w w') := fun w => by rw [hdot]; exact cellL 46 w (by omega) (by omega)
  have HM : Hid (∀ w', Kept0 w w' → _) := fun w' k => made_any a cap C l w' (hl.kept0 k) f1 f2 (by omega) (by omega)
  have HL := Lib.hid hL
  have HN := Lib.hid hn
  obtain ⟨F, hF⟩ : ∃ F, F = boardF C l := ⟨_, rfl⟩
  rw [← hF] at HM
  obtain ⟨R, hR⟩ : ∃ R, R = l.length := ⟨_, rfl⟩
  rw [← hR] at f1 f2 HM HL HB kA ka kb hB0 ⊢
  clear hF hl hL hn hR hdot
  obtain ⟨V, hV⟩ : ∃ V, V = ((w.alloc (.cells #[.slice a R cap, .int .i64 (C : Int)] 24)).alloc (.cells #[.int .i64 r, .int .i64 c, .int .i64 n, .bool b] 28)).alloc (.cells #[.bool false] 4) := ⟨_, rfl⟩
  rw [← hV] at kA ka kb hB0
  have s0 : V.cell? ⟨w.heap.size, 0, none⟩ = some (.slice a R cap) := kcell ka (by simp [go_sem])
  have s1 : V.cell? ⟨w.heap.size, 1, none⟩ = some (.int .i64 (C : Int)) := kcell ka (by simp [go_sem])
  have p0 : V.cell? ⟨w.heap.size + 1, 0, none⟩ = some (.int .i64 r) := kcell kb (by simp [go_sem])
  have p1 : V.cell? ⟨w.heap.size + 1, 1, none⟩ = some (.int .i64 c) := kcell kb (by simp [go_sem])
  have p2 : V.cell? ⟨w.heap.size + 1, 2, none⟩ = some (.int .i64 n) := kcell kb (by simp [go_sem])
  have p3 : V.cell? ⟨w.heap.size + 1, 3, none⟩ = some (.bool b) := kcell kb (by simp [go_sem])
  refine calls_marks Try.func5 rfl ?_
  simp only [Try.ntmps5, List.size_toArray, List.length_cons, List.length_nil, Nat.reduceAdd, Nat.reduceSub, Array.replicate_succ, Array.replicate_zero, List.push_toArray, List.append_toArray, List.nil_append, List.cons_append]
  go_wp2_with fail
  rw [← hV]
  clear hV ka kb
  refine (few_any a R cap (C : Int) V HL.out).mono ?_
  rw [HB.out]
  rintro e w1 ⟨rfl, k1⟩
  replace s0 := kcell k1 s0
  replace s1 := kcell k1 s1
  replace p0 := kcell k1 p0
  replace p1 := kcell k1 p1
  replace p2 := kcell k1 p2
  replace p3 := kcell k1 p3
  replace hB0 := hB0.kept k1 (fun e => e)
  replace kA := kA.trans k1
  clear k1
  have hs0 : w.heap.size < w1.heap.size := World.block_lt_of_cell? w1 _ s0
  have hs1 : w.heap.size + 1 < w1.heap.size := World.block_lt_of_cell? w1 _ p0
  have hs2 : w.heap.size + 1 + 1 < w1.heap.size := hB0.lt
  have hs3 : w.heap.size < w1.heap.size + 1 := by omega
  have hs4 : w.heap.size + 1 < w1.heap.size + 1 := by omega
  obtain ⟨W, hW⟩ : ∃ W, W = (w1.alloc (.cells #[.int .i64 r, .int .i64 c] 26)).alloc (.cells #[.bool b] 4) := ⟨_, rfl⟩
  have kW : Kept0 w1 W := by rw [hW]; exact ((Kept.refl _ w1).alloc _).alloc _
  have x0 : W.cell? ⟨w1.heap.size, 0, none⟩ = some (.int .i64 r) := by rw [hW]; simp [go_sem]
  have x1 : W.cell? ⟨w1.heap.size, 1, none⟩ = some (.int .i64 c) := by rw [hW]; simp [go_sem]
  have x2 : W.cell? ⟨w1.heap.size + 1, 0, none⟩ = some (.bool b) := by rw [hW]; simp [go_sem]
  have hsW : w1.heap.size + 1 < W.heap.size := World.block_lt_of_cell? W _ x2
  go_wp2_with fail
  rw [← hW]
  clear hW p0 p1 p2 p3 s0 s1
  refine (HM.out W (kA.trans kW)).mono ?_
  rintro e w2 ⟨g, t, cg, g9, t9, c9, rfl, n1, n2, _, _, _, _, _, _, hg, _, k2⟩
  replace x0 := kcell k2 x0
  replace x1 := kcell k2 x1
  replace x2 := kcell k2 x2
  replace hB0 := (hB0.kept kW (fun e => e)).kept k2 (fun e => e)
  replace kA := (kA.trans kW).trans k2
  clear kW k2
  have hs5 : w1.heap.size < w2.heap.size := World.block_lt_of_cell? w2 _ x0
  have hs6 : w1.heap.size + 1 < w2.heap.size := World.block_lt_of_cell? w2 _ x2
  have htl := hg.row.lt
  obtain ⟨W2, hW2⟩ : ∃ W2, W2 = w2.alloc (.cells #[.pointer (some ⟨g, 0, none⟩)] 31) := ⟨_, rfl⟩
  have kW2 : Kept0 w2 W2 := by rw [hW2]; exact (Kept.refl _ w2).alloc _
  have x3 : W2.cell? ⟨w2.heap.size, 0, none⟩ = some (.pointer (some ⟨g, 0, none⟩)) := by rw [hW2]; simp [go_sem]
  go_wp2_with fail
  rw [← hW2]
  clear hW2
  refine (copy_any g t cg R C F W2 (hg.kept kW2 (fun e => e) (fun e => e))).mono ?_
  rintro e w3 ⟨h, u, ch, rfl, m1, m2, hh, k3⟩
  have hsz2 := kW2.size
  have hP : Pq w g t cg h u ch w1.heap.size (w1.heap.size + 1) w2.heap.size (w.heap.size + 1 + 1) R C r c b F F w3 :=
    ⟨(hg.kept kW2 (fun e => e) (fun e => e)).kept k3 (fun e => e) (fun e => e), hh, (kA.trans kW2).trans k3, kcell k3 (kcell kW2 x0), kcell k3 (kcell kW2 x1), kcell k3 (kcell kW2 x2), kcell k3 x3, (hB0.kept kW2 (fun e => e)).kept k3 (fun e => e), by omega, by omega, by omega, by omega, by omega, by omega, by omega, by omega⟩
  clear hg hh kA x0 x1 x2 x3 hB0 kW2 k3
  have hvd : w.heap.size + 1 + 1 < w1.heap.size := hs2
  have HP := Lib.hid hP
  have z0 := hP.p0
  have z1 := hP.p1
  have z2 := hP.q0
  have z3 := hP.e0
  clear hP
  cases b
  case' true =>
    go_wp2_with fail
    go_region_held3 (fun w' => w'.cell? ⟨w1.heap.size, 0, none⟩ = some (.int .i64 r) ∧ w'.cell? ⟨w2.heap.size, 0, none⟩ = some (.pointer (some ⟨g, 0, none⟩))) (go_keep)
      (first
        | (go_at_call 15; refine (HC.out _).mono ?_; rintro e9 w6 ⟨rfl, k6⟩; have P1 := Lib.hid (HP.out.drew.keep k6); have v0 := P1.out.p0; have v1 := P1.out.e0)
        | (go_at_call 14; refine (lines_any g t cg R C F r n dot true _ P1.out.grid HN.out.2).mono ?_; rintro e9 w7 ⟨rfl, hg7, k7⟩; have P2 := Lib.hid (P1.out.on hg7 k7); have v0 := P2.out.p0; have v1 := P2.out.e0))
    have HG : Hid (∀ k, k < R * C → (linesF R C F r n dot true k).b = (F k).b ∧ (((F k).b = true ∨ ((rowOf C k : Int) < r ∨ (true = false ∧ (¬ (rowOf C k : Int) = r ∨ (colOf C k : Int) < c)))) → linesF R C F r n dot true k = F k)) := fun k hk => by
      obtain ⟨q1, q2⟩ := lines_guard R C F r n dot hdb.out k hk
      refine ⟨q1, ?_⟩
      rintro (e1 | e1 | e1)
      · exact q2 (Or.inl e1)
      · exact q2 (Or.inr e1)
      · cases e1.1
    generalize linesF R C F r n dot true = FG at HG P2
    clear P1 HP z0 z1 z2 z3
    go_wp2_with fail
  case' false =>
    go_wp2_with fail
    go_region_held3 (fun w' => w'.cell? ⟨w1.heap.size, 0, none⟩ = some (.int .i64 r) ∧ w'.cell? ⟨w1.heap.size, 1, none⟩ = some (.int .i64 c) ∧ w'.cell? ⟨w2.heap.size, 0, none⟩ = some (.pointer (some ⟨g, 0, none⟩))) (go_keep)
      (first
        | (go_at_call 15; refine (HC.out _).mono ?_; rintro e9 w6 ⟨rfl, k6⟩; have P1 := Lib.hid (HP.out.drew.keep k6); have v0 := P1.out.p0; have v1 := P1.out.e0; have v2 := P1.out.p1)
        | (go_at_call 24; refine (chars_any g t cg R C F r c n dot true _ P1.out.grid HN.out.2).mono ?_; rintro e9 w7 ⟨rfl, hg7, k7⟩; have P2 := Lib.hid (P1.out.on hg7 k7); have v0 := P2.out.p0; have v1 := P2.out.e0; have v2 := P2.out.p1))
    have HG : Hid (∀ k, k < R * C → (charsF R C F r c n dot true k).b = (F k).b ∧ (((F k).b = true ∨ ((rowOf C k : Int) < r ∨ (false = false ∧ (¬ (rowOf C k : Int) = r ∨ (colOf C k : Int) < c)))) → charsF R C F r c n dot true k = F k)) := fun k hk => by
      obtain ⟨q1, q2⟩ := chars_guard R C F r c n dot hdb.out k
      refine ⟨q1, ?_⟩
      rintro (e1 | e1 | e1)
      · exact q2 (Or.inl e1)
      · exact q2 (Or.inr (Or.inl (by omega)))
      · exact q2 (Or.inr e1.2)
    generalize charsF R C F r c n dot true = FG at HG P2
    clear P1 HP z0 z1 z2 z3
    go_wp2_with fail
  case true =>
    refine (all_any _ _).mono ?_
    rintro e w9 ⟨rfl, rfl⟩
    obtain ⟨w8, hw8⟩ : ∃ w8, w8 = w7.alloc (.cells #[.pointer (some ⟨h, 0, none⟩)] 31) := ⟨_, rfl⟩
    have k8 : Kept0 w7 w8 := by rw [hw8]; exact (Kept.refl _ w7).alloc _
    have hbx : w8.cell? ⟨w7.heap.size, 0, none⟩ = some (.pointer (some ⟨h, 0, none⟩)) := by rw [hw8]; simp [go_sem]
    have hs8 : w7.heap.size + 1 = w8.heap.size := by rw [hw8]; simp
    have P8 := Lib.hid (P2.out.keep k8)
    clear P2
    rw [← hw8]
    clear hw8 k8
    go_wp2_with fail
    have hC1 := P8.out.grid.C1
    refine wpIn_wide.1 (wp_range (n := 0) (gf := 42) (lb := #[.pointer (some ⟨w7.heap.size, 0, none⟩)]) rfl (enters_of Try.func42 (by kernel_rfl) rfl) (all1_grid w7.heap.size h u ch R C F) (fun _ => rfl)
      (fun _ W => Below w8.heap.size w8 W) (fun _ _ _ => False) (fun _ _ _ h k => h.trans k) (fun _ _ _ _ h _ => h)
      (fun _ W h => ⟨kcell (Kept0.ofBelow h) hbx, P8.out.copy.kept (Kept0.ofBelow h) (fun e => e) (fun e => e)⟩) (Below.refl _ _) ?_ ?_ ?_)
    · rintro l9 k W hl1 hl2 hk hW
      have hkW : Kept0 w8 W := Kept0.ofBelow hW
      have hsW9 := hkW.size
      unfold allArgs
      gi_wp2_with fail
      refine ⟨((Kept.refl _ W).alloc _).alloc _, fun W4 hk2 hb2 => ?_⟩
      have hlW : ¬ W.heap.size = l9 := by omega
      have hlW1 : ¬ W.heap.size + 1 = l9 := by omega
      have b0 : W4.cell? ⟨W.heap.size, 0, none⟩ = some (.int .i64 (rowOf C k : Int)) := (hk2.cell (by simp; omega) hlW).trans (by simp [go_sem])
      have b1 : W4.cell? ⟨W.heap.size, 1, none⟩ = some (.int .i64 (colOf C k : Int)) := (hk2.cell (by simp; omega) hlW).trans (by simp [go_sem])
      have xx : CelAt W4 (W.heap.size + 1) (F k) := by
        have := CelAt.new (W.alloc (.cells #[.int .i64 (rowOf C k : Int), .int .i64 (colOf C k : Int)] 26)) (F k) 44
        rw [World.size_alloc] at this
        exact this.kept hk2 hlW1
      have hbW : Below w8.heap.size w8 W4 := hW.trans ((((Below.refl _ W).alloc (by omega) _).alloc (by simp; omega) _).trans hb2)
      have hkW2 : Kept0 w8 W4 := Kept0.ofBelow hbW
      have P9 := P8.out.keep hkW2
      have z3 := P9.e0
      have hth := there_row_col hk hC1
      have hix : Hid (idx C (rowOf C k : Int) (colOf C k : Int) = k) := idx_row_col C k
      clear hk2 hb2 hkW hW
      gi_wp2_with fail
      refine round_call0 ((at_in g t cg R C FG _ _ _ P9.grid hth).mono ?_)
      rw [hix.out]
      rintro e W3 ⟨rfl, hk3⟩
      replace b0 := kcell hk3 b0
      replace b1 := kcell hk3 b1
      replace xx := xx.kept hk3 (fun e => e)
      have P10 := P9.keep hk3
      have z0 := P10.p0
      have z1 := P10.p1
      have z2 := P10.q0
      have hgood : Hid (∀ o, Kept (· < w8.heap.size) W4 (W3.alloc o) ∧ Below w8.heap.size w8 (W3.alloc o)) := fun o => ⟨Kept0.to (hk3.alloc o), Kept0.below ((hkW2.trans hk3).alloc o)⟩
      obtain ⟨hbe, hee⟩ := HG.out k hk
      obtain ⟨x0, x1, x2, x3⟩ := xx
      have l0 : W.heap.size < W3.heap.size := World.block_lt_of_cell? W3 _ b0
      have l1 : W.heap.size + 1 < W3.heap.size := World.block_lt_of_cell? W3 _ x0
      have l2 : w1.heap.size < W3.heap.size := World.block_lt_of_cell? W3 _ z0
      have l3 : w1.heap.size + 1 < W3.heap.size := World.block_lt_of_cell? W3 _ z2
      clear P9 P10 hk3 hkW2 z3 hth HG HC HM
      generalize F k = x at *
      generalize FG k = y at *
      obtain ⟨xg, xa, xb, xm⟩ := x
      obtain ⟨yg, ya, yb, ym⟩ := y
      obtain rfl : yb = xb := hbe
      simp only at x0 x1 x2 x3
      by_cases hr : (rowOf C k : Int) < r
      · have d1 : decide ((rowOf C k : Int) < r) = true := decide_eq_true hr
        have hyx := hee (Or.inr (Or.inl hr))
        simp only [Cel.mk.injEq] at hyx
        obtain ⟨rfl, rfl, _, rfl⟩ := hyx
        clear hee
        cases yb
        all_goals
          gi_wp2_with fail
          exact hgood.out _
      · have d1 : decide ((rowOf C k : Int) < r) = false := decide_eq_false hr
        cases yb
        · clear hee
          gi_wp2_with fail
          exact hgood.out _
        · have hyx := hee (Or.inl rfl)
          simp only [Cel.mk.injEq] at hyx
          obtain ⟨rfl, rfl, _, rfl⟩ := hyx
          clear hee
          gi_wp2_with fail
          exact hgood.out _
    · intro D W hD hW hDc
      have hkW : Kept0 w8 W := Kept0.ofBelow hW
      have P9 := P8.out.keep hkW
      have HD := Lib.hid hDc
      clear hDc hW
      go_wp2_with fail
      refine (awake_any _).mono ?_
      rintro e W3 ⟨rfl, hk3⟩
      have P10 := P9.keep hk3
      have b1 := P10.v0.c
      have b2 := P10.v0.f
      have hB4 := (P10.v0.set true).c
      have hv8 : w.heap.size + 1 + 1 < w8.heap.size := P8.out.v0.lt
      go_wp2_with fail
      have hk4 : Kept0 w (W3.setCell ⟨w.heap.size + 1 + 1, 0, none⟩ (.bool true)) := P10.kept.setCell _ (Or.inl (by simp; omega)) _
      have hDl : D < W.heap.size := (Array.getElem?_eq_some_iff.1 HD.out).1
      have hD4 : (W3.setCell ⟨w.heap.size + 1 + 1, 0, none⟩ (.bool true)).heap[D]? = some (.deferred (some [])) :=
        (Below.heap_setCell _ _ _ _ (by simp; omega)).trans ((hk3.block D hDl (fun e => e)).trans HD.out)
      refine ⟨by simp, .inl ⟨_, _, rfl, run_takeDeferred hD4, ?_⟩⟩
      have hB5 : ((W3.setCell ⟨w.heap.size + 1 + 1, 0, none⟩ (.bool true)).putObj D (.deferred none)).cell? ⟨w.heap.size + 1 + 1, 0, none⟩ = some (.bool true) :=
        (World.cell?_of_block (World.putObj_heap_other (by simp; omega))).trans hB4
      refine ⟨.bool true, by simp [results, Try.results5, go_sem, hB5], rfl, ?_⟩
      exact (Kept0.below hk4).trans (below_putObj _ (by omega))
    · intro D c k W _ _ h
      exact h.elim
  case false =>
    refine (all_any _ _).mono ?_
    rintro e w9 ⟨rfl, rfl⟩
    obtain ⟨w8, hw8⟩ : ∃ w8, w8 = w7.alloc (.cells #[.pointer (some ⟨h, 0, none⟩)] 31) := ⟨_, rfl⟩
    have k8 : Kept0 w7 w8 := by rw [hw8]; exact (Kept.refl _ w7).alloc _
    have hbx : w8.cell? ⟨w7.heap.size, 0, none⟩ = some (.pointer (some ⟨h, 0, none⟩)) := by rw [hw8]; simp [go_sem]
    have hs8 : w7.heap.size + 1 = w8.heap.size := by rw [hw8]; simp
    have P8 := Lib.hid (P2.out.keep k8)
    clear P2
    rw [← hw8]
    clear hw8 k8
    go_wp2_with fail
    have hC1 := P8.out.grid.C1
    refine wpIn_wide.1 (wp_range (n := 0) (gf := 42) (lb := #[.pointer (some ⟨w7.heap.size, 0, none⟩)]) rfl (enters_of Try.func42 (by kernel_rfl) rfl) (all1_grid w7.heap.size h u ch R C F) (fun _ => rfl)
      (fun _ W => Below w8.heap.size w8 W) (fun _ _ _ => False) (fun _ _ _ h k => h.trans k) (fun _ _ _ _ h _ => h)
      (fun _ W h => ⟨kcell (Kept0.ofBelow h) hbx, P8.out.copy.kept (Kept0.ofBelow h) (fun e => e) (fun e => e)⟩) (Below.refl _ _) ?_ ?_ ?_)
    · rintro l9 k W hl1 hl2 hk hW
      have hkW : Kept0 w8 W := Kept0.ofBelow hW
      have hsW9 := hkW.size
      unfold allArgs
      gi_wp2_with fail
      refine ⟨((Kept.refl _ W).alloc _).alloc _, fun W4 hk2 hb2 => ?_⟩
      have hlW : ¬ W.heap.size = l9 := by omega
      have hlW1 : ¬ W.heap.size + 1 = l9 := by omega
      have b0 : W4.cell? ⟨W.heap.size, 0, none⟩ = some (.int .i64 (rowOf C k : Int)) := (hk2.cell (by simp; omega) hlW).trans (by simp [go_sem])
      have b1 : W4.cell? ⟨W.heap.size, 1, none⟩ = some (.int .i64 (colOf C k : Int)) := (hk2.cell (by simp; omega) hlW).trans (by simp [go_sem])
      have xx : CelAt W4 (W.heap.size + 1) (F k) := by
        have := CelAt.new (W.alloc (.cells #[.int .i64 (rowOf C k : Int), .int .i64 (colOf C k : Int)] 26)) (F k) 44
        rw [World.size_alloc] at this
        exact this.kept hk2 hlW1
      have hbW : Below w8.heap.size w8 W4 := hW.trans ((((Below.refl _ W).alloc (by omega) _).alloc (by simp; omega) _).trans hb2)
      have hkW2 : Kept0 w8 W4 := Kept0.ofBelow hbW
      have P9 := P8.out.keep hkW2
      have z3 := P9.e0
      have hth := there_row_col hk hC1
      have hix : Hid (idx C (rowOf C k : Int) (colOf C k : Int) = k) := idx_row_col C k
      clear hk2 hb2 hkW hW
      gi_wp2_with fail
      refine round_call0 ((at_in g t cg R C FG _ _ _ P9.grid hth).mono ?_)
      rw [hix.out]
      rintro e W3 ⟨rfl, hk3⟩
      replace b0 := kcell hk3 b0
      replace b1 := kcell hk3 b1
      replace xx := xx.kept hk3 (fun e => e)
      have P10 := P9.keep hk3
      have z0 := P10.p0
      have z1 := P10.p1
      have z2 := P10.q0
      have hgood : Hid (∀ o, Kept (· < w8.heap.size) W4 (W3.alloc o) ∧ Below w8.heap.size w8 (W3.alloc o)) := fun o => ⟨Kept0.to (hk3.alloc o), Kept0.below ((hkW2.trans hk3).alloc o)⟩
      obtain ⟨hbe, hee⟩ := HG.out k hk
      obtain ⟨x0, x1, x2, x3⟩ := xx
      have l0 : W.heap.size < W3.heap.size := World.block_lt_of_cell? W3 _ b0
      have l1 : W.heap.size + 1 < W3.heap.size := World.block_lt_of_cell? W3 _ x0
      have l2 : w1.heap.size < W3.heap.size := World.block_lt_of_cell? W3 _ z0
      have l3 : w1.heap.size + 1 < W3.heap.size := World.block_lt_of_cell? W3 _ z2
      clear P9 P10 hk3 hkW2 z3 hth HG HC HM
      generalize F k = x at *
      generalize FG k = y at *
      obtain ⟨xg, xa, xb, xm⟩ := x
      obtain ⟨yg, ya, yb, ym⟩ := y
      obtain rfl : yb = xb := hbe
      simp only at x0 x1 x2 x3
      by_cases hr : (rowOf C k : Int) < r
      · have d1 : decide ((rowOf C k : Int) < r) = true := decide_eq_true hr
        have hyx := hee (Or.inr (Or.inl hr))
        simp only [Cel.mk.injEq] at hyx
        obtain ⟨rfl, rfl, _, rfl⟩ := hyx
        clear hee
        cases yb
        all_goals
          gi_wp2_with fail
          exact hgood.out _
      · have d1 : decide ((rowOf C k : Int) < r) = false := decide_eq_false hr
        by_cases hr2 : (rowOf C k : Int) = r
        · by_cases hr3 : (colOf C k : Int) < c
          · have d3 : decide ((colOf C k : Int) < c) = true := decide_eq_true hr3
            have hyx := hee (Or.inr (Or.inr ⟨trivial, Or.inr hr3⟩))
            simp only [Cel.mk.injEq] at hyx
            obtain ⟨rfl, rfl, _, rfl⟩ := hyx
            clear hee
            cases yb
            all_goals
              gi_wp2_with fail
              exact hgood.out _
          · have d3 : decide ((colOf C k : Int) < c) = false := decide_eq_false hr3
            cases yb
            · clear hee
              gi_wp2_with fail
              exact hgood.out _
            · have hyx := hee (Or.inl rfl)
              simp only [Cel.mk.injEq] at hyx
              obtain ⟨rfl, rfl, _, rfl⟩ := hyx
              clear hee
              gi_wp2_with fail
              exact hgood.out _
        · have hyx := hee (Or.inr (Or.inr ⟨trivial, Or.inl hr2⟩))
          simp only [Cel.mk.injEq] at hyx
          obtain ⟨rfl, rfl, _, rfl⟩ := hyx
          clear hee
          cases yb
          all_goals
            gi_wp2_with fail
            exact hgood.out _
    · intro D W hD hW hDc
      have hkW : Kept0 w8 W := Kept0.ofBelow hW
      have P9 := P8.out.keep hkW
      have HD := Lib.hid hDc
      clear hDc hW
      go_wp2_with fail
      refine (awake_any _).mono ?_
      rintro e W3 ⟨rfl, hk3⟩
      have P10 := P9.keep hk3
      have b1 := P10.v0.c
      have b2 := P10.v0.f
      have hB4 := (P10.v0.set true).c
      have hv8 : w.heap.size + 1 + 1 < w8.heap.size := P8.out.v0.lt
      go_wp2_with fail
      have hk4 : Kept0 w (W3.setCell ⟨w.heap.size + 1 + 1, 0, none⟩ (.bool true)) := P10.kept.setCell _ (Or.inl (by simp; omega)) _
      have hDl : D < W.heap.size := (Array.getElem?_eq_some_iff.1 HD.out).1
      have hD4 : (W3.setCell ⟨w.heap.size + 1 + 1, 0, none⟩ (.bool true)).heap[D]? = some (.deferred (some [])) :=
        (Below.heap_setCell _ _ _ _ (by simp; omega)).trans ((hk3.block D hDl (fun e => e)).trans HD.out)
      refine ⟨by simp, .inl ⟨_, _, rfl, run_takeDeferred hD4, ?_⟩⟩
      have hB5 : ((W3.setCell ⟨w.heap.size + 1 + 1, 0, none⟩ (.bool true)).putObj D (.deferred none)).cell? ⟨w.heap.size + 1 + 1, 0, none⟩ = some (.bool true) :=
        (World.cell?_of_block (World.putObj_heap_other (by simp; omega))).trans hB4
      refine ⟨.bool true, by simp [results, Try.results5, go_sem, hB5], rfl, ?_⟩
      exact (Kept0.below hk4).trans (below_putObj _ (by omega))
    · intro D c k W _ _ h
      exact h.elim
end Go.Proofs.Ytljfbocjnpnaiaa
