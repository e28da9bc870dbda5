/-
  A Put by which no line goes up turns one cell, and Free of a place that is free is that place: the law.
-/
import Derived.Test.YtkdnjkcebfckiaaOnceF
namespace Go.Proofs.Ytkdnjkcebfckiaa
open Go.RowKit

attribute [local go_sem] Oper.semAt_some

theorem nf {b : Nat} : ¬ (fun _ : Nat => False) b := fun e => e
/-- The number that a value leads to. -/
def cntOf (v : Value) (w : World) : Int := match v with | .pointer (some p) => intOf ((w.cell? p).getD undef) | _ => 0
theorem cntOf_at {w : World} {b : Nat} {n : Int} (h : NumA w b n) : cntOf (.pointer (some ⟨b, 0, none⟩)) w = n := by simp [cntOf, h.c, intOf]

theorem few_yes2 {L : Nat} {C : Int} {n : Nat} (h : fewP L C n = true) : 1 ≤ L ∧ L ≤ 8 ∧ 1 ≤ C ∧ C ≤ 12 ∧ n ≤ 60 := by
  unfold fewP fewB at h
  simp only [Bool.and_eq_true, decide_eq_true_eq] at h
  omega

set_option maxHeartbeats 8000000 in
set_option maxRecDepth 100000 in
theorem once_calls (a : Option Addr) (cap0 : Nat) (C0 : Int) (l : List ByteArray) (r c k : Int) (b : Bool) (s : ByteArray) (w : World) (hl : StrsIn w a l) (hL : l.length ≤ 9223372036854775807) (hsz : s.size ≤ maxLen) :
    Calls Try.prog 8 #[.agg #[.slice a l.length cap0, .int .i64 C0], penV r c b k s] w fun e w' => e = .returned (.bool true) ∧ Below w.heap.size w w' := by
  have HAW : Hid (∀ w', Calls Try.prog 10 #[] w' fun e w'' => e = .returned (.bool true) ∧ Kept0 w' w'') := fun w' => awake_any w'
  have HC : Hid (∀ (b : Int) (w : World), 0 ≤ b → b ≤ 255 → Calls Try.prog 12 #[.int .u8 b] w fun e w' => e = .returned (celB b).v ∧ Kept0 w w') := fun b w => cellL b w
  have HFW : Hid (∀ w', Calls Try.prog 9 #[.agg #[.slice a l.length cap0, .int .i64 C0], penV r c b k s] w' fun e w'' => e = .returned (.bool (fewP l.length C0 s.size)) ∧ Kept0 w' w'') := fun w' => fewP_any a l.length cap0 C0 r c k b s w' hL
  unfold maxLen at hsz
  obtain ⟨W, hW⟩ : ∃ W, W = ((w.alloc (.cells #[.slice a l.length cap0, .int .i64 C0] 24)).alloc (.cells #[.int .i64 r, .int .i64 c, .bool b, .int .i64 k, .string s] 28)).alloc (.cells #[.bool false] 4) := ⟨_, rfl⟩
  have k0 : Kept0 w W := by rw [hW]; exact (((Kept.refl _ w).alloc _).alloc _).alloc _
  have hbo : Hid (W.cell? ⟨w.heap.size, 0, none⟩ = some (.slice a l.length cap0) ∧ W.cell? ⟨w.heap.size, 1, none⟩ = some (.int .i64 C0)) := by rw [hW]; exact ⟨by simp [go_sem], by simp [go_sem]⟩
  have hp : PenAt W (w.heap.size + 1) r c b k s := by rw [hW]; constructor <;> simp [go_sem]
  have hB0 : BoolAt W (w.heap.size + 1 + 1) false := by rw [hW]; exact BoolAt.of (heap_newC _ _ _ _)
  cases hfew : fewP l.length C0 s.size
  · rw [hfew] at HFW
    clear hfew hbo hp
    refine calls_marks Try.func8 rfl ?_
    simp only [Try.ntmps8, List.size_toArray, List.length_cons, List.length_nil, Nat.reduceAdd, Nat.reduceSub, Array.replicate_succ, Array.replicate_zero, List.push_toArray, List.append_toArray, List.nil_append, List.cons_append]
    go_wp2_with fail
    rw [← hW]
    clear hW
    refine (HFW.out _).mono ?_
    rintro e w1 ⟨rfl, hk1⟩
    go_wp2_with fail
    refine (HAW.out _).mono ?_
    rintro e w2 ⟨rfl, hk2⟩
    have hB2 := (hB0.kept hk1 (fun e => e)).kept hk2 (fun e => e)
    have b1 := hB2.c
    have b2 := hB2.f
    have hB4 := (hB2.set true).c
    go_wp2_with fail
    refine ⟨.bool true, by simp [results, Try.results8, go_sem, hB4], rfl, ?_⟩
    exact Kept0.below (((k0.trans hk1).trans hk2).setCell _ (Or.inl (by simp; omega)) _)
  rw [hfew] at HFW
  obtain ⟨f1, f2, f3, f4, f5⟩ := few_yes2 hfew
  obtain ⟨C, rfl⟩ := Int.eq_ofNat_of_zero_le (show 0 ≤ C0 by omega)
  clear hfew
  have HS := Lib.hid hl
  clear hl
  refine calls_marks Try.func8 rfl ?_
  simp only [Try.ntmps8, List.size_toArray, List.length_cons, List.length_nil, Nat.reduceAdd, Nat.reduceSub, Array.replicate_succ, Array.replicate_zero, List.push_toArray, List.append_toArray, List.nil_append, List.cons_append]
  go_wp2_with fail
  rw [← hW]
  clear hW
  refine (HFW.out _).mono ?_
  rintro e w1 ⟨rfl, hk1⟩
  have k1 := k0.trans hk1
  have c0 := kcell hk1 hbo.out.1
  have c1 := kcell hk1 hbo.out.2
  have hp1 := hp.kept hk1 (fun e => e)
  have hB1 := hB0.kept hk1 (fun e => e)
  have lB1 := hB1.lt
  clear k0 hk1 hbo hp HFW hB0
  go_wp2_with fail
  refine (made_any a cap0 C l w1 (HS.out.kept0 k1) f1 f2 (by omega) (by omega)).mono ?_
  rintro e w2 ⟨g, t, cap, gq, tq, capq, rfl, g1, g2, _, _, _, _, _, _, hG, _, hk2⟩
  have hp2 := hp1.kept hk2 (fun e => e)
  have hB2 := hB1.kept hk2 (fun e => e)
  have k2 := k1.trans hk2
  have lg := hG.lt
  have lt := hG.row.lt
  have g3 : w.heap.size + 1 + 1 < g := by omega
  have g4 : w.heap.size + 1 + 1 < t := by omega
  clear hk2 c0 c1 hp1 hB1 k1 HS g1 g2
  generalize boardF C l = F at *
  generalize l.length = R at *
  obtain ⟨V, hV⟩ : ∃ V, V = w2.alloc (.cells #[.pointer (some ⟨g, 0, none⟩)] 31) := ⟨_, rfl⟩
  have kV : Kept0 w2 V := by rw [hV]; exact (Kept.refl _ w2).alloc _
  have he0 : V.cell? ⟨w2.heap.size, 0, none⟩ = some (.pointer (some ⟨g, 0, none⟩)) := by rw [hV]; simp [go_sem]
  have lV : w2.heap.size < V.heap.size := World.block_lt_of_cell? V _ he0
  go_upto_region 6 with fail
  rw [← hV]
  clear hV
  have hGV := hG.kept kV (fun e => e) (fun e => e)
  have gc0 := hGV.c0
  have gc1 := hGV.c1
  go_wp2_with fail
  refine (size_any g R C V gc0 gc1).mono ?_
  rintro e w3 ⟨rfl, hk3⟩
  have kk3 := kV.trans hk3
  have he3 := kcell hk3 he0
  have hG3 := hGV.kept hk3 (fun e => e) (fun e => e)
  have hp3 := hp2.kept kk3 (fun e => e)
  have hB3 := hB2.kept kk3 (fun e => e)
  have k3 := k2.trans kk3
  have lk3 := hk3.size
  clear gc0 gc1 hGV hk3 kk3 kV he0 hp2 hB2 k2 hG
  obtain ⟨V2, hV⟩ : ∃ V2, V2 = w3.alloc (.cells #[.int .i64 (R : Int), .int .i64 (C : Int)] 73) := ⟨_, rfl⟩
  have kV : Kept0 w3 V2 := by rw [hV]; exact (Kept.refl _ w3).alloc _
  have hs0 : V2.cell? ⟨w3.heap.size, 0, none⟩ = some (.int .i64 (R : Int)) := by rw [hV]; simp [go_sem]
  have hs1 : V2.cell? ⟨w3.heap.size, 1, none⟩ = some (.int .i64 (C : Int)) := by rw [hV]; simp [go_sem]
  have lV2 : w3.heap.size < V2.heap.size := World.block_lt_of_cell? V2 _ hs0
  go_upto_region 7 with fail
  rw [← hV]
  clear hV
  obtain ⟨q0, q1, q2, q3, q4⟩ := hp3.kept kV (fun e => e)
  go_wp2_with fail
  refine (place_any _ _ _ _ _ _).mono ?_
  rintro e w4 ⟨rfl, hk4⟩
  have kk4 := kV.trans hk4
  have lk4 := hk4.size
  obtain ⟨V, hV⟩ : ∃ V, V = (w4.alloc (.cells #[.int .i64 r, .int .i64 c, .bool b] 39)).alloc (.cells #[.int .i64 0] 3) := ⟨_, rfl⟩
  have kW : Kept0 w4 V := by rw [hV]; exact ((Kept.refl _ w4).alloc _).alloc _
  have h8 : Three V w4.heap.size r c b := by rw [hV]; exact (Three.of (heap_new w4 _)).kept0 ((Kept.refl _ _).alloc _)
  have h9 : NumA V (w4.heap.size + 1) 0 := by rw [hV]; have := NumA.new (w4.alloc (.cells #[.int .i64 r, .int .i64 c, .bool b] 39)) 0; rwa [World.size_alloc] at this
  clear q0 q1 q2 q3 q4
  go_wp2_with fail
  rw [← hV]
  clear hV
  have kk6 := kk4.trans kW
  have kk7 := hk4.trans kW
  have HP : Hid (Os w V (w.heap.size + 1) (w.heap.size + 1 + 1) w2.heap.size w3.heap.size w4.heap.size (w4.heap.size + 1) g t cap R C r c b k s F r c b 0) :=
    ⟨hp3.kept kk6 (fun e => e), hB3.kept kk6 (fun e => e), kcell kk6 he3, kcell kk7 hs0, kcell kk7 hs1, h8, h9, hG3.kept kk6 (fun e => e) (fun e => e), k3.trans kk6, ⟨by omega, by omega, g3, g4, lg, lt, by omega, by omega, by omega⟩⟩
  clear kk6 kk7 kW h8 h9 hk4 kk4 kV he3 hs0 hs1 hp3 hB3 hG3 k3
  generalize w4.heap.size = b8 at *
  generalize w3.heap.size = b7 at *
  generalize w2.heap.size = b5 at *
  generalize w.heap.size + 1 + 1 = bo at *
  generalize w.heap.size + 1 = bp at *
  have HC0 : Hid (Coll (b8 + 1) [] V) := ⟨fun D hD => by simp at hD, List.nodup_nil⟩
  refine wp_loop (fun a' w' => ∃ (j b9 : Nat) (r' c' : Int) (b' : Bool) (F' : Nat → Cel) (Ds : List Nat), j ≤ s.size ∧ a'.tmps.size = 204 ∧ a'.tmps.getD 3 undef = .pointer (some ⟨bp, 0, none⟩) ∧ a'.tmps.getD 4 undef = .pointer (some ⟨bo, 0, none⟩) ∧ a'.tmps.getD 5 undef = .pointer (some ⟨b5, 0, none⟩) ∧ a'.tmps.getD 7 undef = .pointer (some ⟨b7, 0, none⟩) ∧ a'.tmps.getD 8 undef = .pointer (some ⟨b8, 0, none⟩) ∧ a'.tmps.getD 9 undef = .pointer (some ⟨b9, 0, none⟩) ∧ a'.defers = Ds.map mark ∧ Hid (Os w w' bp bo b5 b7 b8 b9 g t cap R C r c b k s F' r' c' b' (j : Int)) ∧ Hid (Coll (b8 + 1) Ds w')) (fun a' w' => ((s.size : Int) - cntOf (a'.tmps.getD 9 undef) w').toNat) ?_ ?_
  · exact ⟨0, b8 + 1, r, c, b, F, [], by omega, rfl, rfl, rfl, rfl, rfl, rfl, rfl, rfl, HP, HC0⟩
  · clear HP HC0
    intro a' wr hinv
    obtain ⟨j, b9, r', c', b', F', Ds, hj, hs, h3, h4, h5, h7, h8, h9, hds, HP, HCo⟩ := hinv
    obtain ⟨T, ds⟩ := a'
    simp only at hs h3 h4 h5 h7 h8 h9 hds
    have hT := frame_lit204 T hs
    generalize hf : (fun i => T.getD i undef) = f at hT
    replace h3 : f 3 = .pointer (some ⟨bp, 0, none⟩) := by rw [← hf]; exact h3
    replace h4 : f 4 = .pointer (some ⟨bo, 0, none⟩) := by rw [← hf]; exact h4
    replace h5 : f 5 = .pointer (some ⟨b5, 0, none⟩) := by rw [← hf]; exact h5
    replace h7 : f 7 = .pointer (some ⟨b7, 0, none⟩) := by rw [← hf]; exact h7
    replace h8 : f 8 = .pointer (some ⟨b8, 0, none⟩) := by rw [← hf]; exact h8
    replace h9 : f 9 = .pointer (some ⟨b9, 0, none⟩) := by rw [← hf]; exact h9
    clear hf hs
    subst hT
    subst hds
    rw [show ((List.range 204).map f).toArray = #[f 0, f 1, f 2, f 3, f 4, f 5, f 6, f 7, f 8, f 9, f 10, f 11, f 12, f 13, f 14, f 15, f 16, f 17, f 18, f 19, f 20, f 21, f 22, f 23, f 24, f 25, f 26, f 27, f 28, f 29, f 30, f 31, f 32, f 33, f 34, f 35, f 36, f 37, f 38, f 39, f 40, f 41, f 42, f 43, f 44, f 45, f 46, f 47, f 48, f 49, f 50, f 51, f 52, f 53, f 54, f 55, f 56, f 57, f 58, f 59, f 60, f 61, f 62, f 63, f 64, f 65, f 66, f 67, f 68, f 69, f 70, f 71, f 72, f 73, f 74, f 75, f 76, f 77, f 78, f 79, f 80, f 81, f 82, f 83, f 84, f 85, f 86, f 87, f 88, f 89, f 90, f 91, f 92, f 93, f 94, f 95, f 96, f 97, f 98, f 99, f 100, f 101, f 102, f 103, f 104, f 105, f 106, f 107, f 108, f 109, f 110, f 111, f 112, f 113, f 114, f 115, f 116, f 117, f 118, f 119, f 120, f 121, f 122, f 123, f 124, f 125, f 126, f 127, f 128, f 129, f 130, f 131, f 132, f 133, f 134, f 135, f 136, f 137, f 138, f 139, f 140, f 141, f 142, f 143, f 144, f 145, f 146, f 147, f 148, f 149, f 150, f 151, f 152, f 153, f 154, f 155, f 156, f 157, f 158, f 159, f 160, f 161, f 162, f 163, f 164, f 165, f 166, f 167, f 168, f 169, f 170, f 171, f 172, f 173, f 174, f 175, f 176, f 177, f 178, f 179, f 180, f 181, f 182, f 183, f 184, f 185, f 186, f 187, f 188, f 189, f 190, f 191, f 192, f 193, f 194, f 195, f 196, f 197, f 198, f 199, f 200, f 201, f 202, f 203] from rfl]
    rw [h3, h4, h5, h7, h8, h9]
    clear h3 h4 h5 h7 h8 h9
    by_cases hlt : j < s.size
    · have d1 : decide ((j : Int) < (s.size : Int)) = true := by simp; omega
      obtain ⟨q0, q1, q2, q3, q4⟩ := HP.out.pen
      have he0 := HP.out.e0
      have hc9 := HP.out.cnt.c
      have HM0 : Hid (cntOf (.pointer (some ⟨b9, 0, none⟩)) wr = (j : Int)) := cntOf_at HP.out.cnt
      obtain ⟨p0, p1, p2, p3, p4, p5⟩ := HP.out.at8
      have hR1 := HP.out.grid.R1
      have hC1 := HP.out.grid.C1
      obtain ⟨fo, hfo⟩ : ∃ fo, fo = freeK (R * C) false (st R C r' c') F' := ⟨_, rfl⟩
      obtain ⟨lo, hlo⟩ : ∃ lo, lo = freeK (R * C) true (st R C r' c') F' := ⟨_, rfl⟩
      have hb : lo.isSome = fo.isSome := by rw [hfo, hlo]; exact free_both (st_lt hR1 hC1)
      have HFR : Hid (∀ w', GridAt w' g t cap R C F' → Calls Try.prog 19 #[.pointer (some ⟨g, 0, none⟩), pos r' c'] w' fun e w'' => e = .returned (.tuple #[pos (oR C fo) (oC C fo), .bool fo.isSome]) ∧ Kept0 w' w'') := fun w' h => by rw [hfo]; exact free_any g t cap R C F' r' c' w' h
      have HLR : Hid (∀ w', GridAt w' g t cap R C F' → Calls Try.prog 21 #[.pointer (some ⟨g, 0, none⟩), pos r' c'] w' fun e w'' => e = .returned (.tuple #[pos (oR C lo) (oC C lo), .bool fo.isSome]) ∧ Kept0 w' w'') := fun w' h => by rw [← hb, hlo]; exact last_any g t cap R C F' r' c' w' h
      have HX : Hid (∀ x, fo = some x → There R C (oR C fo) (oC C fo) ∧ (F' (idx C (oR C fo) (oC C fo))).b = false ∧ freeK (R * C) false (st R C (oR C fo) (oC C fo)) F' = fo) := by
        show ∀ x, _
        intro x hx
        have h1 := freeK_some (hfo.symm.trans hx)
        have ht := there_row_col h1.1 hC1
        rw [hx]
        show There R C (rowOf C x) (colOf C x) ∧ (F' (idx C (rowOf C x) (colOf C x))).b = false ∧ freeK (R * C) false (st R C (rowOf C x) (colOf C x)) F' = some x
        rw [st_in ht, idx_row_col]
        exact ⟨ht, h1.2, freeK_self h1.1 h1.2⟩
      have HY : Hid (∀ x, lo = some x → There R C (oR C lo) (oC C lo) ∧ (F' (idx C (oR C lo) (oC C lo))).b = false ∧ freeK (R * C) true (st R C (oR C lo) (oC C lo)) F' = lo) := by
        show ∀ x, _
        intro x hx
        have h1 := freeK_some (hlo.symm.trans hx)
        have ht := there_row_col h1.1 hC1
        rw [hx]
        show There R C (rowOf C x) (colOf C x) ∧ (F' (idx C (rowOf C x) (colOf C x))).b = false ∧ freeK (R * C) true (st R C (rowOf C x) (colOf C x)) F' = some x
        rw [st_in ht, idx_row_col]
        exact ⟨ht, h1.2, freeK_self h1.1 h1.2⟩
      have HB := Lib.hid hb
      clear hfo hlo hb
      obtain ⟨B, hB⟩ : ∃ B, B = fo.isSome := ⟨_, rfl⟩
      rw [← hB] at HFR HLR HB
      have HBe := Lib.hid hB
      clear hB
      go_wp2_with fail
      refine (HFR.out _ HP.out.grid).mono ?_
      rintro e w1 ⟨rfl, hk1⟩
      have l8 : b8 < wr.heap.size := HP.out.at8.lt
      have l9 : b9 < wr.heap.size := HP.out.cnt.lt
      obtain ⟨V1, hV⟩ : ∃ V1, V1 = w1.alloc (.cells #[.int .i64 (oR C fo), .int .i64 (oC C fo)] 26) := ⟨_, rfl⟩
      have kV : Kept0 w1 V1 := by rw [hV]; exact (Kept.refl _ w1).alloc _
      have h10 : TwoAt V1 w1.heap.size (oR C fo) (oC C fo) := by rw [hV]; exact ⟨by simp [go_sem], by simp [go_sem], by simp [go_sem], by simp [go_sem]⟩
      have kk := hk1.trans kV
      have lk1 := hk1.size
      have HP1 := Lib.hid (HP.out.keep kk)
      have HC1 := Lib.hid (HCo.out.kept0 kk)
      clear HP HCo he0 hc9 p0 p1 p2 p3 p4 p5 hk1 kk q0 q1 q2 q3 q4
      go_upto_region 12 with fail
      rw [← hV]
      clear hV kV
      obtain ⟨p0, p1, p2, p3, p4, p5⟩ := HP1.out.at8
      have he0 := HP1.out.e0
      go_wp2_with fail
      refine (HLR.out _ HP1.out.grid).mono ?_
      rintro e w2 ⟨rfl, hk2⟩
      obtain ⟨V2, hV⟩ : ∃ V2, V2 = w2.alloc (.cells #[.int .i64 (oR C lo), .int .i64 (oC C lo)] 26) := ⟨_, rfl⟩
      have kV : Kept0 w2 V2 := by rw [hV]; exact (Kept.refl _ w2).alloc _
      have h12 : TwoAt V2 w2.heap.size (oR C lo) (oC C lo) := by rw [hV]; exact ⟨by simp [go_sem], by simp [go_sem], by simp [go_sem], by simp [go_sem]⟩
      have kk := hk2.trans kV
      have lk2 := hk2.size
      have HP2 := Lib.hid (HP1.out.keep kk)
      have HC2 := Lib.hid (HC1.out.kept0 kk)
      have H10 := Lib.hid (h10.kept kk (fun e => e))
      have H12 := Lib.hid h12
      have l10 := h10.lt
      clear HP1 HC1 he0 p0 p1 p2 p3 p4 p5 hk2 kk HLR HFR h10 h12
      go_upto_region 13 with fail
      rw [← hV]
      clear hV kV
      generalize w2.heap.size = b12 at *
      generalize w1.heap.size = b10 at *
      go_upto_if 72 with fail
      go_cut [] from 10 to 128 (fun wx => Hid (Os w wx bp bo b5 b7 b8 b9 g t cap R C r c b k s F' r' c' b' (j : Int)) ∧ Hid (Coll (b8 + 1) Ds wx))
      case first =>
        cases B
        · go_wp2_with fail
          go_meet
          exact ⟨HP2, HC2⟩
        · obtain ⟨x, hx⟩ := Option.isSome_iff_exists.1 HBe.out.symm
          obtain ⟨y, hy⟩ := Option.isSome_iff_exists.1 HB.out
          obtain ⟨x1, x2, x3⟩ := HX.out x hx
          obtain ⟨y1, y2, y3⟩ := HY.out y hy
          have HF2 : Hid (∀ w', GridAt w' g t cap R C F' → Calls Try.prog 19 #[.pointer (some ⟨g, 0, none⟩), pos (oR C fo) (oC C fo)] w' fun e w'' => e = .returned (.tuple #[pos (oR C fo) (oC C fo), .bool true]) ∧ Kept0 w' w'') := fun w' h => by
            have := free_any g t cap R C F' (oR C fo) (oC C fo) w' h
            rw [x3, ← HBe.out] at this
            exact this
          have HL2 : Hid (∀ w', GridAt w' g t cap R C F' → Calls Try.prog 21 #[.pointer (some ⟨g, 0, none⟩), pos (oR C lo) (oC C lo)] w' fun e w'' => e = .returned (.tuple #[pos (oR C lo) (oC C lo), .bool true]) ∧ Kept0 w' w'') := fun w' h => by
            have := last_any g t cap R C F' (oR C lo) (oC C lo) w' h
            rw [y3, HB.out] at this
            exact this
          have HA1 : Hid (∀ w', GridAt w' g t cap R C F' → Calls Try.prog 26 #[.pointer (some ⟨g, 0, none⟩), .agg #[.int .i64 (oR C fo), .int .i64 (oC C fo)]] w' fun e w'' => e = .returned (.tuple #[(F' (idx C (oR C fo) (oC C fo))).v, .int .i64 0]) ∧ Kept0 w' w'') := fun w' h => at_in g t cap R C F' (oR C fo) (oC C fo) w' h x1
          have HA2 : Hid (∀ w', GridAt w' g t cap R C F' → Calls Try.prog 26 #[.pointer (some ⟨g, 0, none⟩), .agg #[.int .i64 (oR C lo), .int .i64 (oC C lo)]] w' fun e w'' => e = .returned (.tuple #[(F' (idx C (oR C lo) (oC C lo))).v, .int .i64 0]) ∧ Kept0 w' w'') := fun w' h => at_in g t cap R C F' (oR C lo) (oC C lo) w' h y1
          clear hx hy x1 x3 y1 y3 HX HY HB HBe
          generalize F' (idx C (oR C fo) (oC C fo)) = cx at *
          generalize F' (idx C (oR C lo) (oC C lo)) = cy at *
          generalize oR C fo = xr at *
          generalize oC C fo = xc at *
          generalize oR C lo = yr at *
          generalize oC C lo = yc at *
          obtain ⟨xg, xa, xb, xm⟩ := cx
          obtain ⟨yg, ya, yb, ym⟩ := cy
          obtain rfl : xb = false := x2
          obtain rfl : yb = false := y2
          have he0 := HP2.out.e0
          obtain ⟨z0, z1, _, _⟩ := H10.out
          go_wp2_with fail
          refine (HA1.out _ HP2.out.grid).mono ?_
          rintro e w3 ⟨rfl, hk3⟩
          have HP3 := Lib.hid (HP2.out.keep hk3)
          have HC3 := Lib.hid (HC2.out.kept0 hk3)
          have H10a := Lib.hid (H10.out.kept hk3 (fun e => e))
          have H12a := Lib.hid (H12.out.kept hk3 (fun e => e))
          clear hk3 HP2 HC2 H10 H12 he0 z0 z1 HA1
          obtain ⟨V3, hV⟩ : ∃ V3, V3 = w3.alloc (.cells #[.int .i32 xg, .int .i64 xa, .bool false, .int .i64 xm] 36) := ⟨_, rfl⟩
          have kV : Kept0 w3 V3 := by rw [hV]; exact (Kept.refl _ w3).alloc _
          have h14 : Hid (CelAt V3 w3.heap.size ⟨xg, xa, false, xm⟩) := by rw [hV]; exact CelAt.new w3 ⟨xg, xa, false, xm⟩ 36
          have HP4 := Lib.hid (HP3.out.keep kV)
          have HC4 := Lib.hid (HC3.out.kept0 kV)
          have H10b := Lib.hid (H10a.out.kept kV (fun e => e))
          have H12b := Lib.hid (H12a.out.kept kV (fun e => e))
          clear HP3 HC3 H10a H12a kV
          go_upto_region 17 with fail
          rw [← hV]
          clear hV
          have he0 := HP4.out.e0
          obtain ⟨z0, z1, _, _⟩ := H12b.out
          go_wp2_with fail
          refine (HA2.out _ HP4.out.grid).mono ?_
          rintro e w4 ⟨rfl, hk4⟩
          have l14 := World.block_lt_of_cell? V3 _ h14.out.c0
          obtain ⟨V4, hV⟩ : ∃ V4, V4 = w4.alloc (.cells #[.int .i32 yg, .int .i64 ya, .bool false, .int .i64 ym] 36) := ⟨_, rfl⟩
          have kV : Kept0 w4 V4 := by rw [hV]; exact (Kept.refl _ w4).alloc _
          have h16 : Hid (CelAt V4 w4.heap.size ⟨yg, ya, false, ym⟩) := by rw [hV]; exact CelAt.new w4 ⟨yg, ya, false, ym⟩ 36
          have kk := hk4.trans kV
          have HP5 := Lib.hid (HP4.out.keep kk)
          have HC5 := Lib.hid (HC4.out.kept0 kk)
          have H10c := Lib.hid (H10b.out.kept kk (fun e => e))
          have H12c := Lib.hid (H12b.out.kept kk (fun e => e))
          have H14a := Lib.hid (h14.out.kept kk (fun e => e))
          clear hk4 kV kk HP4 HC4 H10b H12b h14 he0 z0 z1 HA2
          go_upto_region 18 with fail
          rw [← hV]
          clear hV
          generalize w4.heap.size = b16 at *
          generalize w3.heap.size = b14 at *
          have he0 := HP5.out.e0
          obtain ⟨z0, z1, _, _⟩ := H10c.out
          go_wp2_with fail
          refine (HF2.out _ HP5.out.grid).mono ?_
          rintro e w5 ⟨rfl, hk5⟩
          obtain ⟨V5, hV⟩ : ∃ V5, V5 = w5.alloc (.cells #[.int .i64 xr, .int .i64 xc] 26) := ⟨_, rfl⟩
          have kV : Kept0 w5 V5 := by rw [hV]; exact (Kept.refl _ w5).alloc _
          have h18 : Hid (TwoAt V5 w5.heap.size xr xc) := by rw [hV]; exact ⟨by simp [go_sem], by simp [go_sem], by simp [go_sem], by simp [go_sem]⟩
          have kk := hk5.trans kV
          have HP6 := Lib.hid (HP5.out.keep kk)
          have HC6 := Lib.hid (HC5.out.kept0 kk)
          have H10d := Lib.hid (H10c.out.kept kk (fun e => e))
          have H12d := Lib.hid (H12c.out.kept kk (fun e => e))
          have H14b := Lib.hid (H14a.out.kept kk (fun e => e))
          have H16b := Lib.hid (h16.out.kept kk (fun e => e))
          clear hk5 kV kk HP5 HC5 H10c H12c H14a h16 he0 z0 z1 HF2
          go_upto_region 19 with fail
          rw [← hV]
          clear hV
          have he0 := HP6.out.e0
          obtain ⟨z0, z1, _, _⟩ := H12d.out
          go_wp2_with fail
          refine (HL2.out _ HP6.out.grid).mono ?_
          rintro e w6 ⟨rfl, hk6⟩
          obtain ⟨V6, hV⟩ : ∃ V6, V6 = w6.alloc (.cells #[.int .i64 yr, .int .i64 yc] 26) := ⟨_, rfl⟩
          have kV : Kept0 w6 V6 := by rw [hV]; exact (Kept.refl _ w6).alloc _
          have h20 : Hid (TwoAt V6 w6.heap.size yr yc) := by rw [hV]; exact ⟨by simp [go_sem], by simp [go_sem], by simp [go_sem], by simp [go_sem]⟩
          have kk := hk6.trans kV
          have HP7 := Lib.hid (HP6.out.keep kk)
          have HC7 := Lib.hid (HC6.out.kept0 kk)
          have H10e := Lib.hid (H10d.out.kept kk (fun e => e))
          have H12e := Lib.hid (H12d.out.kept kk (fun e => e))
          have H14c := Lib.hid (H14b.out.kept kk (fun e => e))
          have H16c := Lib.hid (H16b.out.kept kk (fun e => e))
          have H18c := Lib.hid (h18.out.kept kk (fun e => e))
          clear hk6 kV kk HP6 HC6 H10d H12d H14b H16b h18 he0 z0 z1 HL2
          go_upto_region 20 with fail
          rw [← hV]
          clear hV
          obtain ⟨z0, z1, _, _⟩ := H10e.out
          obtain ⟨v0, v1, _, _⟩ := H12e.out
          obtain ⟨y0, y1, _, _⟩ := H18c.out
          obtain ⟨t0, t1, _, _⟩ := h20.out
          obtain ⟨_, _, i2, _⟩ := H14c.out
          obtain ⟨_, _, i3, _⟩ := H16c.out
          simp only at i2 i3
          have hsx := same_pos xr xc
          have hsy := same_pos yr yc
          go_wp2_with fail
          go_meet
          exact ⟨HP7, HC7⟩
      case rest =>
      obtain ⟨HP3, HC3⟩ := hcut
      clear HP2 HC2 H10 H12 HX HY HB HBe l10 lk1 lk2
      generalize wc = wA at *
      clear wc
      have he0 := HP3.out.e0
      go_wp2_with fail
      refine (copy_any g t cap R C F' _ HP3.out.grid).mono ?_
      rintro e w1 ⟨h, u, ch, rfl, m1, m2, hh, hk1⟩
      have HP4 := Lib.hid (HP3.out.keep hk1)
      have HC4 := Lib.hid (HC3.out.kept0 hk1)
      have HH4 := Lib.hid hh
      have l9 : b9 < wA.heap.size := HP3.out.cnt.lt
      have lk1 := hk1.size
      have hg9 := HP3.out.o
      clear HP3 HC3 hk1 hh he0
      obtain ⟨p0, p1, p2, p3, p4, p5⟩ := HP4.out.at8
      have s0 := HP4.out.s0
      have s1 := HP4.out.s1
      go_wp2_with fail
      refine (ahead_any' R C r' c' b' _ HP4.out.grid.R1 HP4.out.grid.R2 HP4.out.grid.C1 HP4.out.grid.C2).mono ?_
      rintro e w2 ⟨rfl, hk2⟩
      clear p0 p1 p2 p3 p4 p5 s0 s1
      obtain ⟨V2, hV⟩ : ∃ V2, V2 = w2.alloc (.cells #[.int .i64 (aR R r' b'), .int .i64 (aC C c' b')] 26) := ⟨_, rfl⟩
      have kV : Kept0 w2 V2 := by rw [hV]; exact (Kept.refl _ w2).alloc _
      have h23 : Hid (TwoAt V2 w2.heap.size (aR R r' b') (aC C c' b')) := by rw [hV]; exact ⟨by simp [go_sem], by simp [go_sem], by simp [go_sem], by simp [go_sem]⟩
      have kk := hk2.trans kV
      have lk2 := hk2.size
      have HP5 := Lib.hid (HP4.out.keep kk)
      have HC5 := Lib.hid (HC4.out.kept0 kk)
      have HH5 := Lib.hid (HH4.out.kept kk (fun e => e) (fun e => e))
      have l23 : w2.heap.size < V2.heap.size := h23.out.lt
      clear hk2 kV kk HP4 HC4 HH4
      go_upto_region 24 with fail
      rw [← hV]
      clear hV
      generalize w2.heap.size = b23 at *
      generalize V2 = wB at *
      obtain ⟨y, hy⟩ : ∃ y, y = celB (s[j].toNat : Int) := ⟨_, rfl⟩
      obtain ⟨dt, hdt⟩ : ∃ dt, dt = celB 46 := ⟨_, rfl⟩
      have HPT : Hid (∀ w', GridAt w' g t cap R C F' → Calls Try.prog 15 #[.pointer (some ⟨g, 0, none⟩), place r' c' b', y.v, .int .i64 k, dt.v] w' fun e w'' => e = .returned (.tuple #[place (putR R C r' c' b' k) (putC C c' b' k) (putP C c' b' k), .int .i64 (putN R C r' c' b' k), .int .i64 0]) ∧ GridAt w'' g t cap R C (putF R C F' r' c' b' y k dt) ∧ Kept (· = t) w' w'') := fun w' h => put_any g t cap R C F' r' c' k b' y dt w' h
      have HUP : Hid (aU R r' b' = true → ¬ putN R C r' c' b' k = 0) := fun h => put_up h
      have HON : Hid (putN R C r' c' b' k = 0 → ∀ q, putF R C F' r' c' b' y k dt q = upd F' (idx C (aR R r' b') (aC C c' b')) y q) := fun h q => by rw [put_once h]
      have HTH : Hid (There R C (aR R r' b') (aC C c' b')) := a_there hR1 hC1
      have HNN : Hid (0 ≤ putN R C r' c' b' k) := (putN_in R C r' c' b' k).1
      have HY := Lib.hid hy
      have HDT := Lib.hid hdt
      clear hy hdt
      generalize putN R C r' c' b' k = pn at *
      generalize putR R C r' c' b' k = pr at *
      generalize putC C c' b' k = pc at *
      generalize putP C c' b' k = pp at *
      generalize putF R C F' r' c' b' y k dt = pF at *
      generalize aU R r' b' = up at *
      generalize aR R r' b' = ar at *
      generalize aC C c' b' = ac at *
      go_cut [25, 26, 27] from 137 to 151 (fun s25 s26 s27 wx => ∃ b25 b26 : Nat, s25 = .pointer (some ⟨b25, 0, none⟩) ∧ s26 = .pointer (some ⟨b26, 0, none⟩) ∧ s27 = .int .i64 0 ∧ wB.heap.size ≤ b25 ∧ wB.heap.size ≤ b26 ∧ Hid (Three wx b25 pr pc pp) ∧ Hid (NumA wx b26 pn) ∧ Hid (TwoAt wx b23 ar ac) ∧ Hid (GridAt wx h u ch R C F') ∧ Hid (Os w wx bp bo b5 b7 b8 b9 g t cap R C r c b k s pF r' c' b' (j : Int)) ∧ Hid (Coll (b8 + 1) Ds wx))
      case first =>
        clear HUP HON HTH HNN
        obtain ⟨q0, q1, q2, q3, q4⟩ := HP5.out.pen
        obtain ⟨p0, p1, p2, p3, p4, p5⟩ := HP5.out.at8
        have he0 := HP5.out.e0
        have hc9 := HP5.out.cnt.c
        have lo := HP5.out.o
        have l99 : b9 < wB.heap.size := HP5.out.cnt.lt
        have i1 : (0 : Int) ≤ (j : Int) := by omega
        have i2 : (j : Int) < (s.size : Int) := by omega
        have l23' : b23 < wB.heap.size := h23.out.lt
        have lh23 := HH5.out.lt
        have lu23 := HH5.out.row.lt
        have nt23 : ¬ b23 = t := by omega
        have nth : ¬ h = t := by omega
        have ntu : ¬ u = t := by omega
        have HLEAF : Hid (∀ z5, GridAt z5 g t cap R C pF → Kept (· = t) wB z5 → ∀ (W : World) (b25 b26 : Nat), Kept (fun q => wB.heap.size ≤ q) z5 W → wB.heap.size ≤ b25 → wB.heap.size ≤ b26 → Three W b25 pr pc pp → NumA W b26 pn → wB.heap.size ≤ b25 ∧ wB.heap.size ≤ b26 ∧ Hid (Three W b25 pr pc pp) ∧ Hid (NumA W b26 pn) ∧ Hid (TwoAt W b23 ar ac) ∧ Hid (GridAt W h u ch R C F') ∧ Hid (Os w W bp bo b5 b7 b8 b9 g t cap R C r c b k s pF r' c' b' (j : Int)) ∧ Hid (Coll (b8 + 1) Ds W)) := by
          show ∀ z5, _
          intro z5 h1 h2 W b25 b26 h3 h4 h5 h6 h7
          have k5 : Kept (fun q => q = t ∨ wB.heap.size ≤ q) wB W := (h2.mono (fun q _ e => Or.inl e)).trans (h3.mono (fun q _ e => Or.inr e))
          refine ⟨h4, h5, h6, h7, h23.out.kept k5 (by omega), HH5.out.kept k5 (by omega) (by omega), (HP5.out.onG h2 h1).apart h3 (fun q e => by omega), HC5.out.kept' k5 (fun D hD e => ?_)⟩
          obtain ⟨e1, e2⟩ := HC5.out.all D hD
          have e3 := (Array.getElem?_eq_some_iff.1 e2).1
          rcases e with rfl | e
          · obtain ⟨cur, e4, _⟩ := HP5.out.grid.row
            rw [e4] at e2
            simp at e2
          · omega
        obtain ⟨T, hT⟩ : ∃ T : Nat → Prop, T = fun q => q = t ∨ wB.heap.size ≤ q := ⟨_, rfl⟩
        have HNT : Hid (∀ q, q < wB.heap.size → ¬ q = t → ¬ T q) := by
          show ∀ q, _
          intro q h1 h2 h3
          rw [hT] at h3
          omega
        have HTT : Hid (T t) := by show T t; rw [hT]; exact Or.inl rfl
        have HTB : Hid (∀ q, wB.heap.size ≤ q → T q) := by show ∀ q, _; intro q hq; rw [hT]; exact Or.inr hq
        clear hT
        have hl0 : ∀ w', Kept T wB w' → w'.cell? ⟨b5, 0, none⟩ = some (.pointer (some ⟨g, 0, none⟩)) := fun w' kk => kcellS kk he0 (HNT.out _ (by omega) (by omega))
        have hl1 : ∀ w', Kept T wB w' → w'.cell? ⟨b8, 0, none⟩ = some (.int .i64 r') := fun w' kk => kcellS kk p0 (HNT.out _ (by omega) (by omega))
        have hl2 : ∀ w', Kept T wB w' → w'.cell? ⟨b8, 1, none⟩ = some (.int .i64 c') := fun w' kk => kcellS kk p1 (HNT.out _ (by omega) (by omega))
        have hl3 : ∀ w', Kept T wB w' → w'.cell? ⟨b8, 2, none⟩ = some (.bool b') := fun w' kk => kcellS kk p2 (HNT.out _ (by omega) (by omega))
        have hl4 : ∀ w', Kept T wB w' → w'.cell? ⟨bp, 3, none⟩ = some (.int .i64 k) := fun w' kk => kcellS kk q3 (HNT.out _ (by omega) (by omega))
        have hl5 : ∀ w', Kept T wB w' → w'.cell? ⟨bp, 4, none⟩ = some (.string s) := fun w' kk => kcellS kk q4 (HNT.out _ (by omega) (by omega))
        have hl6 : ∀ w', Kept T wB w' → w'.cell? ⟨b9, 0, none⟩ = some (.int .i64 (j : Int)) := fun w' kk => kcellS kk hc9 (HNT.out _ (by omega) (by omega))
        have kT : Kept T wB wB.drew := (Kept.refl T wB).drew
        clear he0 p0 p1 p2 p3 p4 p5 q0 q1 q2 q3 q4 hc9
        rename_i xa4 xlo xQ xK1 xa3 xw1 xl9 xw2 xV2 xK0 xa2 xJ xK xa1 xa0
        clear xa4 xa3 xa2
        go_region_held3 (fun w' => Kept T wB w') (repeat (first | assumption | exact Kept.refl _ _ | refine Kept.drew ?_ | refine Kept.alloc ?_ _ | refine Kept.setCell ?_ _ (Or.inr (HTB.out _ (by first | omega | (simp; done) | (simp; omega)))) _))
          (first
            | (go_at_call 15
               refine (HPT.out _ (HP5.out.grid.kept (by first | exact kz4.out | exact kz4.out.alloc _ | exact (kz4.out.alloc _).alloc _) (fun e => e) (fun e => e))).mono ?_
               rintro e z5 ⟨rfl, hG5, hkz5⟩
               have kz5 : Hid (Kept (· = t) wB z5) := (by first | exact (Kept0.to kz4.out).trans hkz5 | exact (Kept0.to (kz4.out.alloc _)).trans hkz5 | exact (Kept0.to ((kz4.out.alloc _).alloc _)).trans hkz5)
               have kT5 : Kept T wB z5 := (kz5.out.mono (fun q _ e => e ▸ HTT.out))
               have ls5 := kz5.out.size
               have ls55 := hkz5.size
               try simp only [World.size_alloc] at ls55
               try (replace fT := (by first | exact fT.kept hkz5 (by omega) | exact (fT.kept ((Kept.refl (fun _ => False) _).alloc _) (fun e => e)).kept hkz5 (by omega) | exact ((fT.kept ((Kept.refl (fun _ => False) _).alloc _) (fun e => e)).kept ((Kept.refl (fun _ => False) _).alloc _) (fun e => e)).kept hkz5 (by omega)))
               try (replace fN := (by first | exact fN.kept hkz5 (by omega) | exact (fN.kept ((Kept.refl (fun _ => False) _).alloc _) (fun e => e)).kept hkz5 (by omega) | exact ((fN.kept ((Kept.refl (fun _ => False) _).alloc _) (fun e => e)).kept ((Kept.refl (fun _ => False) _).alloc _) (fun e => e)).kept hkz5 (by omega)))
               try (have fT : Three z5 z4.heap.size 0 0 false := (by first | exact (three_newN z4 39).kept hkz5 (by omega) | exact ((three_newN z4 39).kept ((Kept.refl (fun _ => False) _).alloc _) (fun e => e)).kept hkz5 (by omega)))
               try (have fT : Three z5 (z4.heap.size + 1) 0 0 false := (by have := three_newN (z4.alloc (.cells #[.int .i64 0] 3)) 39; rw [World.size_alloc] at this; exact this.kept hkz5 (by omega)))
               try (have fN : NumA z5 z4.heap.size 0 := (by first | exact (num_newN z4).kept hkz5 (by omega) | exact ((num_newN z4).kept ((Kept.refl (fun _ => False) _).alloc _) (fun e => e)).kept hkz5 (by omega)))
               try (have fN : NumA z5 (z4.heap.size + 1) 0 := (by have := num_newN (z4.alloc (.cells #[.int .i64 0, .int .i64 0, .bool false] 39)); rw [World.size_alloc] at this; exact this.kept hkz5 (by omega)))
               try (have g0 : wB.heap.size < z5.heap.size := (by omega))
               try (have gg0 : wB.heap.size + 1 < z5.heap.size := (by omega))
               try (have g1 : z3.heap.size < z5.heap.size := (by omega))
               try (have gg1 : z3.heap.size + 1 < z5.heap.size := (by omega))
               try (have g2 : z4.heap.size < z5.heap.size := (by omega))
               try (have gg2 : z4.heap.size + 1 < z5.heap.size := (by omega))
               try (have d01 : ¬ wB.heap.size = z3.heap.size := (by omega))
               try (have d10 : ¬ z3.heap.size = wB.heap.size := (by omega))
               try (have d02 : ¬ wB.heap.size = z4.heap.size := (by omega))
               try (have d20 : ¬ z4.heap.size = wB.heap.size := (by omega))
               try (have d03 : ¬ wB.heap.size = z5.heap.size := (by omega))
               try (have d30 : ¬ z5.heap.size = wB.heap.size := (by omega))
               try (have d12 : ¬ z3.heap.size = z4.heap.size := (by omega))
               try (have d21 : ¬ z4.heap.size = z3.heap.size := (by omega))
               try (have d13 : ¬ z3.heap.size = z5.heap.size := (by omega))
               try (have d31 : ¬ z5.heap.size = z3.heap.size := (by omega))
               try (have d23 : ¬ z4.heap.size = z5.heap.size := (by omega))
               try (have d32 : ¬ z5.heap.size = z4.heap.size := (by omega))
               try (obtain ⟨a0, a1, a2, a3, a4, a5⟩ := fT)
               try (obtain ⟨n0, n1⟩ := fN))
            | (go_at_call 12
               refine (HC.out _ _ (by omega) (by omega)).mono ?_
               rw [← HDT.out]
               rintro e z4 ⟨rfl, hkz4⟩
               have kz4 : Hid (Kept0 wB z4) := (by first | exact kz3.out.trans hkz4 | exact (kz3.out.alloc _).trans hkz4 | exact ((kz3.out.alloc _).alloc _).trans hkz4)
               have kT4 : Kept T wB z4 := kz4.out.to
               have ls4 := kz4.out.size
               have ls44 := hkz4.size
               try simp only [World.size_alloc] at ls44
               try (replace fT := (by first | exact fT.kept hkz4 (fun e => e) | exact (fT.kept ((Kept.refl (fun _ => False) _).alloc _) (fun e => e)).kept hkz4 (fun e => e) | exact ((fT.kept ((Kept.refl (fun _ => False) _).alloc _) (fun e => e)).kept ((Kept.refl (fun _ => False) _).alloc _) (fun e => e)).kept hkz4 (fun e => e)))
               try (replace fN := (by first | exact fN.kept hkz4 (fun e => e) | exact (fN.kept ((Kept.refl (fun _ => False) _).alloc _) (fun e => e)).kept hkz4 (fun e => e) | exact ((fN.kept ((Kept.refl (fun _ => False) _).alloc _) (fun e => e)).kept ((Kept.refl (fun _ => False) _).alloc _) (fun e => e)).kept hkz4 (fun e => e)))
               try (have fT : Three z4 z3.heap.size 0 0 false := (by first | exact (three_newN z3 39).kept hkz4 (fun e => e) | exact ((three_newN z3 39).kept ((Kept.refl (fun _ => False) _).alloc _) (fun e => e)).kept hkz4 (fun e => e)))
               try (have fT : Three z4 (z3.heap.size + 1) 0 0 false := (by have := three_newN (z3.alloc (.cells #[.int .i64 0] 3)) 39; rw [World.size_alloc] at this; exact this.kept hkz4 (fun e => e)))
               try (have fN : NumA z4 z3.heap.size 0 := (by first | exact (num_newN z3).kept hkz4 (fun e => e) | exact ((num_newN z3).kept ((Kept.refl (fun _ => False) _).alloc _) (fun e => e)).kept hkz4 (fun e => e)))
               try (have fN : NumA z4 (z3.heap.size + 1) 0 := (by have := num_newN (z3.alloc (.cells #[.int .i64 0, .int .i64 0, .bool false] 39)); rw [World.size_alloc] at this; exact this.kept hkz4 (fun e => e)))
)
            | (go_at_call 12
               refine (HC.out _ _ (by omega) (by have := UInt8.toNat_lt s[j]; omega)).mono ?_
               rw [← HY.out]
               rintro e z3 ⟨rfl, hkz3⟩
               have kz3 : Hid (Kept0 wB z3) := (by first | exact (Kept.refl (fun _ => False) wB).drew.trans hkz3 | exact ((Kept.refl (fun _ => False) wB).alloc _).drew.trans hkz3 | exact (((Kept.refl (fun _ => False) wB).alloc _).alloc _).drew.trans hkz3)
               have kT3 : Kept T wB z3 := kz3.out.to
               have ls3 := kz3.out.size
               have ls33 := hkz3.size
               try simp only [World.size_alloc, size_drew] at ls33
               try (have fT : Three z3 wB.heap.size 0 0 false := (by first | exact (three_newN wB 39).kept (kept_of_drew hkz3) (fun e => e) | exact ((three_newN wB 39).kept ((Kept.refl (fun _ => False) _).alloc _) (fun e => e)).kept (kept_of_drew hkz3) (fun e => e)))
               try (have fT : Three z3 (wB.heap.size + 1) 0 0 false := (by have := three_newN (wB.alloc (.cells #[.int .i64 0] 3)) 39; rw [World.size_alloc] at this; exact this.kept (kept_of_drew hkz3) (fun e => e)))
               try (have fN : NumA z3 wB.heap.size 0 := (by first | exact (num_newN wB).kept (kept_of_drew hkz3) (fun e => e) | exact ((num_newN wB).kept ((Kept.refl (fun _ => False) _).alloc _) (fun e => e)).kept (kept_of_drew hkz3) (fun e => e)))
               try (have fN : NumA z3 (wB.heap.size + 1) 0 := (by have := num_newN (wB.alloc (.cells #[.int .i64 0, .int .i64 0, .bool false] 39)); rw [World.size_alloc] at this; exact this.kept (kept_of_drew hkz3) (fun e => e)))
))
        all_goals
          clear HPT HY HDT HC HAW HNT HTT hl0 hl1 hl2 hl3 hl4 hl5 hl6
          clear HP5 HC5 HH5 h23 hR1 hC1 HTB
          go_wp2_with fail
          go_meet
          refine ⟨_, _, rfl, rfl, rfl, HLEAF.out z5 hG5 kz5.out _ _ _ ?_ ?_ ?_ ?_ ?_⟩
          · repeat (first | exact Kept.refl _ _ | refine Kept.alloc ?_ _ | refine Kept.setCell ?_ _ (Or.inr (by first | omega | (simp; done) | (simp; omega))) _)
          · first | omega | (simp; done) | (simp; omega)
          · first | omega | (simp; done) | (simp; omega)
          · constructor <;> (simp [go_sem, *]; done)
          · constructor <;> (simp [go_sem, *]; done)
      case rest =>
      obtain ⟨b25, b26, rfl, rfl, rfl, m25, m26, H25, H26, H23, HH6, HP6, HC6⟩ := hcut
      have HCY : Hid (∀ w', Calls Try.prog 12 #[.int .u8 (s[j].toNat : Int)] w' fun e w'' => e = .returned y.v ∧ Kept0 w' w'') := fun w' => by rw [HY.out]; exact HC.out _ _ (by omega) (by have := UInt8.toNat_lt s[j]; omega)
      have lB9 : b9 < wB.heap.size := HP5.out.cnt.lt
      clear HP5 HC5 HH5 h23 HPT HY HDT l23
      generalize wc = wD at *
      clear wc
      have HUPB : Hid (up = true → (pn == 0) = false) := fun h => by have := HUP.out h; simp [this]
      clear HUP
      go_upto_region 25 with fail
      go_cut [160] from 152 to 160 (fun s160 wx => s160 = .bool false ∧ wx = wD)
      case first =>
        obtain ⟨n0, n1⟩ := H26.out
        cases up
        · go_wp2_with fail
          go_meet
          exact ⟨rfl, rfl⟩
        · have hz := HUPB.out rfl
          have hz2 : ¬ pn = 0 := by intro e; rw [e] at hz; simp at hz
          go_wp2_with fail
          go_meet
          exact ⟨rfl, rfl⟩
      case rest =>
      obtain ⟨rfl, rfl⟩ := hcut
      generalize wc = wD at *
      --A
      have lDh := HH6.out.lt
      have lDu := HH6.out.row.lt
      have lD9 : b9 < wD.heap.size := HP6.out.cnt.lt
      have lD25 := H25.out.lt
      have lD26 := H26.out.lt
      have lD23 := H23.out.lt
      go_wp2_with fail
      refine (all_any _ _).mono ?_
      rintro e w9 ⟨rfl, rfl⟩
      obtain ⟨w8, hw8⟩ : ∃ w8, w8 = wD.alloc (.cells #[.pointer (some ⟨h, 0, none⟩)] 31) := ⟨_, rfl⟩
      have k8 : Kept0 wD w8 := by rw [hw8]; exact (Kept.refl _ wD).alloc _
      have hbx : w8.cell? ⟨wD.heap.size, 0, none⟩ = some (.pointer (some ⟨h, 0, none⟩)) := by rw [hw8]; simp [go_sem]
      have hs8 : wD.heap.size + 1 = w8.heap.size := by rw [hw8]; simp
      have HP8 := Lib.hid (HP6.out.keep k8)
      have HC8 := Lib.hid (HC6.out.kept0 k8)
      have HH8 := Lib.hid (HH6.out.kept k8 (fun e => e) (fun e => e))
      have H25a := Lib.hid (H25.out.kept0 k8)
      have H26a := Lib.hid (H26.out.kept k8 (fun e => e))
      have H23a := Lib.hid (H23.out.kept k8 (fun e => e))
      clear HP6 HC6 HH6 H25 H26 H23
      rw [← hw8]
      clear hw8 k8
      go_wp2_with fail
      refine wpIn_wide.1 (wp_range (n := 0) (gf := 49) (lb := #[.pointer (some ⟨wD.heap.size, 0, none⟩)]) rfl (enters_of Try.func49 (by kernel_rfl) rfl) (all1_grid wD.heap.size h u ch R C F') (fun _ => rfl)
        (fun q W => Kept0 w8 W) (fun _ _ _ => False) ?_ (fun _ _ _ _ h _ => h) ?_ ?_ ?_ ?_ ?_)
      · rintro q W W' h1 hb
        exact h1.thenBelow hb (Nat.le_refl _)
      · rintro q W hW
        exact ⟨kcell hW hbx, HH8.out.kept hW (fun e => e) (fun e => e)⟩
      · exact Kept.refl _ _
      · rintro l9 q W hl1 hl2 hq hKW
        have hsW9 := hKW.size
        unfold allArgs
        gi_wp2_with fail
        refine ⟨((Kept.refl _ W).alloc _).alloc _, fun W4 hk2 hb2 => ?_⟩
        have hlW : ¬ W.heap.size = l9 := by omega
        have hlW1 : ¬ W.heap.size + 1 = l9 := by omega
        have hcc : Hid (W4.cell? ⟨W.heap.size, 0, none⟩ = some (.int .i64 (rowOf C q : Int)) ∧ W4.cell? ⟨W.heap.size, 1, none⟩ = some (.int .i64 (colOf C q : Int))) := ⟨(hk2.cell (by simp; omega) hlW).trans (by simp [go_sem]), (hk2.cell (by simp; omega) hlW).trans (by simp [go_sem])⟩
        have xx : CelAt W4 (W.heap.size + 1) (F' q) := by
          have := CelAt.new (W.alloc (.cells #[.int .i64 (rowOf C q : Int), .int .i64 (colOf C q : Int)] 26)) (F' q) 36
          rw [World.size_alloc] at this
          exact this.kept hk2 hlW1
        have hbW : Below w8.heap.size W W4 := (((Below.refl _ W).alloc (by omega) _).alloc (by simp; omega) _).trans hb2
        have hK4 : Hid (Kept0 w8 W4) := hKW.thenBelow hbW (Nat.le_refl _)
        have HX4 := Lib.hid xx
        have HP9 := Lib.hid (HP8.out.keep hK4.out)
        have he4 := HP9.out.e0
        obtain ⟨c0, c1⟩ := hcc.out
        have hth := there_row_col hq (R := R) (C := C) HP9.out.grid.C1
        have hix : Hid (idx C (rowOf C q : Int) (colOf C q : Int) = q) := idx_row_col C q
        have lW4 : W.heap.size + 1 < W4.heap.size := World.block_lt_of_cell? W4 _ xx.c0
        have HQ : Hid (((rowOf C q : Int) = ar ∧ (colOf C q : Int) = ac) ↔ q = idx C ar ac) := idx_inj HTH.out
        clear hk2 hb2 hbW hKW xx
        gi_wp2_with fail
        refine round_call0 ((at_in g t cap R C pF _ _ _ HP9.out.grid hth).mono ?_)
        rw [hix.out]
        rintro e W3 ⟨rfl, hk3⟩
        obtain ⟨W6, hW6⟩ : ∃ W6, W6 = W3.alloc (.cells #[.int .i32 (pF q).g, .int .i64 (pF q).a, .bool (pF q).b, .int .i64 (pF q).m] 36) := ⟨_, rfl⟩
        have kW6 : Kept0 W3 W6 := by rw [hW6]; exact (Kept.refl _ W3).alloc _
        have hz : Hid (CelAt W6 W3.heap.size (pF q)) := by rw [hW6]; exact CelAt.new W3 (pF q) 36
        have k46 := hk3.trans kW6
        have HK46 := Lib.hid k46
        have HI6 := Lib.hid (hK4.out.trans k46)
        have HPa := Lib.hid (HP9.out.keep k46)
        have HXa := Lib.hid (HX4.out.kept k46 (fun e => e))
        have HCa : Hid (W6.cell? ⟨W.heap.size, 0, none⟩ = some (.int .i64 (rowOf C q : Int)) ∧ W6.cell? ⟨W.heap.size, 1, none⟩ = some (.int .i64 (colOf C q : Int))) := ⟨kcell k46 c0, kcell k46 c1⟩
        have H26b := Lib.hid (H26a.out.kept HI6.out (fun e => e))
        have H23b := Lib.hid (H23a.out.kept HI6.out (fun e => e))
        clear hk3 kW6 k46 c0 c1 he4 hth hix HP9 HX4 hcc hK4
        gi_wp2_with fail
        rw [← hW6]
        clear hW6
        have hn0 := HNN.out
        by_cases hz0 : pn = 0
        · subst hz0
          have hon := HON.out rfl q
          by_cases hp : (rowOf C q : Int) = ar ∧ (colOf C q : Int) = ac
          · have e1 : pF q = y := by rw [hon, HQ.out.1 hp]; simp [upd]
            rw [e1] at hz
            have hep : ∀ w', (Op.equalIn 10000 26 (.agg #[.int .i64 (rowOf C q : Int), .int .i64 (colOf C q : Int)]) (.agg #[.int .i64 ar, .int .i64 ac])).run Try.prog w' = .ok true w' := fun w' => by rw [eq_pos]; simp [hp]
            clear hon hp e1 HQ HON
            obtain ⟨z0, z1, z2, z3⟩ := hz.out
            obtain ⟨c0, c1⟩ := HCa.out
            obtain ⟨t0, t1, _, _⟩ := H23b.out
            obtain ⟨n0, _⟩ := H26b.out
            obtain ⟨_, _, _, _, q4⟩ := HPa.out.pen
            have hc9 := HPa.out.cnt.c
            have i1 : (0 : Int) ≤ (j : Int) := by omega
            have i2 : (j : Int) < (s.size : Int) := by omega
            refine wpIn_boxed (fun w' => Kept0 W6 w') ((Kept.refl _ W6).drewN 1) (by kernel_rfl) (by kernel_rfl) (by kernel_rfl) (fun ⟨_, _, h⟩ => h) ?_
            refine boxI_op (.int .i64 0) (by kernel_rfl) (fun w' hw' => by go_simp) ?_
            simp only [Act.put, List.setIfInBounds_toArray, List.set_cons_zero, List.set_cons_succ]
            refine boxI_op (.bool false) (by kernel_rfl) (fun w' hw' => by go_simp) ?_
            simp only [Act.put, List.setIfInBounds_toArray, List.set_cons_zero, List.set_cons_succ]
            refine boxI_op (.bool false) (by kernel_rfl) (fun w' hw' => by go_simp) ?_
            simp only [Act.put, List.setIfInBounds_toArray, List.set_cons_zero, List.set_cons_succ]
            refine boxI_op (.int .i64 0) (by kernel_rfl) (fun w' hw' => by have y0 := kcell hw' n0; go_simp) ?_
            simp only [Act.put, List.setIfInBounds_toArray, List.set_cons_zero, List.set_cons_succ]
            refine boxI_op (.bool true) (by kernel_rfl) (fun w' hw' => by go_simp) ?_
            simp only [Act.put, List.setIfInBounds_toArray, List.set_cons_zero, List.set_cons_succ]
            refine boxI_op (.bool true) (by kernel_rfl) (fun w' hw' => by go_simp) ?_
            simp only [Act.put, List.setIfInBounds_toArray, List.set_cons_zero, List.set_cons_succ]
            refine boxI_op (.agg #[.int .i64 (rowOf C q : Int), .int .i64 (colOf C q : Int)]) (by kernel_rfl) (fun w' hw' => by have y0 := kcell hw' c0; have y1 := kcell hw' c1; go_simp) ?_
            simp only [Act.put, List.setIfInBounds_toArray, List.set_cons_zero, List.set_cons_succ]
            refine boxI_op (.agg #[.int .i64 ar, .int .i64 ac]) (by kernel_rfl) (fun w' hw' => by have y0 := kcell hw' t0; have y1 := kcell hw' t1; go_simp) ?_
            simp only [Act.put, List.setIfInBounds_toArray, List.set_cons_zero, List.set_cons_succ]
            refine boxI_op (.bool true) (by kernel_rfl) (fun w' hw' => by have y0 := hep w'; go_simp) ?_
            simp only [Act.put, List.setIfInBounds_toArray, List.set_cons_zero, List.set_cons_succ]
            refine boxI_op (.bool true) (by kernel_rfl) (fun w' hw' => by go_simp) ?_
            simp only [Act.put, List.setIfInBounds_toArray, List.set_cons_zero, List.set_cons_succ]
            refine boxI_op (y.v) (by kernel_rfl) (fun w' hw' => by have y0 := kcell hw' z0; have y1 := kcell hw' z1; have y2 := kcell hw' z2; have y3 := kcell hw' z3; go_simp) ?_
            simp only [Act.put, List.setIfInBounds_toArray, List.set_cons_zero, List.set_cons_succ]
            refine boxI_op (.pointer (some ⟨bp, 4, none⟩)) (by kernel_rfl) (fun w' hw' => by go_simp) ?_
            simp only [Act.put, List.setIfInBounds_toArray, List.set_cons_zero, List.set_cons_succ]
            refine boxI_op (.string s) (by kernel_rfl) (fun w' hw' => by have y0 := kcell hw' q4; go_simp) ?_
            simp only [Act.put, List.setIfInBounds_toArray, List.set_cons_zero, List.set_cons_succ]
            refine boxI_op (.int .i64 (j : Int)) (by kernel_rfl) (fun w' hw' => by have y0 := kcell hw' hc9; go_simp) ?_
            simp only [Act.put, List.setIfInBounds_toArray, List.set_cons_zero, List.set_cons_succ]
            refine boxI_op (.int .u8 (s[j].toNat : Int)) (by kernel_rfl) (fun w' hw' => by go_simp) ?_
            simp only [Act.put, List.setIfInBounds_toArray, List.set_cons_zero, List.set_cons_succ]
            refine boxI_op (y.v) (by kernel_rfl) (fun w' hw' => ?_) ?_
            · go_simp
              exact (HCY.out w').mono fun e w5 ⟨h1, h2⟩ => ⟨h1, hw'.trans h2⟩
            simp only [Act.put, List.setIfInBounds_toArray, List.set_cons_zero, List.set_cons_succ]
            refine boxI_op (.bool false) (by kernel_rfl) (fun w' hw' => by have y0 := same_cel y w'; go_simp) ?_
            simp only [Act.put, List.setIfInBounds_toArray, List.set_cons_zero, List.set_cons_succ]
            refine boxI_op (.bool false) (by kernel_rfl) (fun w' hw' => by go_simp) ?_
            simp only [Act.put, List.setIfInBounds_toArray, List.set_cons_zero, List.set_cons_succ]
            refine boxI_op (.bool false) (by kernel_rfl) (fun w' hw' => by go_simp) ?_
            simp only [Act.put, List.setIfInBounds_toArray, List.set_cons_zero, List.set_cons_succ]
            refine boxI_op (.agg #[.int .i64 (rowOf C q : Int), .int .i64 (colOf C q : Int)]) (by kernel_rfl) (fun w' hw' => by have y0 := kcell hw' c0; have y1 := kcell hw' c1; go_simp) ?_
            simp only [Act.put, List.setIfInBounds_toArray, List.set_cons_zero, List.set_cons_succ]
            refine boxI_op (.agg #[.int .i64 ar, .int .i64 ac]) (by kernel_rfl) (fun w' hw' => by have y0 := kcell hw' t0; have y1 := kcell hw' t1; go_simp) ?_
            simp only [Act.put, List.setIfInBounds_toArray, List.set_cons_zero, List.set_cons_succ]
            refine boxI_op (.bool false) (by kernel_rfl) (fun w' hw' => by have y0 := hep w'; go_simp) ?_
            simp only [Act.put, List.setIfInBounds_toArray, List.set_cons_zero, List.set_cons_succ]
            refine boxI_op (.bool false) (by kernel_rfl) (fun w' hw' => by go_simp) ?_
            simp only [Act.put, List.setIfInBounds_toArray, List.set_cons_zero, List.set_cons_succ]
            refine boxI_skip (by kernel_rfl) ?_
            simp only [Act.put, List.setIfInBounds_toArray, List.set_cons_zero, List.set_cons_succ]
            refine boxI_skip (by kernel_rfl) ?_
            simp only [Act.put, List.setIfInBounds_toArray, List.set_cons_zero, List.set_cons_succ]
            refine boxI_skip (by kernel_rfl) ?_
            simp only [Act.put, List.setIfInBounds_toArray, List.set_cons_zero, List.set_cons_succ]
            refine boxI_op (.bool false) (by kernel_rfl) (fun w' hw' => by go_simp) ?_
            simp only [Act.put, List.setIfInBounds_toArray, List.set_cons_zero, List.set_cons_succ]
            refine boxI_op (.bool false) (by kernel_rfl) (fun w' hw' => by go_simp) ?_
            simp only [Act.put, List.setIfInBounds_toArray, List.set_cons_zero, List.set_cons_succ]
            refine boxI_op (.bool false) (by kernel_rfl) (fun w' hw' => by go_simp) ?_
            simp only [Act.put, List.setIfInBounds_toArray, List.set_cons_zero, List.set_cons_succ]
            refine boxI_op (.bool false) (by kernel_rfl) (fun w' hw' => by go_simp) ?_
            simp only [Act.put, List.setIfInBounds_toArray, List.set_cons_zero, List.set_cons_succ]
            refine boxI_end ?_
            rintro W7 hk7
            gi_wp2_with fail
            exact ⟨Kept0.to (HK46.out.trans hk7), HI6.out.trans hk7⟩
          · have hq2 : ¬ q = idx C ar ac := fun e => hp (HQ.out.2 e)
            have e1 : pF q = F' q := by rw [hon]; simp [upd, hq2]
            rw [e1] at hz
            have hep : ∀ w', (Op.equalIn 10000 26 (.agg #[.int .i64 (rowOf C q : Int), .int .i64 (colOf C q : Int)]) (.agg #[.int .i64 ar, .int .i64 ac])).run Try.prog w' = .ok false w' := fun w' => by rw [eq_pos]; simp [hp]
            clear hon hp hq2 e1 HQ HON
            generalize F' q = x at *
            obtain ⟨z0, z1, z2, z3⟩ := hz.out
            obtain ⟨x0, x1, x2, x3⟩ := HXa.out
            obtain ⟨c0, c1⟩ := HCa.out
            obtain ⟨t0, t1, _, _⟩ := H23b.out
            obtain ⟨n0, _⟩ := H26b.out
            refine wpIn_boxed (fun w' => Kept0 W6 w') ((Kept.refl _ W6).drewN 1) (by kernel_rfl) (by kernel_rfl) (by kernel_rfl) (fun ⟨_, _, h⟩ => h) ?_
            refine boxI_op (.int .i64 0) (by kernel_rfl) (fun w' hw' => by go_simp) ?_
            simp only [Act.put, List.setIfInBounds_toArray, List.set_cons_zero, List.set_cons_succ]
            refine boxI_op (.bool false) (by kernel_rfl) (fun w' hw' => by go_simp) ?_
            simp only [Act.put, List.setIfInBounds_toArray, List.set_cons_zero, List.set_cons_succ]
            refine boxI_op (.bool false) (by kernel_rfl) (fun w' hw' => by go_simp) ?_
            simp only [Act.put, List.setIfInBounds_toArray, List.set_cons_zero, List.set_cons_succ]
            refine boxI_op (.int .i64 0) (by kernel_rfl) (fun w' hw' => by have y0 := kcell hw' n0; go_simp) ?_
            simp only [Act.put, List.setIfInBounds_toArray, List.set_cons_zero, List.set_cons_succ]
            refine boxI_op (.bool true) (by kernel_rfl) (fun w' hw' => by go_simp) ?_
            simp only [Act.put, List.setIfInBounds_toArray, List.set_cons_zero, List.set_cons_succ]
            refine boxI_op (.bool true) (by kernel_rfl) (fun w' hw' => by go_simp) ?_
            simp only [Act.put, List.setIfInBounds_toArray, List.set_cons_zero, List.set_cons_succ]
            refine boxI_op (.agg #[.int .i64 (rowOf C q : Int), .int .i64 (colOf C q : Int)]) (by kernel_rfl) (fun w' hw' => by have y0 := kcell hw' c0; have y1 := kcell hw' c1; go_simp) ?_
            simp only [Act.put, List.setIfInBounds_toArray, List.set_cons_zero, List.set_cons_succ]
            refine boxI_op (.agg #[.int .i64 ar, .int .i64 ac]) (by kernel_rfl) (fun w' hw' => by have y0 := kcell hw' t0; have y1 := kcell hw' t1; go_simp) ?_
            simp only [Act.put, List.setIfInBounds_toArray, List.set_cons_zero, List.set_cons_succ]
            refine boxI_op (.bool false) (by kernel_rfl) (fun w' hw' => by have y0 := hep w'; go_simp) ?_
            simp only [Act.put, List.setIfInBounds_toArray, List.set_cons_zero, List.set_cons_succ]
            refine boxI_op (.bool false) (by kernel_rfl) (fun w' hw' => by go_simp) ?_
            simp only [Act.put, List.setIfInBounds_toArray, List.set_cons_zero, List.set_cons_succ]
            refine boxI_skip (by kernel_rfl) ?_
            simp only [Act.put, List.setIfInBounds_toArray, List.set_cons_zero, List.set_cons_succ]
            refine boxI_skip (by kernel_rfl) ?_
            simp only [Act.put, List.setIfInBounds_toArray, List.set_cons_zero, List.set_cons_succ]
            refine boxI_skip (by kernel_rfl) ?_
            simp only [Act.put, List.setIfInBounds_toArray, List.set_cons_zero, List.set_cons_succ]
            refine boxI_skip (by kernel_rfl) ?_
            simp only [Act.put, List.setIfInBounds_toArray, List.set_cons_zero, List.set_cons_succ]
            refine boxI_skip (by kernel_rfl) ?_
            simp only [Act.put, List.setIfInBounds_toArray, List.set_cons_zero, List.set_cons_succ]
            refine boxI_skip (by kernel_rfl) ?_
            simp only [Act.put, List.setIfInBounds_toArray, List.set_cons_zero, List.set_cons_succ]
            refine boxI_skip (by kernel_rfl) ?_
            simp only [Act.put, List.setIfInBounds_toArray, List.set_cons_zero, List.set_cons_succ]
            refine boxI_op (.bool false) (by kernel_rfl) (fun w' hw' => by go_simp) ?_
            simp only [Act.put, List.setIfInBounds_toArray, List.set_cons_zero, List.set_cons_succ]
            refine boxI_op (.bool false) (by kernel_rfl) (fun w' hw' => by go_simp) ?_
            simp only [Act.put, List.setIfInBounds_toArray, List.set_cons_zero, List.set_cons_succ]
            refine boxI_op (.agg #[.int .i64 (rowOf C q : Int), .int .i64 (colOf C q : Int)]) (by kernel_rfl) (fun w' hw' => by have y0 := kcell hw' c0; have y1 := kcell hw' c1; go_simp) ?_
            simp only [Act.put, List.setIfInBounds_toArray, List.set_cons_zero, List.set_cons_succ]
            refine boxI_op (.agg #[.int .i64 ar, .int .i64 ac]) (by kernel_rfl) (fun w' hw' => by have y0 := kcell hw' t0; have y1 := kcell hw' t1; go_simp) ?_
            simp only [Act.put, List.setIfInBounds_toArray, List.set_cons_zero, List.set_cons_succ]
            refine boxI_op (.bool true) (by kernel_rfl) (fun w' hw' => by have y0 := hep w'; go_simp) ?_
            simp only [Act.put, List.setIfInBounds_toArray, List.set_cons_zero, List.set_cons_succ]
            refine boxI_op (.bool true) (by kernel_rfl) (fun w' hw' => by go_simp) ?_
            simp only [Act.put, List.setIfInBounds_toArray, List.set_cons_zero, List.set_cons_succ]
            refine boxI_op (x.v) (by kernel_rfl) (fun w' hw' => by have y0 := kcell hw' z0; have y1 := kcell hw' z1; have y2 := kcell hw' z2; have y3 := kcell hw' z3; go_simp) ?_
            simp only [Act.put, List.setIfInBounds_toArray, List.set_cons_zero, List.set_cons_succ]
            refine boxI_op (x.v) (by kernel_rfl) (fun w' hw' => by have y0 := kcell hw' x0; have y1 := kcell hw' x1; have y2 := kcell hw' x2; have y3 := kcell hw' x3; go_simp) ?_
            simp only [Act.put, List.setIfInBounds_toArray, List.set_cons_zero, List.set_cons_succ]
            refine boxI_op (.bool false) (by kernel_rfl) (fun w' hw' => by have y0 := same_cel x w'; go_simp) ?_
            simp only [Act.put, List.setIfInBounds_toArray, List.set_cons_zero, List.set_cons_succ]
            refine boxI_op (.bool false) (by kernel_rfl) (fun w' hw' => by go_simp) ?_
            simp only [Act.put, List.setIfInBounds_toArray, List.set_cons_zero, List.set_cons_succ]
            refine boxI_op (.bool false) (by kernel_rfl) (fun w' hw' => by go_simp) ?_
            simp only [Act.put, List.setIfInBounds_toArray, List.set_cons_zero, List.set_cons_succ]
            refine boxI_op (.bool false) (by kernel_rfl) (fun w' hw' => by go_simp) ?_
            simp only [Act.put, List.setIfInBounds_toArray, List.set_cons_zero, List.set_cons_succ]
            refine boxI_op (.bool false) (by kernel_rfl) (fun w' hw' => by go_simp) ?_
            simp only [Act.put, List.setIfInBounds_toArray, List.set_cons_zero, List.set_cons_succ]
            refine boxI_end ?_
            rintro W7 hk7
            gi_wp2_with fail
            exact ⟨Kept0.to (HK46.out.trans hk7), HI6.out.trans hk7⟩
        · clear HQ HON
          obtain ⟨n0, _⟩ := H26b.out
          refine wpIn_boxed (fun w' => Kept0 W6 w') ((Kept.refl _ W6).drewN 1) (by kernel_rfl) (by kernel_rfl) (by kernel_rfl) (fun ⟨_, _, h⟩ => h) ?_
          refine boxI_op (.int .i64 0) (by kernel_rfl) (fun w' hw' => by go_simp) ?_
          simp only [Act.put, List.setIfInBounds_toArray, List.set_cons_zero, List.set_cons_succ]
          refine boxI_op (.bool false) (by kernel_rfl) (fun w' hw' => by go_simp) ?_
          simp only [Act.put, List.setIfInBounds_toArray, List.set_cons_zero, List.set_cons_succ]
          refine boxI_op (.bool false) (by kernel_rfl) (fun w' hw' => by go_simp) ?_
          simp only [Act.put, List.setIfInBounds_toArray, List.set_cons_zero, List.set_cons_succ]
          refine boxI_op (.int .i64 pn) (by kernel_rfl) (fun w' hw' => by have y0 := kcell hw' n0; go_simp) ?_
          simp only [Act.put, List.setIfInBounds_toArray, List.set_cons_zero, List.set_cons_succ]
          refine boxI_op (.bool false) (by kernel_rfl) (fun w' hw' => by go_simp) ?_
          simp only [Act.put, List.setIfInBounds_toArray, List.set_cons_zero, List.set_cons_succ]
          refine boxI_op (.bool false) (by kernel_rfl) (fun w' hw' => by go_simp) ?_
          simp only [Act.put, List.setIfInBounds_toArray, List.set_cons_zero, List.set_cons_succ]
          refine boxI_skip (by kernel_rfl) ?_
          simp only [Act.put, List.setIfInBounds_toArray, List.set_cons_zero, List.set_cons_succ]
          refine boxI_skip (by kernel_rfl) ?_
          simp only [Act.put, List.setIfInBounds_toArray, List.set_cons_zero, List.set_cons_succ]
          refine boxI_skip (by kernel_rfl) ?_
          simp only [Act.put, List.setIfInBounds_toArray, List.set_cons_zero, List.set_cons_succ]
          refine boxI_skip (by kernel_rfl) ?_
          simp only [Act.put, List.setIfInBounds_toArray, List.set_cons_zero, List.set_cons_succ]
          refine boxI_skip (by kernel_rfl) ?_
          simp only [Act.put, List.setIfInBounds_toArray, List.set_cons_zero, List.set_cons_succ]
          refine boxI_skip (by kernel_rfl) ?_
          simp only [Act.put, List.setIfInBounds_toArray, List.set_cons_zero, List.set_cons_succ]
          refine boxI_skip (by kernel_rfl) ?_
          simp only [Act.put, List.setIfInBounds_toArray, List.set_cons_zero, List.set_cons_succ]
          refine boxI_skip (by kernel_rfl) ?_
          simp only [Act.put, List.setIfInBounds_toArray, List.set_cons_zero, List.set_cons_succ]
          refine boxI_skip (by kernel_rfl) ?_
          simp only [Act.put, List.setIfInBounds_toArray, List.set_cons_zero, List.set_cons_succ]
          refine boxI_skip (by kernel_rfl) ?_
          simp only [Act.put, List.setIfInBounds_toArray, List.set_cons_zero, List.set_cons_succ]
          refine boxI_skip (by kernel_rfl) ?_
          simp only [Act.put, List.setIfInBounds_toArray, List.set_cons_zero, List.set_cons_succ]
          refine boxI_skip (by kernel_rfl) ?_
          simp only [Act.put, List.setIfInBounds_toArray, List.set_cons_zero, List.set_cons_succ]
          refine boxI_skip (by kernel_rfl) ?_
          simp only [Act.put, List.setIfInBounds_toArray, List.set_cons_zero, List.set_cons_succ]
          refine boxI_skip (by kernel_rfl) ?_
          simp only [Act.put, List.setIfInBounds_toArray, List.set_cons_zero, List.set_cons_succ]
          refine boxI_skip (by kernel_rfl) ?_
          simp only [Act.put, List.setIfInBounds_toArray, List.set_cons_zero, List.set_cons_succ]
          refine boxI_skip (by kernel_rfl) ?_
          simp only [Act.put, List.setIfInBounds_toArray, List.set_cons_zero, List.set_cons_succ]
          refine boxI_skip (by kernel_rfl) ?_
          simp only [Act.put, List.setIfInBounds_toArray, List.set_cons_zero, List.set_cons_succ]
          refine boxI_skip (by kernel_rfl) ?_
          simp only [Act.put, List.setIfInBounds_toArray, List.set_cons_zero, List.set_cons_succ]
          refine boxI_skip (by kernel_rfl) ?_
          simp only [Act.put, List.setIfInBounds_toArray, List.set_cons_zero, List.set_cons_succ]
          refine boxI_skip (by kernel_rfl) ?_
          simp only [Act.put, List.setIfInBounds_toArray, List.set_cons_zero, List.set_cons_succ]
          refine boxI_skip (by kernel_rfl) ?_
          simp only [Act.put, List.setIfInBounds_toArray, List.set_cons_zero, List.set_cons_succ]
          refine boxI_skip (by kernel_rfl) ?_
          simp only [Act.put, List.setIfInBounds_toArray, List.set_cons_zero, List.set_cons_succ]
          refine boxI_op (.bool false) (by kernel_rfl) (fun w' hw' => by go_simp) ?_
          simp only [Act.put, List.setIfInBounds_toArray, List.set_cons_zero, List.set_cons_succ]
          refine boxI_op (.bool false) (by kernel_rfl) (fun w' hw' => by go_simp) ?_
          simp only [Act.put, List.setIfInBounds_toArray, List.set_cons_zero, List.set_cons_succ]
          refine boxI_end ?_
          rintro W7 hk7
          gi_wp2_with fail
          exact ⟨Kept0.to (HK46.out.trans hk7), HI6.out.trans hk7⟩
      · intro Dk W hD hIW hDc
        have l8w : b8 < w8.heap.size := HP8.out.at8.lt
        have HC9 : Hid (Coll (b8 + 1) (Dk :: Ds) W) :=
          Coll.more HC8.out (HC8.out.kept0 hIW) (by omega) (by omega) hDc
        have HP9 := Lib.hid (HP8.out.keep hIW)
        have H25b := Lib.hid (H25a.out.kept0 hIW)
        have l25 := H25b.out.lt
        have l8 := HP9.out.at8.lt
        have l9 := HP9.out.cnt.lt
        have lo9 := HP9.out.o
        obtain ⟨t0, t1, t2, t3, t4, t5⟩ := H25b.out
        obtain ⟨z0, z1, z2, z3, z4, z5⟩ := HP9.out.at8
        obtain ⟨n0, n1⟩ := HP9.out.cnt
        have nb1 : ¬ b25 = b8 := by omega
        have nb2 : ¬ b8 = b25 := by omega
        have nb3 : ¬ b9 = b8 := by omega
        have nb4 : ¬ b8 = b9 := by omega
        have e9 : IntKind.i64.wrap ((j : Int) + 1) = (j : Int) + 1 := IntWalk.i64_in _ ⟨by omega, by omega⟩
        clear HP8 HC8 HH8 H25a H26a H23a HON HNN HTH HUPB hDc
        go_wp2_with fail
        obtain ⟨U, hU⟩ : ∃ U, U = ((W.setCell ⟨b8, 0, none⟩ (.int .i64 pr)).setCell ⟨b8, 1, none⟩ (.int .i64 pc)).setCell ⟨b8, 2, none⟩ (.bool pp) := ⟨_, rfl⟩
        have k7 : Kept (· = b8) W U := by rw [hU]; exact ((Kept.set1 W b8 0 _).trans (Kept.set1 _ b8 1 _)).trans (Kept.set1 _ b8 2 _)
        have h7 : Three U b8 pr pc pp := by rw [hU]; exact HP9.out.at8.set pr pc pp
        have hUs : U.heap.size = W.heap.size := by rw [hU]; simp
        have hN : NumA (U.alloc (.cells #[.int .i64 ((j : Int) + 1)] 3)) W.heap.size ((j + 1 : Nat) : Int) := by rw [← hUs]; exact NumA.new U _
        have kA : Kept (· = W.heap.size) U (U.alloc (.cells #[.int .i64 ((j : Int) + 1)] 3)) := (Kept.refl _ U).alloc _
        have HPe := Lib.hid ((HP9.out.on8 k7 h7).on9 kA (by omega) hN)
        have HCe := Lib.hid ((HC9.out.kept' k7 (fun D hD e => by have := (HC9.out.all D hD).1; omega)).kept0 ((Kept.refl (fun _ => False) U).alloc (.cells #[.int .i64 ((j : Int) + 1)] 3)))
        rw [← hU]
        refine ⟨⟨j + 1, W.heap.size, pr, pc, pp, pF, Dk :: Ds, by omega, rfl, rfl, rfl, rfl, rfl, rfl, rfl, rfl, HPe, HCe⟩, ?_⟩
        show ((s.size : Int) - cntOf (.pointer (some ⟨W.heap.size, 0, none⟩)) (U.alloc (.cells #[.int .i64 ((j : Int) + 1)] 3))).toNat < ((s.size : Int) - cntOf (.pointer (some ⟨b9, 0, none⟩)) wr).toNat
        rw [cntOf_at hN, HM0.out]
        omega
      · intro D c k W _ _ h
        exact h.elim
    · obtain rfl : j = s.size := by omega
      have d1 : decide ((s.size : Int) < (s.size : Int)) = false := by simp
      obtain ⟨q0, q1, q2, q3, q4⟩ := HP.out.pen
      have hc9 := HP.out.cnt.c
      go_wp2_with fail
      refine (HAW.out _).mono ?_
      rintro e w9 ⟨rfl, hk9⟩
      have hB9 := HP.out.out.kept hk9 (fun e => e)
      have b1 := hB9.c
      have b2 := hB9.f
      have hB4 := (hB9.set true).c
      clear q0 q1 q2 q3 q4 hc9
      go_wp2_with fail
      have l8 : b8 < wr.heap.size := HP.out.at8.lt
      have lo := HP.out.o
      have hk4 : Kept0 w (w9.setCell ⟨bo, 0, none⟩ (.bool true)) := (HP.out.kept.trans hk9).setCell _ (Or.inl (by simp; omega)) _
      have hCo : Coll (b8 + 1) Ds (w9.setCell ⟨bo, 0, none⟩ (.bool true)) := (HCo.out.kept0 hk9).kept (Kept.set1 w9 bo 0 _) (fun D h1 h2 e => by omega)
      refine leaves_marks Ds _ hCo (fun w' k' => ?_)
      have hB5 := kcellS k' hB4 (by omega)
      have lk := hk4.size
      refine ⟨.bool true, by simp [results, Try.results8, go_sem, hB5], rfl, ?_⟩
      exact (Kept0.below hk4).trans (Kept.below k' (B := w.heap.size) (fun j hj => ⟨by omega, by omega⟩))
end Go.Proofs.Ytkdnjkcebfckiaa
