/-
  GridBack returns true: a Resize that is greater, and one back, is as if none had been; a Roll, and one back, leaves all rows that were not pushed out, and fills the others.
-/
import Derived.Test.YtekjjnfbahmjcaaThere
import Derived.Test.YtekjjnfbahmjcaaBegunS
namespace Go.Proofs.Ytekjjnfbahmjcaa
open Go.RowKit

attribute [local go_sem] Oper.semAt_some

set_option maxRecDepth 100000 in
set_option maxHeartbeats 8000000 in
theorem back_calls (a : Option Addr) (cap : Nat) (l : List OpV) (t0 t1 t2 mr mc : Int) (w : World) (h : OpsIn w a l) (hok : OpsOk l) (hn : l.length ≤ 9223372036854775807) :
    Calls Try.prog 6 #[.slice a l.length cap, .agg #[.int .i64 t0, .int .i64 t1, .int .i64 t2], .agg #[.int .i64 mr, .int .i64 mc]] w fun e w' => e = .returned (.bool true) ∧ Below w.heap.size w w' := by
  obtain ⟨n, hnl⟩ : ∃ n, n = l.length := ⟨_, rfl⟩
  rw [← hnl]
  have HN := Lib.hid hnl
  clear hnl
  refine calls_marks Try.func6 rfl ?_
  simp only [Try.ntmps6, List.size_toArray, List.length_cons, List.length_nil, Nat.reduceAdd, Nat.reduceSub, Array.replicate_succ, Array.replicate_zero, List.push_toArray, List.append_toArray, List.nil_append, List.cons_append]
  go_wp2_with fail
  obtain ⟨w1, hw1⟩ : ∃ w1, w1 = ((w.alloc (.cells #[.int .i64 t0, .int .i64 t1, .int .i64 t2] 63)).alloc (.cells #[.int .i64 mr, .int .i64 mc] 39)).alloc (.cells #[.bool false] 4) := ⟨_, rfl⟩
  have hk1 : Kept0 w w1 := by rw [hw1]; exact (((Kept.refl _ w).alloc _).alloc _).alloc _
  have hh0 : w1.heap[w.heap.size]? = some (.cells #[.int .i64 t0, .int .i64 t1, .int .i64 t2] 63 (0, 0)) := by
    rw [hw1]; exact (Below.heap_alloc _ _ _ (by simp; omega)).trans ((Below.heap_alloc _ _ _ (by simp)).trans (heap_new w _))
  have hh1 : w1.heap[w.heap.size + 1]? = some (.cells #[.int .i64 mr, .int .i64 mc] 39 (0, 0)) := by
    rw [hw1]; exact (Below.heap_alloc _ _ _ (by simp)).trans (heap_new2 w _ _)
  have hh2 : w1.heap[w.heap.size + 2]? = some (.cells #[.bool false] 4 (0, 0)) := by
    rw [hw1]; exact heap_new3 w _ _ _
  have hs1 : w.heap.size + 3 = w1.heap.size := by rw [hw1]; simp
  rw [← hw1]
  clear hw1
  rw [HN.out]
  refine (few_opt a cap l _ (h.kept hk1) hn).mono ?_
  rw [← HN.out]
  have hB1 := BoolAt.of hh2
  clear hh2
  cases hf : fewB l with
  | false =>
    clear hf
    rintro e w2 ⟨rfl, hk2⟩
    go_wp2_with fail
    refine (awake_any _).mono ?_
    rintro e w3 ⟨rfl, hk3⟩
    have hB3 := (hB1.kept hk2 (fun e => e)).kept hk3 (fun e => e)
    have b1 := hB3.c
    have b2 := hB3.f
    go_wp2_with fail
    have hB4 := (hB3.set true).c
    refine ⟨.bool true, by simp [results, Try.results6, go_sem, hB4], rfl, ?_⟩
    exact Kept0.below (((hk1.trans hk2).trans hk3).setCell _ (Or.inl (by simp; omega)) _)
  | true =>
    rintro e w2 ⟨rfl, hk2⟩
    have hk12 := hk1.trans hk2
    have m0 : w2.cell? ⟨w.heap.size + 1, 0, none⟩ = some (.int .i64 mr) := kcell hk2 (by simp [World.cell?, hh1])
    have m1 : w2.cell? ⟨w.heap.size + 1, 1, none⟩ = some (.int .i64 mc) := kcell hk2 (by simp [World.cell?, hh1])
    have p0 : w2.cell? ⟨w.heap.size, 0, none⟩ = some (.int .i64 t0) := kcell hk2 (by simp [World.cell?, hh0])
    have p1 : w2.cell? ⟨w.heap.size, 1, none⟩ = some (.int .i64 t1) := kcell hk2 (by simp [World.cell?, hh0])
    have p2 : w2.cell? ⟨w.heap.size, 2, none⟩ = some (.int .i64 t2) := kcell hk2 (by simp [World.cell?, hh0])
    have hB2 := hB1.kept hk2 (fun e => e)
    have s2 := hk2.size
    clear hh0 hh1 hB1
    have hcase : (mr < 0) ∨ (0 ≤ mr ∧ 9 < mr) ∨ (0 ≤ mr ∧ mr ≤ 9 ∧ mc < 0) ∨ (0 ≤ mr ∧ mr ≤ 9 ∧ 0 ≤ mc ∧ 9 < mc) ∨ (0 ≤ mr ∧ mr ≤ 9 ∧ 0 ≤ mc ∧ mc ≤ 9) := by omega
    rcases hcase with i1 | ⟨i1, i2⟩ | ⟨i1, i2, i3⟩ | ⟨i1, i2, i3, i4⟩ | ⟨i1, i2, i3, i4⟩
    rotate_left 4
    · go_wp2_with fail
      rw [HN.out]
      refine (begunS_opt a cap l _ (h.kept hk12) hok hf hn).mono ?_
      rw [← HN.out]
      clear h hok hn hf
      rintro e w3 ⟨g, rr, rfl, ⟨tg, tr, R, C, f, ⟨⟨capg, hG⟩, _, _, _, _, _⟩, hg3, htg3, _, _, hR12, hC20⟩, hk3⟩
      have htg3' := hG.row.lt
      have hg3' := hG.lt
      go_wp2_with fail
      obtain ⟨w4, hw4⟩ : ∃ w4, w4 = w3.alloc (.cells #[.pointer (some ⟨g, 0, none⟩)] 28) := ⟨_, rfl⟩
      have q0 : w4.cell? ⟨w3.heap.size, 0, none⟩ = some (.pointer (some ⟨g, 0, none⟩)) := by rw [hw4]; simp [go_sem]
      have hk34 : Kept0 w3 w4 := by rw [hw4]; exact (Kept.refl _ w3).alloc _
      have hs4 : w3.heap.size + 1 = w4.heap.size := by rw [hw4]; simp
      rw [← hw4]
      clear hw4
      replace hG := hG.kept hk34 (fun e => e) (fun e => e)
      refine (copy_any g tg capg R C f _ hG).mono ?_
      rintro e w5 ⟨gc, tc, capc, rfl, hgc, htc, hGc, hk45⟩
      have hgcl := hGc.lt
      have htcl := hGc.row.lt
      have hgc' : w4.heap.size ≤ gc := hgc
      have htc' : w4.heap.size ≤ tc := htc
      replace hG := hG.kept hk45 (fun e => e) (fun e => e)
      have hR1 := hG.R1
      have hC1 := hG.C1
      have s3 := hk3.size
      have s5 := hk45.size
      have hk25 : Kept0 w2 w5 := (hk3.trans hk34).trans hk45
      replace q0 := kcell hk45 q0
      replace m0 := kcell hk25 m0
      replace m1 := kcell hk25 m1
      replace p0 := kcell hk25 p0
      replace p1 := kcell hk25 p1
      replace p2 := kcell hk25 p2
      have hB5 := hB2.kept hk25 (fun e => e)
      have hk05 : Kept0 w w5 := hk12.trans hk25
      clear hk1 hk2 hk12 hk3 hk34 hk45 hk25 hB2 hgc htc
      go_wp2_with fail
      refine (size_any g R C _ hG.c0 hG.c1).mono ?_
      rintro e w6 ⟨rfl, hk6⟩
      replace hG := hG.kept hk6 (fun e => e) (fun e => e)
      replace hGc := hGc.kept hk6 (fun e => e) (fun e => e)
      replace q0 := kcell hk6 q0
      replace m0 := kcell hk6 m0
      replace m1 := kcell hk6 m1
      replace p0 := kcell hk6 p0
      replace p1 := kcell hk6 p1
      replace p2 := kcell hk6 p2
      have hB6 := hB5.kept hk6 (fun e => e)
      have hk06 : Kept0 w w6 := hk05.trans hk6
      have s6 := hk6.size
      clear hk6 hB5 hk05
      have u0 : w3.heap.size < w6.heap.size := by omega
      have u1 : w.heap.size + 1 < w6.heap.size := by omega
      go_wp2_with fail
      obtain ⟨w7, hw7⟩ : ∃ w7, w7 = w6.alloc (.cells #[.int .i64 R, .int .i64 C] 23) := ⟨_, rfl⟩
      have z0 : w7.cell? ⟨w6.heap.size, 0, none⟩ = some (.int .i64 R) := by rw [hw7]; simp [go_sem]
      have z1 : w7.cell? ⟨w6.heap.size, 1, none⟩ = some (.int .i64 C) := by rw [hw7]; simp [go_sem]
      have hk67 : Kept0 w6 w7 := by rw [hw7]; exact (Kept.refl _ w6).alloc _
      have hs7 : w6.heap.size + 1 = w7.heap.size := by rw [hw7]; simp
      rw [← hw7]
      clear hw7
      replace hG := hG.kept hk67 (fun e => e) (fun e => e)
      replace hGc := hGc.kept hk67 (fun e => e) (fun e => e)
      replace q0 := kcell hk67 q0
      replace p0 := kcell hk67 p0
      replace p1 := kcell hk67 p1
      replace p2 := kcell hk67 p2
      have hB7 := hB6.kept hk67 (fun e => e)
      have hk07 : Kept0 w w7 := hk06.trans hk67
      clear hk67 hB6 hk06 m0 m1
      have n3 : ¬ w3.heap.size = g := by omega
      have n6 : ¬ w6.heap.size = g := by omega
      have n0 : ¬ w.heap.size = g := by omega
      refine (resize_yes g tg capg R C f _ _ _ _ hG (by omega)).mono ?_
      rintro e w8 ⟨t8, rfl, ht8, hG8, hk78⟩
      replace q0 := (hk78.cell (World.block_lt_of_cell? w7 _ q0) n3).trans q0
      replace p0 := (hk78.cell (World.block_lt_of_cell? w7 _ p0) n0).trans p0
      replace p1 := (hk78.cell (World.block_lt_of_cell? w7 _ p1) n0).trans p1
      replace p2 := (hk78.cell (World.block_lt_of_cell? w7 _ p2) n0).trans p2
      replace z0 := (hk78.cell (World.block_lt_of_cell? w7 _ z0) n6).trans z0
      replace z1 := (hk78.cell (World.block_lt_of_cell? w7 _ z1) n6).trans z1
      have s8 := hk78.size
      go_wp2_with fail
      refine (resize_yes g t8 _ _ _ _ _ _ _ _ hG8 (by omega)).mono ?_
      rintro e w9 ⟨t9, rfl, ht9, hG9, hk89⟩
      rw [Int.toNat_natCast, Int.toNat_natCast] at hG9
      have hG9' := hG9.congr (of_decide_eq_true (resF_back f R C ((R : Int) + mr).toNat ((C : Int) + mc).toNat 5 6 (by omega) (by omega) hC1))
      have hk79 : Kept (· = g) w7 w9 := hk78.trans hk89
      replace q0 := (hk89.cell (World.block_lt_of_cell? w8 _ q0) n3).trans q0
      replace p0 := (hk89.cell (World.block_lt_of_cell? w8 _ p0) n0).trans p0
      replace p1 := (hk89.cell (World.block_lt_of_cell? w8 _ p1) n0).trans p1
      replace p2 := (hk89.cell (World.block_lt_of_cell? w8 _ p2) n0).trans p2
      replace z0 := (hk89.cell (World.block_lt_of_cell? w8 _ z0) n6).trans z0
      replace z1 := (hk89.cell (World.block_lt_of_cell? w8 _ z1) n6).trans z1
      have s9 := hk89.size
      have ht9' : w8.heap.size ≤ t9 := ht9
      replace hGc := hGc.kept hk79 (by omega) (by omega)
      have hB9 := hB7.kept hk79 (by omega)
      have hk09 : Kept0 w w9 := hk07.later hk79 (fun i hi e => by omega)
      clear hk78 hk89 hk79 hG8 hG9 hG hB7 hk07
      go_wp2_with fail
      refine (sameG_any _ g t9 _ gc tc capc R C f f hG9' hGc).mono ?_
      rw [sameF_refl]
      rintro e w10 ⟨rfl, hk10⟩
      replace q0 := kcell hk10 q0
      replace p0 := kcell hk10 p0
      replace p1 := kcell hk10 p1
      replace p2 := kcell hk10 p2
      replace z0 := kcell hk10 z0
      replace z1 := kcell hk10 z1
      replace hGc := hGc.kept hk10 (fun e => e) (fun e => e)
      have hG10 := hG9'.kept hk10 (fun e => e) (fun e => e)
      have hB10 := hB9.kept hk10 (fun e => e)
      have hk010 : Kept0 w w10 := hk09.trans hk10
      have s10 := hk10.size
      have ht9l := hG10.row.lt
      clear hk10 hG9' hB9 hk09
      have v0 : w3.heap.size < w10.heap.size := by omega
      have v1 : w.heap.size < w10.heap.size := by omega
      have v2 : w6.heap.size < w10.heap.size := by omega
      have v3 : w6.heap.size < w10.heap.size + 1 := by omega
      have v4 : w6.heap.size < w10.heap.size + 1 + 1 := by omega
      have v5 : w3.heap.size < w10.heap.size + 1 := by omega
      have v6 : w3.heap.size < w10.heap.size + 1 + 1 := by omega
      obtain ⟨w11, hw11⟩ : ∃ w11, w11 = ((w10.alloc (.cells #[.int .i64 t0] 3)).alloc (.cells #[.int .i64 t1] 3)).alloc (.cells #[.int .i64 t2] 3) := ⟨_, rfl⟩
      have hk1011 : Kept0 w10 w11 := by rw [hw11]; exact (((Kept.refl _ w10).alloc _).alloc _).alloc _
      have y0 : w11.cell? ⟨w10.heap.size, 0, none⟩ = some (.int .i64 t0) := by rw [hw11]; simp [go_sem]
      have y1 : w11.cell? ⟨w10.heap.size + 1, 0, none⟩ = some (.int .i64 t1) := by rw [hw11]; simp [go_sem]
      have y2 : w11.cell? ⟨w10.heap.size + 1 + 1, 0, none⟩ = some (.int .i64 t2) := by rw [hw11]; simp [go_sem]
      have hs11 : w10.heap.size + 3 = w11.heap.size := by rw [hw11]; simp
      have HW := Lib.hid hw11
      clear hw11
      have hcase2 : (t0 < 0) ∨ (0 ≤ t0 ∧ t1 < t0) ∨ (0 ≤ t0 ∧ t0 ≤ t1 ∧ (R : Int) ≤ t1) ∨ (0 ≤ t0 ∧ t0 ≤ t1 ∧ t1 < R ∧ t2 < -300) ∨ (0 ≤ t0 ∧ t0 ≤ t1 ∧ t1 < R ∧ -300 ≤ t2 ∧ 300 < t2) ∨ (0 ≤ t0 ∧ t0 ≤ t1 ∧ t1 < R ∧ -300 ≤ t2 ∧ t2 ≤ 300) := by omega
      have z0' := kcell hk1011 z0
      have q0' := kcell hk1011 q0
      have zq := And.intro z0' q0'
      rw [HW.out] at zq
      obtain ⟨z0'', q0''⟩ := zq
      rcases hcase2 with j1 | ⟨j1, j2⟩ | ⟨j1, j2, j3⟩ | ⟨j1, j2, j3, j4⟩ | ⟨j1, j2, j3, j4, j5⟩ | ⟨j1, j2, j3, j4, j5⟩
      rotate_left 5
      · go_wp2_with fail
        rw [← HW.out]
        clear z0'' q0'' z0' p0 p1 p2 z0 z1 q0 HW
        have hE0 : rollE R t0 t1 = 0 := by
          have h1 : rowB R t0 = true := decide_eq_true ⟨by omega, by omega⟩
          have h2 : rowB R t1 = true := decide_eq_true ⟨by omega, by omega⟩
          simp [rollE, h1, h2, j2]
        have m3 : ¬ w3.heap.size = t9 := by omega
        have m0 : ¬ w10.heap.size = t9 := by omega
        have m1 : ¬ w10.heap.size + 1 = t9 := by omega
        have m2 : ¬ w10.heap.size + 1 + 1 = t9 := by omega
        refine (roll_u g t9 _ R C f _ _ _ _ _ (hG10.kept hk1011 (fun e => e) (fun e => e))).mono ?_
        rw [hE0]
        rintro e w12 ⟨rfl, hG12, hk12⟩
        replace q0' := (hk12.cell (World.block_lt_of_cell? w11 _ q0') m3).trans q0'
        replace y0 := (hk12.cell (World.block_lt_of_cell? w11 _ y0) m0).trans y0
        replace y1 := (hk12.cell (World.block_lt_of_cell? w11 _ y1) m1).trans y1
        replace y2 := (hk12.cell (World.block_lt_of_cell? w11 _ y2) m2).trans y2
        have s12 := hk12.size
        go_wp2_with fail
        refine (roll_u g t9 _ R C _ _ _ _ _ _ hG12).mono ?_
        rw [hE0]
        rintro e w13 ⟨rfl, hG13, hk13⟩
        replace q0' := (hk13.cell (World.block_lt_of_cell? w12 _ q0') m3).trans q0'
        replace y0 := (hk13.cell (World.block_lt_of_cell? w12 _ y0) m0).trans y0
        replace y1 := (hk13.cell (World.block_lt_of_cell? w12 _ y1) m1).trans y1
        replace y2 := (hk13.cell (World.block_lt_of_cell? w12 _ y2) m2).trans y2
        have s13 := hk13.size
        have hk1113 : Kept (· = t9) w11 w13 := hk12.trans hk13
        have hGc13 := (hGc.kept hk1011 (fun e => e) (fun e => e)).kept hk1113 (by omega) (by omega)
        have hB13 := (hB10.kept hk1011 (fun e => e)).kept hk1113 (by omega)
        have hk013 : Kept0 w w13 := (hk010.trans hk1011).later hk1113 (fun i hi e => by omega)
        clear hk1113 hk12 hk13 hG12 hG10 hGc hB10 hk010 hk1011 m0 m1 m2 m3
        go_wp2_with fail
        refine (all_any _ _).mono ?_
        rintro e w14 ⟨rfl, rfl⟩
        go_wp2_with fail
        obtain ⟨w14, hw14⟩ : ∃ w14, w14 = w13.alloc (.cells #[.pointer (some ⟨gc, 0, none⟩)] 28) := ⟨_, rfl⟩
        have q6 : w14.cell? ⟨w13.heap.size, 0, none⟩ = some (.pointer (some ⟨gc, 0, none⟩)) := by rw [hw14]; simp [go_sem]
        have hk1314 : Kept0 w13 w14 := by rw [hw14]; exact (Kept.refl _ w13).alloc _
        have hs14 : w13.heap.size + 1 = w14.heap.size := by rw [hw14]; simp
        rw [← hw14]
        clear hw14
        replace q0' := kcell hk1314 q0'
        replace y0 := kcell hk1314 y0
        replace y1 := kcell hk1314 y1
        replace y2 := kcell hk1314 y2
        have hG14 := hG13.kept hk1314 (fun e => e) (fun e => e)
        have hGc14 := hGc13.kept hk1314 (fun e => e) (fun e => e)
        have hB14 := hB13.kept hk1314 (fun e => e)
        have hk014 : Kept0 w w14 := hk013.trans hk1314
        clear hk1314 hG13 hGc13 hB13 hk013
        refine wpIn_wide.1 (wp_range (n := 0) (gf := 45) (lb := #[.pointer (some ⟨w13.heap.size, 0, none⟩)]) rfl (enters_of Try.func45 (by kernel_rfl) rfl) (all1_grid w13.heap.size gc tc capc R C f) (fun _ => rfl)
          (fun _ W => Below w14.heap.size w14 W) (fun _ _ _ => False) (fun _ _ _ h k => h.trans k) (fun _ _ _ _ h _ => h)
          (fun _ W h => ⟨kcell (Kept0.ofBelow h) q6, hGc14.kept (Kept0.ofBelow h) (fun e => e) (fun e => e)⟩) (Below.refl _ _) ?_ ?_ ?_)
        · rintro l9 k W hl1 hl2 hk hW
          have hkW : Kept0 w14 W := Kept0.ofBelow hW
          have hsW := hkW.size
          unfold allArgs
          gi_wp2_with fail
          refine ⟨(Kept.refl _ W).alloc _, fun W2 hk2 hb2 => ?_⟩
          have hlW : ¬ W.heap.size = l9 := by omega
          have b0 : W2.cell? ⟨W.heap.size, 0, none⟩ = some (.int .i64 (rowOf C k : Int)) := (hk2.cell (by simp) hlW).trans (by simp [go_sem])
          have b1 : W2.cell? ⟨W.heap.size, 1, none⟩ = some (.int .i64 (colOf C k : Int)) := (hk2.cell (by simp) hlW).trans (by simp [go_sem])
          have hbW : Below w14.heap.size w14 W2 := hW.trans (((Below.refl _ W).alloc (by omega) _).trans hb2)
          have hkW2 : Kept0 w14 W2 := Kept0.ofBelow hbW
          have hth := there_row_col hk hC1
          have hrow : rowOf C k < R := by have := hth.2.1; omega
          have hix : Hid (idx C (rowOf C k : Int) (colOf C k : Int) = k) := idx_row_col C k
          have a0 := kcell hkW2 q0'
          clear hk2 hb2
          gi_wp2_with fail
          refine round_call0 ((at_in g t9 _ R C _ _ _ _ (hG14.kept hkW2 (fun e => e) (fun e => e)) hth).mono ?_)
          rw [hix.out]
          rintro e W3 ⟨rfl, hk3⟩
          replace b0 := kcell hk3 b0
          have hkW3 := hkW2.trans hk3
          have a1 := kcell hkW3 y0
          have a2 := kcell hkW3 y1
          have a3 := kcell hkW3 y2
          have hgood : Hid (Kept (· < w14.heap.size) W2 W3 ∧ Below w14.heap.size w14 W3) := ⟨hk3.to, Kept0.below hkW3⟩
          clear hkW3 hkW2 hk3 a0 b1 q0' y0 y1 y2 q6 hth hG14 hGc14
          obtain ⟨x1, x2, x3⟩ := roll_back f R C k t0 t1 t2 77 88 j1 j2 j3 hC1
          have hout : ((rowOf C k : Int) - t2 < t0) ∨ (t0 ≤ (rowOf C k : Int) - t2 ∧ t1 < (rowOf C k : Int) - t2) ∨ (t0 ≤ (rowOf C k : Int) - t2 ∧ (rowOf C k : Int) - t2 ≤ t1) := by omega
          have hin : ((rowOf C k : Int) < t0) ∨ (t0 ≤ (rowOf C k : Int) ∧ t1 < (rowOf C k : Int)) ∨ (t0 ≤ (rowOf C k : Int) ∧ (rowOf C k : Int) ≤ t1) := by omega
          rcases hin with k1 | ⟨k1, k2⟩ | ⟨k1, k2⟩
          · rw [x1 (by omega)]
            clear x1 x2 x3
            rcases hout with k3 | ⟨k3, k4⟩ | ⟨k3, k4⟩
            all_goals
              gi_wp2_with fail
              exact hgood
          · rw [x1 (by omega)]
            clear x1 x2 x3
            rcases hout with k3 | ⟨k3, k4⟩ | ⟨k3, k4⟩
            all_goals
              gi_wp2_with fail
              exact hgood
          · rcases hout with k3 | ⟨k3, k4⟩ | ⟨k3, k4⟩
            · rw [x3 ⟨k1, k2⟩ (by omega)]
              clear x1 x2 x3
              gi_wp2_with fail
              exact hgood
            · rw [x3 ⟨k1, k2⟩ (by omega)]
              clear x1 x2 x3
              gi_wp2_with fail
              exact hgood
            · rw [x2 ⟨k1, k2⟩ ⟨k3, k4⟩]
              clear x1 x2 x3
              gi_wp2_with fail
              exact hgood
        · intro D W hD hW hDc
          have hkW : Kept0 w14 W := Kept0.ofBelow hW
          have hBW := hB14.kept hkW (fun e => e)
          have hk0W := hk014.trans hkW
          have HD := Lib.hid hDc
          clear q0' y0 y1 y2 q6 hGc14 hG14 hDc hW
          go_wp2_with fail
          refine (awake_any _).mono ?_
          rintro e W3 ⟨rfl, hk3⟩
          have hB3 := hBW.kept hk3 (fun e => e)
          have b1 := hB3.c
          have b2 := hB3.f
          have hB4 := (hB3.set true).c
          go_wp2_with fail
          have hk4 : Kept0 w (W3.setCell ⟨w.heap.size + 2, 0, none⟩ (.bool true)) := (hk0W.trans hk3).setCell _ (Or.inl (by simp)) _
          have hDl : D < W.heap.size := (Array.getElem?_eq_some_iff.1 HD.out).1
          have hD4 : (W3.setCell ⟨w.heap.size + 2, 0, none⟩ (.bool true)).heap[D]? = some (.deferred (some [])) :=
            (Below.heap_setCell _ _ _ _ (by simp; omega)).trans ((hk3.block D hDl (fun e => e)).trans HD.out)
          refine ⟨by simp, .inl ⟨_, _, rfl, run_takeDeferred hD4, ?_⟩⟩
          have hB5 : ((W3.setCell ⟨w.heap.size + 2, 0, none⟩ (.bool true)).putObj D (.deferred none)).cell? ⟨w.heap.size + 2, 0, none⟩ = some (.bool true) :=
            (World.cell?_of_block (World.putObj_heap_other (by simp; omega))).trans hB4
          refine ⟨.bool true, by simp [results, Try.results6, go_sem, hB5], rfl, ?_⟩
          exact (Kept0.below hk4).trans (below_putObj _ (by omega))
        · intro D c k W _ _ h
          exact h.elim
      all_goals
        go_wp2_with fail
        rw [← HW.out]
        refine (awake_any _).mono ?_
        rintro e W3 ⟨rfl, hk3⟩
        have hB3 := (hB10.kept hk1011 (fun e => e)).kept hk3 (fun e => e)
        have b1 := hB3.c
        have b2 := hB3.f
        go_wp2_with fail
        have hB4 := (hB3.set true).c
        refine ⟨.bool true, by simp [results, Try.results6, go_sem, hB4], rfl, ?_⟩
        exact Kept0.below (((hk010.trans hk1011).trans hk3).setCell _ (Or.inl (by simp; omega)) _)
    all_goals
      clear hf
      go_wp2_with fail
      refine (awake_any _).mono ?_
      rintro e w3 ⟨rfl, hk3⟩
      have hB3 := hB2.kept hk3 (fun e => e)
      have b1 := hB3.c
      have b2 := hB3.f
      go_wp2_with fail
      have hB4 := (hB3.set true).c
      refine ⟨.bool true, by simp [results, Try.results6, go_sem, hB4], rfl, ?_⟩
      exact Kept0.below ((hk12.trans hk3).setCell _ (Or.inl (by simp; omega)) _)
end Go.Proofs.Ytekjjnfbahmjcaa
