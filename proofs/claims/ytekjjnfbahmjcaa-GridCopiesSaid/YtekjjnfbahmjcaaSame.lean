/-
  What Same does: a grid and the answer of the document that have the same things are the same.
-/
import Derived.Test.YtekjjnfbahmjcaaBegun
import Derived.Test.YtekjjnfbahmjcaaQuietR
import Derived.Test.YtekjjnfbahmjcaaTruth
namespace Go.Proofs.Ytekjjnfbahmjcaa
open Go.RowKit

attribute [local go_sem] Oper.semAt_some

set_option maxHeartbeats 400000 in
theorem getRq (g t cap R C : Nat) (f : Nat → Int) (r c : Int) (w : World) (hg : RefAt w g t cap R C f) (h : There R C r c) :
    Calls Try.prog 34 #[.pointer (some ⟨g, 0, none⟩), .int .i64 r, .int .i64 c] w fun e w' => e = .returned (.int .i64 (f (idx C r c))) ∧ ∃ m, w' = w.drewN m := by
  have hl := idx_lt h
  have hRC : R * C ≤ 65025 := Nat.mul_le_mul hg.R2 hg.C2
  have hR2 := hg.R2
  have hC2 := hg.C2
  obtain ⟨N, hN⟩ : ∃ N, N = R * C := ⟨_, rfl⟩
  obtain ⟨h1, h2, h3, h4⟩ := h
  have hw1 := wrap_idx (R := R) (C := C) (r := r) (c := c) ⟨h1, h2, h3, h4⟩ hR2 hC2
  have c1 := hg.c1
  have c2 := hg.c2
  have hx := hg.row.cell hl
  rw [← hN] at hl hRC c2
  clear hN
  go_enter Try.func34, Try.ntmps34
  go_wp2
  go_quiet (fail)
  go_wp2
  go_ret
  exact ⟨rfl, _, rfl⟩

theorem RefAt.drewN {w : World} {g t cap R C : Nat} {f : Nat → Int} (h : RefAt w g t cap R C f) (n : Nat) : RefAt (w.drewN n) g t cap R C f :=
  h.kept ((Kept.refl (fun _ => False) w).drewN n) (fun e => e) (fun e => e)

/-- A cell that holds a number. -/
structure NumAt (w : World) (b : Nat) (v : Int) : Prop where
  c : w.cell? ⟨b, 0, none⟩ = some (.int .i64 v)
  f : w.frozen? ⟨b, 0, none⟩ = false
theorem NumAt.lt {w : World} {b : Nat} {v : Int} (h : NumAt w b v) : b < w.heap.size := World.block_lt_of_cell? w _ h.c
theorem NumAt.kept {w w' : World} {b : Nat} {v : Int} (h : NumAt w b v) {S : Nat → Prop} (k : Kept S w w') (hs : ¬ S b) : NumAt w' b v :=
  ⟨(k.cell h.lt hs).trans h.c, (k.frozen h.lt hs).trans h.f⟩
theorem NumAt.below {w w' : World} {b B : Nat} {v : Int} (h : NumAt w b v) (k : Below B w w') (hs : b < B) : NumAt w' b v :=
  ⟨(k.cell (p := ⟨b, 0, none⟩) hs).trans h.c, (k.frozen (p := ⟨b, 0, none⟩) hs).trans h.f⟩
theorem NumAt.set {w : World} {b : Nat} {v : Int} (h : NumAt w b v) (v' : Int) : NumAt (w.setCell ⟨b, 0, none⟩ (.int .i64 v')) b v' :=
  ⟨by simp [go_sem, h.c], by simp [go_sem, h.f]⟩

set_option maxRecDepth 100000 in
set_option maxHeartbeats 4000000 in
theorem same_any (w : World) (g tg r tr R C : Nat) (f : Nat → Int) (hp : Pair w g tg r tr R C f) :
    Calls Try.prog 16 #[.pointer (some ⟨g, 0, none⟩), .pointer (some ⟨r, 0, none⟩)] w fun e w' => e = .returned (.bool true) ∧ Kept0 w w' := by
  obtain ⟨⟨capg, hG⟩, ⟨capr, hR⟩, n1, n2, n3, n4⟩ := hp
  have hgl := hG.lt
  have hrl := hR.lt
  have htgl := hG.row.lt
  have htrl := hR.row.lt
  have hR2 := hG.R2
  have hC1 := hG.C1
  have hC2 := hG.C2
  refine calls_marks Try.func16 rfl ?_
  simp only [Try.ntmps16, List.size_toArray, List.length_cons, List.length_nil, Nat.reduceAdd, Nat.reduceSub, Array.replicate_succ, Array.replicate_zero, List.push_toArray, List.append_toArray, List.nil_append, List.cons_append]
  go_wp2_with fail
  obtain ⟨w1, hw1⟩ : ∃ w1, w1 = (w.alloc (.cells #[.pointer (some ⟨r, 0, none⟩)] 33)).alloc (.cells #[.bool false] 4) := ⟨_, rfl⟩
  have hk1 : Kept0 w w1 := by rw [hw1]; exact ((Kept.refl _ w).alloc _).alloc _
  have hrb : w1.cell? ⟨w.heap.size, 0, none⟩ = some (.pointer (some ⟨r, 0, none⟩)) := by rw [hw1]; simp [go_sem]
  have hB1 : BoolAt w1 (w.heap.size + 1) false := by rw [hw1]; exact BoolAt.of (heap_new2 w _ _)
  have hs1 : w.heap.size + 2 = w1.heap.size := by rw [hw1]; simp
  rw [← hw1]
  clear hw1
  refine (size_any g R C _ (kcell hk1 hG.c0) (kcell hk1 hG.c1)).mono ?_
  rintro e w2 ⟨rfl, hk2⟩
  go_wp2_with fail
  have hsb0 : (w2.alloc (.cells #[.int .i64 R, .int .i64 C] 23)).cell? ⟨w2.heap.size, 0, none⟩ = some (.int .i64 R) := by simp [go_sem]
  have hsb1 : (w2.alloc (.cells #[.int .i64 R, .int .i64 C] 23)).cell? ⟨w2.heap.size, 1, none⟩ = some (.int .i64 C) := by simp [go_sem]
  have hk3 : Kept0 w2 (w2.alloc (.cells #[.int .i64 R, .int .i64 C] 23)) := (Kept.refl _ w2).alloc _
  obtain ⟨w3, hw3⟩ : ∃ w3, w3 = w2.alloc (.cells #[.int .i64 R, .int .i64 C] 23) := ⟨_, rfl⟩
  rw [← hw3] at hsb0 hsb1 hk3 ⊢
  clear hw3
  have k03 : Kept0 w w3 := (hk1.trans hk2).trans hk3
  have k13 : Kept0 w1 w3 := hk2.trans hk3
  refine (rows_any g tg capg R C f _ (hG.kept k03 (fun e => e) (fun e => e))).mono ?_
  rintro e w4 ⟨l, rfl, hl4, hRows, hk4⟩
  have k04 : Kept0 w w4 := k03.trans hk4
  have k14 : Kept0 w1 w4 := k13.trans hk4
  have x0 := kcell hk4 hsb0
  have x1 := kcell hk4 hsb1
  have x2 := kcell k14 hrb
  have hR4 := hR.kept k04 (fun e => e) (fun e => e)
  have r0 := hR4.c0
  have r1 := hR4.c1
  go_wp2_with fail
  go_quiet (fail)
  go_wp2_with fail
  clear r0 r1 x0 x1
  go_loopw [7, 8] (fun s7 s8 wr => ∃ i : Nat, i ≤ R ∧ s7 = .int .i64 i ∧ Kept0 w4 wr) (fun s7 _ _ => R - (intOf s7).toNat)
  case atStart => exact ⟨0, by omega, rfl, (Kept.refl _ w4).drewN _⟩
  case round =>
    obtain ⟨i, hi, rfl, hkr⟩ := hrel
    have y2 := kcell hkr x2
    have hRr := hR4.kept hkr (fun e => e) (fun e => e)
    have r0 := hRr.c0
    have r1 := hRr.c1
    by_cases hlt : i < R
    · obtain ⟨ti, ci, z1, z2, z3, z4⟩ := hRows.len i hlt
      have z1' := kcell hkr z1
      go_wp2_with fail
      go_quiet (fail)
      go_wp2_with fail
      go_loopw [8] (fun s8 wq => ∃ k : Nat, k ≤ C ∧ s8 = .int .i64 k ∧ Kept0 w4 wq) (fun s8 _ => C - (intOf s8).toNat)
      case atStart => exact ⟨0, by omega, rfl, hkr.drewN _⟩
      case round =>
        obtain ⟨k, hk, rfl, hkq⟩ := hrel
        clear y2 hRr r0 r1 z1'
        have y2 := kcell hkq x2
        have hRq := hR4.kept hkq (fun e => e) (fun e => e)
        have r1 := hRq.c1
        have z1' := kcell hkq z1
        by_cases hlt2 : k < C
        · have z4' := (z4.kept hkq (fun e => e)).cell hlt2
          have hfi : f (i * C + k) = f (idx C (i : Int) (k : Int)) := by simp [idx]
          rw [hfi] at z4'
          clear hfi
          go_wp2_with fail
          go_quiet ((go_at_call 34; exact Calls.quiet_of (getRq r tr capr R C f _ _ _ (hRq.drewN _) ⟨by omega, by omega, by omega, by omega⟩)))
          go_wp2_with fail
          go_roundw
          case rel => exact ⟨k + 1, by omega, by go_num, hkq.drewN _⟩
          case measure => simp [intOf]; omega
        · go_wp2_with fail
          go_roundw
          case rel => exact ⟨i + 1, by omega, by go_num, hkq⟩
          case measure => simp [intOf]; omega
    · go_wp2_with fail
      refine (all_any _ _).mono ?_
      rintro e w9 ⟨rfl, rfl⟩
      rw [World.size_alloc]
      go_wp2_with fail
      obtain ⟨w6, hw6⟩ : ∃ w6, w6 = (wr.alloc (.cells #[.int .i64 0] 3)).alloc (.cells #[.pointer (some ⟨g, 0, none⟩)] 28) := ⟨_, rfl⟩
      have hnm : NumAt w6 wr.heap.size 0 := by rw [hw6]; exact ⟨by simp [go_sem], by simp [go_sem]⟩
      have hbx : w6.cell? ⟨wr.heap.size + 1, 0, none⟩ = some (.pointer (some ⟨g, 0, none⟩)) := by rw [hw6]; simp [go_sem]
      have hk6 : Kept0 wr w6 := by rw [hw6]; exact ((Kept.refl _ wr).alloc _).alloc _
      have hs6 : wr.heap.size + 2 = w6.heap.size := by rw [hw6]; simp
      rw [← hw6]
      clear hw6
      have k46 : Kept0 w4 w6 := hkr.trans hk6
      have k06 : Kept0 w w6 := k04.trans k46
      have y6 := kcell k46 x2
      have hR6 := hR4.kept k46 (fun e => e) (fun e => e)
      have hG6 := hG.kept k06 (fun e => e) (fun e => e)
      have hB6 := hB1.kept (k14.trans k46) (fun e => e)
      have hsw := k06.size
      have hswr := (k04.trans hkr).size
      have s12 := (k14.trans hkr).size
      clear y2 hRr r0 r1 hRows hkr hk6 k46
      refine wpIn_wide.1 (wp_range (n := 0) (gf := 45) (lb := #[.pointer (some ⟨wr.heap.size + 1, 0, none⟩)]) rfl (enters_of Try.func45 (by kernel_rfl) rfl) (all1_grid (wr.heap.size + 1) g tg capg R C f) (fun _ => rfl)
        (fun k W => NumAt W wr.heap.size (k : Int) ∧ Kept (· = wr.heap.size) w6 W) (fun _ _ _ => False)
        (fun _ _ _ h b => ⟨h.1.below b (by omega), h.2.thenBelow b (Nat.le_refl _)⟩) (fun _ _ _ _ h _ => h)
        (fun _ W h => ⟨(h.2.cell (by omega) (by omega)).trans hbx, hG6.kept h.2 (by omega) (by omega)⟩)
        ⟨hnm, Kept.refl _ _⟩ ?_ ?_ ?_)
      · rintro l9 k W hl1 hl2 hk ⟨hI1, hI2⟩
        have hsW := hI2.size
        have hRC : R * C ≤ 65025 := Nat.mul_le_mul hR2 hC2
        unfold allArgs
        gi_wp2_with fail
        refine ⟨(Kept.refl _ W).alloc _, fun W2 hk2 hb2 => ?_⟩
        have hlW : ¬ W.heap.size = l9 := by omega
        have b0 : W2.cell? ⟨W.heap.size, 0, none⟩ = some (.int .i64 (rowOf C k : Int)) := (hk2.cell (by simp) hlW).trans (by simp [go_sem])
        have b1 : W2.cell? ⟨W.heap.size, 1, none⟩ = some (.int .i64 (colOf C k : Int)) := (hk2.cell (by simp) hlW).trans (by simp [go_sem])
        have hbW : Below w6.heap.size W W2 := ((Below.refl _ W).alloc (by omega) _).trans hb2
        have hI1' := hI1.below hbW (by omega)
        have hI2' := hI2.thenBelow hbW (Nat.le_refl _)
        have hRW := hR6.kept hI2' (by omega) (by omega)
        have y9 := (hI2'.cell (b := w.heap.size) (o := 0) (by omega) (by omega)).trans y6
        have v0 := hI1'.c
        have v1 := hI1'.f
        have r1 := hRW.c1
        have r2 := hRW.c2
        have r3 := hRW.row.cell hk
        have hth := there_row_col hk hC1
        have hw1 := wrap_idx64 hth hR2 hC2
        rw [idx_row_col] at hw1
        obtain ⟨N, hN⟩ : ∃ N, N = R * C := ⟨_, rfl⟩
        rw [← hN] at r2 hk hRC
        have d1 : decide (N ≤ k) = false := by simp; omega
        have n1' : ¬ wr.heap.size = W.heap.size := by omega
        clear hk2 hb2 hbW hth hN
        gi_wp2_with fail
        refine wpIn_round_quiet (by kernel_rfl) (by kernel_rfl) (by kernel_rfl) (fun ⟨_, _, h⟩ => h) ?_
        repeat (first | go_big_quiet_step (fail) | quiet_step (fail))
        refine wpQuiet_nil ?_
        rintro _ ⟨nq, rfl⟩
        have hfin : Hid (Kept (· < w6.heap.size) W2 ((W2.setCell ⟨wr.heap.size, 0, none⟩ (.int .i64 ((k : Int) + 1))).drewN nq) ∧ NumAt ((W2.setCell ⟨wr.heap.size, 0, none⟩ (.int .i64 ((k : Int) + 1))).drewN nq) wr.heap.size ((k + 1 : Nat) : Int) ∧ Kept (· = wr.heap.size) w6 ((W2.setCell ⟨wr.heap.size, 0, none⟩ (.int .i64 ((k : Int) + 1))).drewN nq)) := by
          have ks := (Kept.set1 W2 wr.heap.size 0 (.int .i64 ((k : Int) + 1))).drewN nq
          have hnn := (hI1'.set ((k : Int) + 1)).kept ((Kept.refl (fun _ => False) _).drewN nq) (fun e => e)
          refine ⟨ks.mono (fun _ _ e => by omega), ?_, hI2'.trans ks⟩
          rw [Int.natCast_add]
          exact hnn
        gi_wp2_with fail
        exact hfin
      · rintro D W hD ⟨hI1, hI2⟩ hDc
        have hRW := hR6.kept hI2 (by omega) (by omega)
        have y9 := (hI2.cell (b := w.heap.size) (o := 0) (by omega) (by omega)).trans y6
        have r2 := hRW.c2
        have v0 := hI1.c
        have hBW := hB6.kept hI2 (by omega)
        have b1 := hBW.c
        have b2 := hBW.f
        have HD := Lib.hid hDc
        obtain ⟨N, hN⟩ : ∃ N, N = R * C := ⟨_, rfl⟩
        rw [← hN] at r2 v0
        have m1 : ¬ wr.heap.size = w.heap.size + 1 := by omega
        have m2 : ¬ w.heap.size + 1 = wr.heap.size := by omega
        have m3 : ¬ r = w.heap.size + 1 := by omega
        have m4 : ¬ w.heap.size + 1 = r := by omega
        clear hDc hN
        go_wp2_with fail
        go_region
        go_wp2_with fail
        have k0W : Kept0 w W := k06.later hI2 (fun i hi e => by omega)
        have hB4 := (hBW.set true).c
        have hk4 : Kept0 w ((W.setCell ⟨w.heap.size + 1, 0, none⟩ (.bool true)).drew) := (k0W.setCell _ (Or.inl (by simp)) _).drew
        have hDl : D < W.heap.size := (Array.getElem?_eq_some_iff.1 HD.out).1
        have hD4 : ((W.setCell ⟨w.heap.size + 1, 0, none⟩ (.bool true)).drew).heap[D]? = some (.deferred (some [])) :=
          (Below.heap_setCell _ _ _ _ (by simp; omega)).trans HD.out
        refine ⟨by simp, .inl ⟨_, _, rfl, run_takeDeferred hD4, ?_⟩⟩
        have hB5 : (((W.setCell ⟨w.heap.size + 1, 0, none⟩ (.bool true)).drew).putObj D (.deferred none)).cell? ⟨w.heap.size + 1, 0, none⟩ = some (.bool true) :=
          (World.cell?_of_block (World.putObj_heap_other (by simp; omega))).trans hB4
        refine ⟨.bool true, by simp [results, Try.results16, go_sem, hB5], rfl, ?_⟩
        exact hk4.thenBelow (below_putObj _ hD) (by omega)
      · intro D c k W _ _ h
        exact h.elim
end Go.Proofs.Ytekjjnfbahmjcaa
