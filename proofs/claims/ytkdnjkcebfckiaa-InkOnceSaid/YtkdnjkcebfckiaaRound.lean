/-
  The iterator that goes by all places, going round.
-/
import Derived.Test.YtkdnjkcebfckiaaBeside
namespace Go.Proofs.Ytkdnjkcebfckiaa
open Go.RowKit

attribute [local go_sem] Oper.semAt_some

theorem row_idx {R C : Nat} {r c : Int} (h : There R C r c) : (rowOf C (idx C r c) : Int) = r ∧ (colOf C (idx C r c) : Int) = c := by
  obtain ⟨h1, h2, h3, h4⟩ := h
  obtain ⟨a, rfl⟩ := Int.eq_ofNat_of_zero_le h1
  obtain ⟨b, rfl⟩ := Int.eq_ofNat_of_zero_le h3
  simp only [idx, rowOf, colOf, Int.toNat_natCast]
  rw [Nat.mul_comm, Nat.mul_add_div (by omega), Nat.mul_add_mod, Nat.div_eq_of_lt (by omega), Nat.mod_eq_of_lt (by omega)]
  simp

theorem row_st {R C : Nat} {r c : Int} (hR : 1 ≤ R) (hC : 1 ≤ C) : (rowOf C (st R C r c) : Int) = nr r R ∧ (colOf C (st R C r c) : Int) = nr c C := row_idx (st_there hR hC)

theorem near_at' (R C : Nat) (r c : Int) (w : World) (h1 : 1 ≤ R) (h2 : R ≤ 255) (h3 : 1 ≤ C) (h4 : C ≤ 255) :
    Calls Try.prog 47 #[pos R C, pos r c] w fun e w' => e = .returned (pos (rowOf C (st R C r c) : Int) (colOf C (st R C r c) : Int)) ∧ Kept0 w w' := by
  have := near_any (R : Int) (C : Int) r c w
  rw [show nearR (R : Int) (C : Int) r = nr r R from if_pos (may_nat h1 h2 h3 h4), show nearC (R : Int) (C : Int) c = nr c C from if_pos (may_nat h1 h2 h3 h4), ← (row_st (r := r) (c := c) h1 h3).1, ← (row_st (r := r) (c := c) h1 h3).2] at this
  exact this

set_option maxHeartbeats 400000 in
theorem round_any (R C r c s : Int) (w : World) : Calls Try.prog 44 #[pos R C, pos r c, .int .i64 s] w fun e w' => e = .returned (.func (.func 58) #[] #[.pointer (some ⟨w.heap.size, 0, none⟩), .pointer (some ⟨w.heap.size + 1, 0, none⟩), .pointer (some ⟨w.heap.size + 1 + 1, 0, none⟩)]) ∧
    w' = ((w.alloc (.cells #[.int .i64 R, .int .i64 C] 73)).alloc (.cells #[.int .i64 r, .int .i64 c] 26)).alloc (.cells #[.int .i64 s] 3) := by
  have hmf : ∀ (fn : Fn) (first cap : Array Value) (w : World), (Instr.makeFunc fn first cap).run Try.prog w = .ok (.func fn first cap) w := fun _ _ _ _ => rfl
  go_enter Try.func44, Try.ntmps44
  go_wp2
  go_ret
  exact ⟨rfl, rfl⟩

/-- What the iterator reads. -/
structure RndG (bS bP bI : Nat) (R C r c s : Int) (W : World) : Prop where
  s0 : W.cell? ⟨bS, 0, none⟩ = some (.int .i64 R)
  s1 : W.cell? ⟨bS, 1, none⟩ = some (.int .i64 C)
  p0 : W.cell? ⟨bP, 0, none⟩ = some (.int .i64 r)
  p1 : W.cell? ⟨bP, 1, none⟩ = some (.int .i64 c)
  i0 : W.cell? ⟨bI, 0, none⟩ = some (.int .i64 s)

/-- What the i-th round is handed. -/
def rndArgs (R C : Nat) (b : Bool) (k i : Nat) : Array Value := #[pos (rowOf C (stp (R * C) b k i) : Int) (colOf C (stp (R * C) b k i) : Int)]

set_option maxHeartbeats 2000000 in
theorem round1 (bS bP bI R C : Nat) (r c : Int) (b : Bool) (h1 : 1 ≤ R) (h2 : R ≤ 255) (h3 : 1 ≤ C) (h4 : C ≤ 255) :
    IterAt Try.prog 58 #[.pointer (some ⟨bS, 0, none⟩), .pointer (some ⟨bP, 0, none⟩), .pointer (some ⟨bI, 0, none⟩)] (rndArgs R C b (st R C r c)) (R * C) (RndG bS bP bI R C r c (sg b)) := by
  intro n l J Jx W hJ hJx hG hY h0
  refine callsIn_wide.2 ?_
  obtain ⟨s0, s1, p0, p1, i0⟩ := hG _ _ h0
  have ls := World.block_lt_of_cell? W _ s0
  have lp := World.block_lt_of_cell? W _ p0
  have li := World.block_lt_of_cell? W _ i0
  have hRC : R * C ≤ 65025 := Nat.mul_le_mul h2 h4
  have e1 : IntKind.i64.wrap ((R : Int) * (C : Int)) = ((R * C : Nat) : Int) := by
    rw [show (R : Int) * (C : Int) = ((R * C : Nat) : Int) by simp]
    exact IntWalk.i64_in _ ⟨by omega, by omega⟩
  have Y := Lib.hid hY
  have HJ := Lib.hid hJ
  have HJx := Lib.hid hJx
  have HG := Lib.hid hG
  have HK : Hid (st R C r c < R * C) := st_lt h1 h3
  have HB : Hid (∀ (k : Nat) (w : World), k < R * C → Calls Try.prog 46 #[pos R C, pos (rowOf C k : Int) (colOf C k : Int), .int .i64 (sg b)] w fun e w' => e = .returned (pos (rowOf C (stp (R * C) b k 1) : Int) (colOf C (stp (R * C) b k 1) : Int)) ∧ Kept0 w w') := fun k w hk => beside_any R C k b w h1 h2 h3 h4 hk
  have HA : Hid (∀ w, Calls Try.prog 47 #[pos R C, pos r c] w fun e w' => e = .returned (pos (rowOf C (st R C r c) : Int) (colOf C (st R C r c) : Int)) ∧ Kept0 w w') := fun w => near_at' R C r c w h1 h2 h3 h4
  obtain ⟨k, hk⟩ : ∃ k, k = st R C r c := ⟨_, rfl⟩
  rw [← hk] at Y HK HA
  obtain ⟨N, hN⟩ : ∃ N, N = R * C := ⟨_, rfl⟩
  unfold rndArgs at Y
  rw [← hN] at e1 hRC HK HB Y ⊢
  clear hY hJ hG hJx hN hk h1 h2 h3 h4
  go_enter Try.func58, Try.ntmps58
  go_wp2_with fail
  refine (HA.out _).mono ?_
  rintro e w1 ⟨rfl, hk1⟩
  replace s0 := kcell hk1 s0
  replace s1 := kcell hk1 s1
  have ls1 : bS < w1.heap.size := World.block_lt_of_cell? w1 _ s0
  have hJ1 : J 0 w1 := HJ.out _ _ _ h0 (Kept0.below hk1)
  have hW1 := hk1.size
  clear hk1 p0 p1 i0
  go_wp2_with fail
  obtain ⟨w2, hw2⟩ : ∃ w2, w2 = w1.alloc (.cells #[.int .i64 (rowOf C k : Int), .int .i64 (colOf C k : Int)] 26) := ⟨_, rfl⟩
  have hT2 : Two w2 w1.heap.size (rowOf C k : Int) (colOf C k : Int) := by rw [hw2]; exact Two.of (heap_new w1 _)
  have hJ2 : J 0 w2 := by rw [hw2]; exact HJ.out _ _ _ hJ1 ((Below.refl _ w1).alloc hW1 _)
  rw [← hw2]
  clear hw2 hJ1 s0 s1 ls1
  go_loopw [14] (fun s14 wr => ∃ i : Nat, i ≤ N ∧ s14 = .int .i64 (i : Int) ∧ Two wr w1.heap.size (rowOf C (stp N b k i) : Int) (colOf C (stp N b k i) : Int) ∧ J i wr) (fun s14 _ => ((N : Int) - intOf s14).toNat)
  case atStart => exact ⟨0, by omega, rfl, by rw [stp_zero HK.out]; exact hT2, hJ2⟩
  case round =>
    clear hT2 hJ2
    obtain ⟨i, hi, rfl, hTr, hJr⟩ := hrel
    by_cases hlt : i < N
    · obtain ⟨fn, tmps, assign, body, hy, hR⟩ := Y.out i wr hlt hJr
      have d1 : decide ((i : Int) < (N : Int)) = true := by simp; omega
      have t0 := hTr.c0
      have t1 := hTr.c1
      go_upto_region 3 with fail
      refine (wpIn_wide (n := 0)).1 ?_
      gi_wp2_with fail
      refine ⟨rfl, RoundIn.mono (roundIn_any hR) ?_⟩
      clear hy hR Y
      rintro e W3 (⟨rfl, hJ3, hk3⟩ | ⟨rfl, hJx3⟩)
      · have hT3 := hTr.kept hk3 (by omega)
        obtain ⟨s0, s1, p0, p1, i0⟩ := HG.out _ _ hJ3
        have t0 := hT3.c0
        have t1 := hT3.c1
        have t2 := hT3.f0
        have t3 := hT3.f1
        clear hTr p0 p1
        gi_wp2_with fail
        go_wp2_with fail
        refine (HB.out _ _ (stp_lt (by omega))).mono ?_
        rw [stp_next HK.out hlt]
        rintro e W4 ⟨rfl, hk4⟩
        have hT4 := hT3.kept0 hk4
        have hJ4 : J (i + 1) W4 := HJ.out _ _ _ hJ3 ((Kept0.below hk4).mono (by have := hk3.size; have := hT3.lt; omega))
        have t0 := hT4.c0
        have t1 := hT4.c1
        have t2 := hT4.f0
        have t3 := hT4.f1
        have e2 : IntKind.i64.wrap ((i : Int) + 1) = ((i + 1 : Nat) : Int) := by rw [IntWalk.i64_in _ ⟨by omega, by omega⟩]; omega
        clear hk4 s0 s1 i0
        go_wp2_with fail
        have hl4 : w1.heap.size < W4.heap.size := hT4.lt
        have hb4 : Below W.heap.size W4 ((W4.setCell ⟨w1.heap.size, 0, none⟩ (.int .i64 (rowOf C (stp N b k (i + 1)) : Int))).setCell ⟨w1.heap.size, 1, none⟩ (.int .i64 (colOf C (stp N b k (i + 1)) : Int))) :=
          Kept.below ((Kept.set1 W4 w1.heap.size 0 _).trans (Kept.set1 _ w1.heap.size 1 _)) (B := W.heap.size) (fun j hj => ⟨by omega, by omega⟩)
        refine ⟨⟨i + 1, by omega, by simp, hT4.set _ _, HJ.out _ _ _ hJ4 hb4⟩, ?_⟩
        simp [intOf]
        omega
      · gi_wp2_with fail
        go_wp2_with fail
        refine bodyPost_ret (results_none rfl _ _ _) rfl ?_
        exact ⟨⟨_, rfl⟩, Or.inr ⟨i, hlt, hJx3⟩⟩
    · obtain rfl : i = N := by omega
      have d1 : decide ((i : Int) < (i : Int)) = false := by simp
      go_wp2_with fail
      go_end0
      exact ⟨⟨_, rfl⟩, Or.inl hJr⟩

set_option maxHeartbeats 2000000 in
/-- Of no grid: no place. -/
theorem round1_nil (bS bP bI : Nat) (r c s : Int) :
    IterAt Try.prog 58 #[.pointer (some ⟨bS, 0, none⟩), .pointer (some ⟨bP, 0, none⟩), .pointer (some ⟨bI, 0, none⟩)] (fun _ => #[pos 0 0]) 0 (RndG bS bP bI 0 0 r c s) := by
  intro n l J Jx W hJ hJx hG hY h0
  refine callsIn_wide.2 ?_
  obtain ⟨s0, s1, p0, p1, i0⟩ := hG _ _ h0
  have ls := World.block_lt_of_cell? W _ s0
  have HJ := Lib.hid hJ
  have hm : ¬ may 0 0 := by unfold may; omega
  have HA : Hid (∀ w, Calls Try.prog 47 #[pos 0 0, pos r c] w fun e w' => e = .returned (pos 0 0) ∧ Kept0 w w') := fun w => by
    have := near_any 0 0 r c w
    rw [show nearR 0 0 r = 0 from if_neg hm, show nearC 0 0 c = 0 from if_neg hm] at this
    exact this
  clear hY hJ hG hJx hm
  go_enter Try.func58, Try.ntmps58
  go_wp2_with fail
  refine (HA.out _).mono ?_
  rintro e w1 ⟨rfl, hk1⟩
  replace s0 := kcell hk1 s0
  replace s1 := kcell hk1 s1
  have ls1 : bS < w1.heap.size := World.block_lt_of_cell? w1 _ s0
  have hJ1 : J 0 w1 := HJ.out _ _ _ h0 (Kept0.below hk1)
  have hW1 := hk1.size
  clear hk1 p0 p1 i0
  go_wp2_with fail
  have hJ2 := HJ.out _ _ _ hJ1 ((Below.refl _ w1).alloc hW1 (.cells #[.int .i64 0, .int .i64 0] 26))
  go_loopw [14] (fun s14 wr => s14 = .int .i64 0 ∧ J 0 wr) (fun _ _ => 0)
  case atStart => exact ⟨rfl, hJ2⟩
  case round =>
    obtain ⟨rfl, hrel⟩ := hrel
    go_wp2_with fail
    go_end0
    exact ⟨⟨_, rfl⟩, Or.inl hrel⟩
end Go.Proofs.Ytkdnjkcebfckiaa
