/-
  Texts merged: Beside Round Seek Free PutF.
-/
import Derived.Test.YtlhajbcabpfbkaaGreatDoorMIt
import Derived.Test.YtlhajbcabpfbkaaGreatDoorMWk
import Derived.Scope
/-
  The place beside one, going round; the places that are gone through.
-/
namespace Go.Proofs.YtlhajbcabpfbkaaGreatDoor
open Go.RowKit

theorem may_nat {R C : Nat} (h1 : 1 ≤ R) (h2 : R ≤ 255) (h3 : 1 ≤ C) (h4 : C ≤ 255) : may (R : Int) (C : Int) := ⟨by omega, by omega, by omega, by omega⟩

theorem row_mul (C k : Nat) : (rowOf C k : Int) * (C : Int) + (colOf C k : Int) = (k : Int) := by
  have := idx_row_col C k
  simp only [idx, Int.toNat_natCast] at this
  exact_mod_cast this

theorem index_at' (R C k : Nat) (w : World) (h1 : 1 ≤ R) (h2 : R ≤ 255) (h3 : 1 ≤ C) (h4 : C ≤ 255) (hk : k < R * C) :
    Calls Tryz.prog 125 #[pos R C, pos (rowOf C k : Int) (colOf C k : Int)] w fun e w' => e = .returned (.tuple #[.int .i64 (k : Int), .int .i64 0]) ∧ Kept0 w w' := by
  have ht := there_row_col hk h3
  have q1 : (nr (rowOf C k : Int) (R : Int) == (rowOf C k : Int)) = true := by rw [nr_in _ _ ht.1 ht.2.1]; simp
  have q2 : (nr (colOf C k : Int) (C : Int) == (colOf C k : Int)) = true := by rw [nr_in _ _ ht.2.2.1 ht.2.2.2]; simp
  have := index_core (R : Int) (C : Int) (rowOf C k : Int) (colOf C k : Int) (may_nat h1 h2 h3 h4) true true q1 q2 w
  rw [row_mul] at this
  exact this

theorem of_at' (R C k : Nat) (w : World) (h1 : 1 ≤ R) (h2 : R ≤ 255) (h3 : 1 ≤ C) (h4 : C ≤ 255) (hk : k < R * C) :
    Calls Tryz.prog 126 #[pos R C, .int .i64 (k : Int)] w fun e w' => e = .returned (.tuple #[pos (rowOf C k : Int) (colOf C k : Int), .int .i64 0]) ∧ Kept0 w w' := by
  have q1 : decide ((k : Int) < 0) = false := by simp
  have q2 : decide ((R : Int) * (C : Int) ≤ (k : Int)) = false := by
    rw [decide_eq_false_iff_not]
    have : ((R * C : Nat) : Int) = (R : Int) * (C : Int) := by simp
    omega
  exact of_core (R : Int) (C : Int) (k : Int) (may_nat h1 h2 h3 h4) false false q1 q2 w

theorem two_newD (w : World) (t : TypeId) : Two (w.alloc (.cells #[.int .i64 0, .int .i64 0] t)).drew w.heap.size 0 0 := (Two.of (heap_new w _)).kept0 (Kept.drew (Kept.refl _ _))

set_option maxHeartbeats 1000000 in
theorem beside_core (R C k k' : Nat) (s : Int) (w : World) (h1 : 1 ≤ R) (h2 : R ≤ 255) (h3 : 1 ≤ C) (h4 : C ≤ 255) (hk : k < R * C) (hk' : k' < R * C)
    (hs : (IntKind.i64.wrap (IntKind.i64.wrap ((k : Int) + s) + ((R * C : Nat) : Int))).tmod ((R * C : Nat) : Int) = (k' : Int)) :
    Calls Tryz.prog 119 #[pos R C, pos (rowOf C k : Int) (colOf C k : Int), .int .i64 s] w fun e w' => e = .returned (pos (rowOf C k' : Int) (colOf C k' : Int)) ∧ Kept0 w w' := by
  have hN : R * C ≤ 65025 := Nat.mul_le_mul h2 h4
  have hA : Hid (∀ w', Calls Tryz.prog 125 #[pos R C, pos (rowOf C k : Int) (colOf C k : Int)] w' fun e w'' => e = .returned (.tuple #[.int .i64 (k : Int), .int .i64 0]) ∧ Kept0 w' w'') := fun w' => index_at' R C k w' h1 h2 h3 h4 hk
  have hB : Hid (∀ w', Calls Tryz.prog 126 #[pos R C, .int .i64 (k' : Int)] w' fun e w'' => e = .returned (.tuple #[pos (rowOf C k' : Int) (colOf C k' : Int), .int .i64 0]) ∧ Kept0 w' w'') := fun w' => of_at' R C k' w' h1 h2 h3 h4 hk'
  have e1 : IntKind.i64.wrap ((R : Int) * (C : Int)) = ((R * C : Nat) : Int) := by
    rw [show (R : Int) * (C : Int) = ((R * C : Nat) : Int) by simp]
    exact IntWalk.i64_in _ ⟨by omega, by omega⟩
  have n0 : ¬ (((R * C : Nat) : Int) = 0) := by omega
  generalize ((R * C : Nat) : Int) = N at *
  generalize (rowOf C k : Int) = r at *
  generalize (colOf C k : Int) = c at *
  generalize (rowOf C k' : Int) = r' at *
  generalize (colOf C k' : Int) = c' at *
  have HS := Lib.hid hs
  clear hs h1 h2 h3 h4 hk hk' hN
  go_enter Tryz.func119, Tryz.ntmps119
  go_wp2_with fail
  refine (hA.out _).mono ?_
  rintro e w1 ⟨rfl, hk1⟩
  have hs : Two w1 w.heap.size R C := (Two.of (heap_old _ _ (heap_old _ _ (heap_new _ _)))).kept0 hk1
  have ho : Two w1 (w.heap.size + 1 + 1) 0 0 := (Two.of (heap_newC _ _ _ _)).kept0 hk1
  have hk : Kept0 w w1 := ((((Kept.refl _ w).alloc _).alloc _).alloc _).trans hk1
  have l1 := hs.lt
  have l2 := ho.lt
  clear hk1
  obtain ⟨s0, s1, s2, s3⟩ := hs
  have n1 : ¬ w.heap.size = w1.heap.size := by omega
  have n2 : ¬ w1.heap.size = w.heap.size := by omega
  go_wp2_with fail
  go_region_held3 (fun w' => w'.cell? ⟨w.heap.size, 0, none⟩ = some (.int .i64 R) ∧ w'.cell? ⟨w.heap.size, 1, none⟩ = some (.int .i64 C)) (go_keep)
    (first
      | (go_at_call 126; rw [HS.out]; refine (hB.out _).mono ?_; rintro e w2 ⟨rfl, hk2⟩; have kz : w1.heap.size ≤ w2.heap.size := Nat.le_trans (by simp) hk2.size; have m1 : ¬ w.heap.size = w2.heap.size := (by omega); have m2 : ¬ w2.heap.size = w.heap.size := (by omega); have z0 : w2.cell? ⟨w.heap.size, 0, none⟩ = some (.int .i64 R) := kcell hk2 (by first | exact s0 | exact kcell (Kept.drew ((Kept.refl _ w1).alloc _)) s0); have z1 : w2.cell? ⟨w.heap.size, 1, none⟩ = some (.int .i64 C) := kcell hk2 (by first | exact s1 | exact kcell (Kept.drew ((Kept.refl _ w1).alloc _)) s1); try (have hn := (two_newD w1 45).kept0 hk2; obtain ⟨a0, a1, a2, a3⟩ := hn)))
  all_goals
    first
      | (obtain ⟨W9, hW9⟩ : ∃ W9, W9 = (w2.setCell ⟨w1.heap.size, 0, none⟩ (.int .i64 r')).setCell ⟨w1.heap.size, 1, none⟩ (.int .i64 c') := ⟨_, rfl⟩
         rw [← hW9]
         have hT : Two W9 w1.heap.size r' c' := by rw [hW9]; exact Two.set ⟨a0, a1, a2, a3⟩ r' c'
         have k9 : Kept0 w1 W9 := by rw [hW9]; exact ((((Kept.refl _ w1).alloc _).drew.trans hk2).setCell _ (Or.inl (Nat.le_refl _)) _).setCell _ (Or.inl (Nat.le_refl _)) _)
      | (obtain ⟨W9, hW9⟩ : ∃ W9, W9 = w2.alloc (.cells #[.int .i64 r', .int .i64 c'] 45) := ⟨_, rfl⟩
         rw [← hW9]
         have hT : Two W9 w2.heap.size r' c' := by rw [hW9]; exact Two.of (heap_new w2 _)
         have k9 : Kept0 w1 W9 := by rw [hW9]; exact (((Kept.refl _ w1).drew.trans hk2).alloc _))
    have hk := hk.trans k9
    have ho := ho.kept0 k9
    have l3 := hT.lt
    have l4 := ho.lt
    obtain ⟨t0, t1, t2, t3⟩ := hT
    obtain ⟨o0, o1, o2, o3⟩ := ho
    clear hW9 k9 z0 z1 hk2 m1 m2 n1 n2 l1 l2 s0 s1 s2 s3
    go_wp2_with fail
    exact bodyPost_ret (v := pos r' c') (by simp [results, Tryz.results119, go_sem, *]) rfl ⟨rfl, (hk.setCell _ (Or.inl (Nat.le_add_right _ 2)) _).setCell _ (Or.inl (Nat.le_add_right _ 2)) _⟩

/-- A step of 1, or of -1. -/
def sg (b : Bool) : Int := if b = true then -1 else 1

theorem beside_any (R C k : Nat) (b : Bool) (w : World) (h1 : 1 ≤ R) (h2 : R ≤ 255) (h3 : 1 ≤ C) (h4 : C ≤ 255) (hk : k < R * C) :
    Calls Tryz.prog 119 #[pos R C, pos (rowOf C k : Int) (colOf C k : Int), .int .i64 (sg b)] w fun e w' => e = .returned (pos (rowOf C (stp (R * C) b k 1) : Int) (colOf C (stp (R * C) b k 1) : Int)) ∧ Kept0 w w' := by
  have hN : R * C ≤ 65025 := Nat.mul_le_mul h2 h4
  refine beside_core R C k (stp (R * C) b k 1) (sg b) w h1 h2 h3 h4 hk (stp_lt (by omega)) ?_
  generalize R * C = N at *
  cases b
  · simp only [sg, stp, Bool.false_eq_true, if_false]
    rw [IntWalk.i64_in ((k : Int) + 1) ⟨by omega, by omega⟩, IntWalk.i64_in _ ⟨by omega, by omega⟩, Int.tmod_eq_emod_of_nonneg (by omega), Int.add_emod_right]
    simp
  · simp only [sg, stp, if_true]
    rw [IntWalk.i64_in ((k : Int) + -1) ⟨by omega, by omega⟩, IntWalk.i64_in _ ⟨by omega, by omega⟩, Int.tmod_eq_emod_of_nonneg (by omega)]
    rw [show (k : Int) + -1 + (N : Int) = ((k + N - 1 : Nat) : Int) by omega]
    simp

end Go.Proofs.YtlhajbcabpfbkaaGreatDoor

/-
  The iterator that goes by all places, going round.
-/
namespace Go.Proofs.YtlhajbcabpfbkaaGreatDoor
open Go.RowKit

attribute [local go_sem] Oper.semAt_some

theorem row_idx {R C : Nat} {r c : Int} (h : There R C r c) : (rowOf C (idx C r c) : Int) = r ∧ (colOf C (idx C r c) : Int) = c := by
  obtain ⟨h1, h2, h3, h4⟩ := h
  obtain ⟨a, rfl⟩ := Int.eq_ofNat_of_zero_le h1
  obtain ⟨b, rfl⟩ := Int.eq_ofNat_of_zero_le h3
  simp only [idx, rowOf, colOf, Int.toNat_natCast]
  rw [Nat.mul_comm, Nat.mul_add_div (by omega), Nat.mul_add_mod, Nat.div_eq_of_lt (by omega), Nat.mod_eq_of_lt (by omega)]
  simp

theorem row_st {R C : Nat} {r c : Int} (hR : 1 ≤ R) (hC : 1 ≤ C) : (rowOf C (st R C r c) : Int) = nr r R ∧ (colOf C (st R C r c) : Int) = nr c C := row_idx (st_there hR hC)

theorem near_at' (R C : Nat) (r c : Int) (w : World) (h1 : 1 ≤ R) (h2 : R ≤ 255) (h3 : 1 ≤ C) (h4 : C ≤ 255) :
    Calls Tryz.prog 38 #[pos R C, pos r c] w fun e w' => e = .returned (pos (rowOf C (st R C r c) : Int) (colOf C (st R C r c) : Int)) ∧ Kept0 w w' := by
  have := near_any (R : Int) (C : Int) r c w
  rw [show nearR (R : Int) (C : Int) r = nr r R from if_pos (may_nat h1 h2 h3 h4), show nearC (R : Int) (C : Int) c = nr c C from if_pos (may_nat h1 h2 h3 h4), ← (row_st (r := r) (c := c) h1 h3).1, ← (row_st (r := r) (c := c) h1 h3).2] at this
  exact this

set_option maxHeartbeats 400000 in
theorem round_any (R C r c s : Int) (w : World) : Calls Tryz.prog 124 #[pos R C, pos r c, .int .i64 s] w fun e w' => e = .returned (.func (.func 127) #[] #[.pointer (some ⟨w.heap.size, 0, none⟩), .pointer (some ⟨w.heap.size + 1, 0, none⟩), .pointer (some ⟨w.heap.size + 1 + 1, 0, none⟩)]) ∧
    w' = ((w.alloc (.cells #[.int .i64 R, .int .i64 C] 23)).alloc (.cells #[.int .i64 r, .int .i64 c] 45)).alloc (.cells #[.int .i64 s] 3) := by
  have hmf : ∀ (fn : Fn) (first cap : Array Value) (w : World), (Instr.makeFunc fn first cap).run Tryz.prog w = .ok (.func fn first cap) w := fun _ _ _ _ => rfl
  go_enter Tryz.func124, Tryz.ntmps124
  go_wp2
  go_ret
  exact ⟨rfl, rfl⟩

/-- What the iterator reads. -/
structure RndG (bS bP bI : Nat) (R C r c s : Int) (W : World) : Prop where
  s0 : W.cell? ⟨bS, 0, none⟩ = some (.int .i64 R)
  s1 : W.cell? ⟨bS, 1, none⟩ = some (.int .i64 C)
  p0 : W.cell? ⟨bP, 0, none⟩ = some (.int .i64 r)
  p1 : W.cell? ⟨bP, 1, none⟩ = some (.int .i64 c)
  i0 : W.cell? ⟨bI, 0, none⟩ = some (.int .i64 s)

/-- What the i-th round is handed. -/
def rndArgs (R C : Nat) (b : Bool) (k i : Nat) : Array Value := #[pos (rowOf C (stp (R * C) b k i) : Int) (colOf C (stp (R * C) b k i) : Int)]

set_option maxHeartbeats 2000000 in
theorem round1 (bS bP bI R C : Nat) (r c : Int) (b : Bool) (h1 : 1 ≤ R) (h2 : R ≤ 255) (h3 : 1 ≤ C) (h4 : C ≤ 255) :
    IterAt Tryz.prog 127 #[.pointer (some ⟨bS, 0, none⟩), .pointer (some ⟨bP, 0, none⟩), .pointer (some ⟨bI, 0, none⟩)] (rndArgs R C b (st R C r c)) (R * C) (RndG bS bP bI R C r c (sg b)) := by
  intro n l J Jx W hJ hJx hG hY h0
  refine callsIn_wide.2 ?_
  obtain ⟨s0, s1, p0, p1, i0⟩ := hG _ _ h0
  have ls := World.block_lt_of_cell? W _ s0
  have lp := World.block_lt_of_cell? W _ p0
  have li := World.block_lt_of_cell? W _ i0
  have hRC : R * C ≤ 65025 := Nat.mul_le_mul h2 h4
  have e1 : IntKind.i64.wrap ((R : Int) * (C : Int)) = ((R * C : Nat) : Int) := by
    rw [show (R : Int) * (C : Int) = ((R * C : Nat) : Int) by simp]
    exact IntWalk.i64_in _ ⟨by omega, by omega⟩
  have Y := Lib.hid hY
  have HJ := Lib.hid hJ
  have HJx := Lib.hid hJx
  have HG := Lib.hid hG
  have HK : Hid (st R C r c < R * C) := st_lt h1 h3
  have HB : Hid (∀ (k : Nat) (w : World), k < R * C → Calls Tryz.prog 119 #[pos R C, pos (rowOf C k : Int) (colOf C k : Int), .int .i64 (sg b)] w fun e w' => e = .returned (pos (rowOf C (stp (R * C) b k 1) : Int) (colOf C (stp (R * C) b k 1) : Int)) ∧ Kept0 w w') := fun k w hk => beside_any R C k b w h1 h2 h3 h4 hk
  have HA : Hid (∀ w, Calls Tryz.prog 38 #[pos R C, pos r c] w fun e w' => e = .returned (pos (rowOf C (st R C r c) : Int) (colOf C (st R C r c) : Int)) ∧ Kept0 w w') := fun w => near_at' R C r c w h1 h2 h3 h4
  obtain ⟨k, hk⟩ : ∃ k, k = st R C r c := ⟨_, rfl⟩
  rw [← hk] at Y HK HA
  obtain ⟨N, hN⟩ : ∃ N, N = R * C := ⟨_, rfl⟩
  unfold rndArgs at Y
  rw [← hN] at e1 hRC HK HB Y ⊢
  clear hY hJ hG hJx hN hk h1 h2 h3 h4
  go_enter Tryz.func127, Tryz.ntmps127
  go_wp2_with fail
  refine (HA.out _).mono ?_
  rintro e w1 ⟨rfl, hk1⟩
  replace s0 := kcell hk1 s0
  replace s1 := kcell hk1 s1
  have ls1 : bS < w1.heap.size := World.block_lt_of_cell? w1 _ s0
  have hJ1 : J 0 w1 := HJ.out _ _ _ h0 (Kept0.below hk1)
  have hW1 := hk1.size
  clear hk1 p0 p1 i0
  go_wp2_with fail
  obtain ⟨w2, hw2⟩ : ∃ w2, w2 = w1.alloc (.cells #[.int .i64 (rowOf C k : Int), .int .i64 (colOf C k : Int)] 45) := ⟨_, rfl⟩
  have hT2 : Two w2 w1.heap.size (rowOf C k : Int) (colOf C k : Int) := by rw [hw2]; exact Two.of (heap_new w1 _)
  have hJ2 : J 0 w2 := by rw [hw2]; exact HJ.out _ _ _ hJ1 ((Below.refl _ w1).alloc hW1 _)
  rw [← hw2]
  clear hw2 hJ1 s0 s1 ls1
  go_loopw [14] (fun s14 wr => ∃ i : Nat, i ≤ N ∧ s14 = .int .i64 (i : Int) ∧ Two wr w1.heap.size (rowOf C (stp N b k i) : Int) (colOf C (stp N b k i) : Int) ∧ J i wr) (fun s14 _ => ((N : Int) - intOf s14).toNat)
  case atStart => exact ⟨0, by omega, rfl, by rw [stp_zero HK.out]; exact hT2, hJ2⟩
  case round =>
    clear hT2 hJ2
    obtain ⟨i, hi, rfl, hTr, hJr⟩ := hrel
    by_cases hlt : i < N
    · obtain ⟨fn, tmps, assign, body, hy, hR⟩ := Y.out i wr hlt hJr
      have d1 : decide ((i : Int) < (N : Int)) = true := by simp; omega
      have t0 := hTr.c0
      have t1 := hTr.c1
      go_upto_region 3 with fail
      refine (wpIn_wide (n := 0)).1 ?_
      gi_wp2_with fail
      refine ⟨rfl, RoundIn.mono (roundIn_any hR) ?_⟩
      clear hy hR Y
      rintro e W3 (⟨rfl, hJ3, hk3⟩ | ⟨rfl, hJx3⟩)
      · have hT3 := hTr.kept hk3 (by omega)
        obtain ⟨s0, s1, p0, p1, i0⟩ := HG.out _ _ hJ3
        have t0 := hT3.c0
        have t1 := hT3.c1
        have t2 := hT3.f0
        have t3 := hT3.f1
        clear hTr p0 p1
        gi_wp2_with fail
        go_wp2_with fail
        refine (HB.out _ _ (stp_lt (by omega))).mono ?_
        rw [stp_next HK.out hlt]
        rintro e W4 ⟨rfl, hk4⟩
        have hT4 := hT3.kept0 hk4
        have hJ4 : J (i + 1) W4 := HJ.out _ _ _ hJ3 ((Kept0.below hk4).mono (by have := hk3.size; have := hT3.lt; omega))
        have t0 := hT4.c0
        have t1 := hT4.c1
        have t2 := hT4.f0
        have t3 := hT4.f1
        have e2 : IntKind.i64.wrap ((i : Int) + 1) = ((i + 1 : Nat) : Int) := by rw [IntWalk.i64_in _ ⟨by omega, by omega⟩]; omega
        clear hk4 s0 s1 i0
        go_wp2_with fail
        have hl4 : w1.heap.size < W4.heap.size := hT4.lt
        have hb4 : Below W.heap.size W4 ((W4.setCell ⟨w1.heap.size, 0, none⟩ (.int .i64 (rowOf C (stp N b k (i + 1)) : Int))).setCell ⟨w1.heap.size, 1, none⟩ (.int .i64 (colOf C (stp N b k (i + 1)) : Int))) :=
          Kept.below ((Kept.set1 W4 w1.heap.size 0 _).trans (Kept.set1 _ w1.heap.size 1 _)) (B := W.heap.size) (fun j hj => ⟨by omega, by omega⟩)
        refine ⟨⟨i + 1, by omega, by simp, hT4.set _ _, HJ.out _ _ _ hJ4 hb4⟩, ?_⟩
        simp [intOf]
        omega
      · gi_wp2_with fail
        go_wp2_with fail
        refine bodyPost_ret (results_none rfl _ _ _) rfl ?_
        exact ⟨⟨_, rfl⟩, Or.inr ⟨i, hlt, hJx3⟩⟩
    · obtain rfl : i = N := by omega
      have d1 : decide ((i : Int) < (i : Int)) = false := by simp
      go_wp2_with fail
      go_end0
      exact ⟨⟨_, rfl⟩, Or.inl hJr⟩

set_option maxHeartbeats 2000000 in
/-- Of no grid: no place. -/
theorem round1_nil (bS bP bI : Nat) (r c s : Int) :
    IterAt Tryz.prog 127 #[.pointer (some ⟨bS, 0, none⟩), .pointer (some ⟨bP, 0, none⟩), .pointer (some ⟨bI, 0, none⟩)] (fun _ => #[pos 0 0]) 0 (RndG bS bP bI 0 0 r c s) := by
  intro n l J Jx W hJ hJx hG hY h0
  refine callsIn_wide.2 ?_
  obtain ⟨s0, s1, p0, p1, i0⟩ := hG _ _ h0
  have ls := World.block_lt_of_cell? W _ s0
  have HJ := Lib.hid hJ
  have hm : ¬ may 0 0 := by unfold may; omega
  have HA : Hid (∀ w, Calls Tryz.prog 38 #[pos 0 0, pos r c] w fun e w' => e = .returned (pos 0 0) ∧ Kept0 w w') := fun w => by
    have := near_any 0 0 r c w
    rw [show nearR 0 0 r = 0 from if_neg hm, show nearC 0 0 c = 0 from if_neg hm] at this
    exact this
  clear hY hJ hG hJx hm
  go_enter Tryz.func127, Tryz.ntmps127
  go_wp2_with fail
  refine (HA.out _).mono ?_
  rintro e w1 ⟨rfl, hk1⟩
  replace s0 := kcell hk1 s0
  replace s1 := kcell hk1 s1
  have ls1 : bS < w1.heap.size := World.block_lt_of_cell? w1 _ s0
  have hJ1 : J 0 w1 := HJ.out _ _ _ h0 (Kept0.below hk1)
  have hW1 := hk1.size
  clear hk1 p0 p1 i0
  go_wp2_with fail
  have hJ2 := HJ.out _ _ _ hJ1 ((Below.refl _ w1).alloc hW1 (.cells #[.int .i64 0, .int .i64 0] 45))
  go_loopw [14] (fun s14 wr => s14 = .int .i64 0 ∧ J 0 wr) (fun _ _ => 0)
  case atStart => exact ⟨rfl, hJ2⟩
  case round =>
    obtain ⟨rfl, hrel⟩ := hrel
    go_wp2_with fail
    go_end0
    exact ⟨⟨_, rfl⟩, Or.inl hrel⟩
end Go.Proofs.YtlhajbcabpfbkaaGreatDoor

/-
  seek, Free and Last: the first place that is not guarded.
-/
namespace Go.Proofs.YtlhajbcabpfbkaaGreatDoor
open Go.RowKit

attribute [local go_sem] Oper.semAt_some

/-- The row, the column of a place that may be none. -/
def oR (C : Nat) (o : Option Nat) : Int := match o with | some k => (rowOf C k : Int) | none => 0
def oC (C : Nat) (o : Option Nat) : Int := match o with | some k => (colOf C k : Int) | none => 0

theorem round_call0 {l : Nat} {f : FuncId} {args : Array Value} {w : World} {R : Ending → World → Prop} (h : Calls Tryz.prog f args w R) :
    Fence.wide.fn f ∧ Fence.wide.depth = none ∧ CallsIn (Fence.wide.inRound l) 0 Tryz.prog f args w R :=
  ⟨trivial, rfl, CallsIn.inRound l (callsIn_wide.2 h)⟩

theorem RndG.below {bS bP bI : Nat} {R C r c s : Int} {w w' : World} {B : Nat} (h : RndG bS bP bI R C r c s w) (k : Below B w w') (h1 : bS < B) (h2 : bP < B) (h3 : bI < B) : RndG bS bP bI R C r c s w' :=
  ⟨(k.cell (p := ⟨bS, 0, none⟩) h1).trans h.s0, (k.cell (p := ⟨bS, 1, none⟩) h1).trans h.s1, (k.cell (p := ⟨bP, 0, none⟩) h2).trans h.p0, (k.cell (p := ⟨bP, 1, none⟩) h2).trans h.p1, (k.cell (p := ⟨bI, 0, none⟩) h3).trans h.i0⟩

theorem RndG.kept0 {bS bP bI : Nat} {R C r c s : Int} {w w' : World} (h : RndG bS bP bI R C r c s w) (k : Kept0 w w') : RndG bS bP bI R C r c s w' :=
  ⟨kcell k h.s0, kcell k h.s1, kcell k h.p0, kcell k h.p1, kcell k h.i0⟩

set_option maxRecDepth 100000 in
set_option maxHeartbeats 4000000 in
theorem seek_any (bS bP bI g t cap R C : Nat) (f : Nat → Cel) (r c : Int) (b : Bool) (w : World) (hg : GridAt w g t cap R C f) (hr : RndG bS bP bI R C r c (sg b) w) :
    Calls Tryz.prog 123 #[.pointer (some ⟨g, 0, none⟩), .func (.func 127) #[] #[.pointer (some ⟨bS, 0, none⟩), .pointer (some ⟨bP, 0, none⟩), .pointer (some ⟨bI, 0, none⟩)]] w fun e w' =>
      e = .returned (.tuple #[pos (oR C (freeK (R * C) b (st R C r c) f)) (oC C (freeK (R * C) b (st R C r c) f)), .bool (freeK (R * C) b (st R C r c) f).isSome]) ∧ Kept0 w w' := by
  have hR1 := hg.R1
  have hC1 := hg.C1
  have hR2 := hg.R2
  have hC2 := hg.C2
  have hit := round1 bS bP bI R C r c b hg.R1 hg.R2 hg.C1 hg.C2
  have HST : Hid (st R C r c < R * C) := st_lt hR1 hC1
  obtain ⟨k0, hk0⟩ : ∃ k, k = st R C r c := ⟨_, rfl⟩
  rw [← hk0] at hit HST ⊢
  obtain ⟨o, ho⟩ : ∃ o, o = freeK (R * C) b k0 f := ⟨_, rfl⟩
  rw [← ho]
  have HO := Lib.hid ho
  clear hk0 ho
  have hgl := hg.lt
  have htl := hg.row.lt
  refine calls_marks Tryz.func123 rfl ?_
  simp only [Tryz.ntmps123, List.size_toArray, List.length_cons, List.length_nil, Nat.reduceAdd, Nat.reduceSub, Array.replicate_succ, Array.replicate_zero, List.push_toArray, List.append_toArray, List.nil_append, List.cons_append]
  go_wp2_with fail
  refine wp_scope_straight ?_
  go_wp2_with fail
  refine wp_label ?_
  go_wp2_with fail
  obtain ⟨w6, hw6⟩ : ∃ w6, w6 = ((w.alloc (.cells #[.pointer (some ⟨g, 0, none⟩)] 86)).alloc (.cells #[.int .i64 0, .int .i64 0] 45)).alloc (.cells #[.bool false] 4) := ⟨_, rfl⟩
  have k06 : Kept0 w w6 := by rw [hw6]; exact (((Kept.refl _ w).alloc _).alloc _).alloc _
  have hbx : w6.cell? ⟨w.heap.size, 0, none⟩ = some (.pointer (some ⟨g, 0, none⟩)) := by rw [hw6]; simp [go_sem]
  have hT6 : Two w6 (w.heap.size + 1) 0 0 := by rw [hw6]; exact Two.of (heap_old _ _ (heap_new2 _ _ _))
  have hB6 : BoolAt w6 (w.heap.size + 1 + 1) false := by rw [hw6]; exact BoolAt.of (heap_newC _ _ _ _)
  have hs6 : w.heap.size + 3 = w6.heap.size := by rw [hw6]; simp
  rw [← hw6]
  clear hw6
  have hG6 := hg.kept k06 (fun e => e) (fun e => e)
  have hr6 := hr.kept0 k06
  have ls := World.block_lt_of_cell? w _ hr.s0
  have lp := World.block_lt_of_cell? w _ hr.p0
  have li := World.block_lt_of_cell? w _ hr.i0
  have hl1 : w.heap.size + 1 < w6.heap.size := by omega
  have hl2 : w.heap.size + 1 + 1 < w6.heap.size := by omega
  clear hg hr
  refine wpIn_wide.1 (wp_range (n := 0) (gf := 127) (lb := #[.pointer (some ⟨bS, 0, none⟩), .pointer (some ⟨bP, 0, none⟩), .pointer (some ⟨bI, 0, none⟩)]) rfl (enters_of Tryz.func127 (by kernel_rfl) rfl) hit (fun _ => rfl)
    (fun k W => Hid (seekN (openP (R * C) b k0 f) (R * C) 0 = seekN (openP (R * C) b k0 f) (R * C - k) k) ∧ Kept0 w6 W)
    (fun c k W => c = .ret ∧ Hid (freeK (R * C) b k0 f = some (stp (R * C) b k0 k)) ∧ W.cell? ⟨w.heap.size + 1, 0, none⟩ = some (.int .i64 (rowOf C (stp (R * C) b k0 k) : Int)) ∧ W.cell? ⟨w.heap.size + 1, 1, none⟩ = some (.int .i64 (colOf C (stp (R * C) b k0 k) : Int)) ∧ W.cell? ⟨w.heap.size + 1 + 1, 0, none⟩ = some (.bool true) ∧ Kept (fun q => q = w.heap.size + 1 ∨ q = w.heap.size + 1 + 1) w6 W)
    (fun _ _ _ h b => ⟨h.1, h.2.thenBelow b (Nat.le_refl _)⟩)
    (fun _ _ _ _ h b => ?_)
    (fun _ W h => hr6.kept0 h.2)
    ⟨rfl, Kept.refl _ _⟩ ?_ ?_ ?_)
  · obtain ⟨h1, h2, h3, h4, h5, h6⟩ := h
    exact ⟨h1, h2, (b.cell (p := ⟨w.heap.size + 1, 0, none⟩) hl1).trans h3, (b.cell (p := ⟨w.heap.size + 1, 1, none⟩) hl1).trans h4, (b.cell (p := ⟨w.heap.size + 1 + 1, 0, none⟩) hl2).trans h5, h6.thenBelow b (Nat.le_refl _)⟩
  · rintro l9 k W hl3 hl4 hk ⟨hI0, hI1⟩
    have hsW := hI1.size
    unfold rndArgs
    have hx := stp_lt (N := R * C) (k := k0) (i := k) (b := b) (by omega)
    have hth := there_row_col hx hC1
    have hidx : idx C (rowOf C (stp (R * C) b k0 k) : Int) (colOf C (stp (R * C) b k0 k) : Int) = stp (R * C) b k0 k := idx_row_col C _
    have hop : openP (R * C) b k0 f k = !(f (stp (R * C) b k0 k)).b := rfl
    obtain ⟨x, hxe⟩ : ∃ x, x = stp (R * C) b k0 k := ⟨_, rfl⟩
    have HXE := Lib.hid hxe
    rw [← hxe] at hth hidx hop hx ⊢
    have HTH := Lib.hid hth
    have HID := Lib.hid hidx
    have HOP := Lib.hid hop
    clear hth hidx hop hxe
    gi_wp2_with fail
    refine ⟨(Kept.refl _ W).alloc _, fun W2 hk2 hb2 => ?_⟩
    have hlW : ¬ W.heap.size = l9 := by omega
    have b0 : W2.cell? ⟨W.heap.size, 0, none⟩ = some (.int .i64 (rowOf C x : Int)) := (hk2.cell (by simp) hlW).trans (by simp [go_sem])
    have b1 : W2.cell? ⟨W.heap.size, 1, none⟩ = some (.int .i64 (colOf C x : Int)) := (hk2.cell (by simp) hlW).trans (by simp [go_sem])
    have hbW : Below w6.heap.size W W2 := ((Below.refl _ W).alloc (by omega) _).trans hb2
    have hI2 : Kept0 w6 W2 := hI1.thenBelow hbW (Nat.le_refl _)
    have y9 := kcell hI2 hbx
    have hGW := hG6.kept hI2 (fun e => e) (fun e => e)
    clear hk2 hb2 hbW
    gi_wp2_with fail
    refine round_call0 ((at_in g t cap R C f _ _ _ hGW HTH.out).mono ?_)
    rw [HID.out]
    rintro e W3 ⟨rfl, hk3⟩
    replace b0 := kcell hk3 b0
    replace b1 := kcell hk3 b1
    have hI3 : Kept0 w6 W3 := hI2.trans hk3
    have hT3 := hT6.kept0 hI3
    have hB3 := hB6.kept hI3 (fun e => e)
    have l1 := hT3.lt
    have l2 := hB3.lt
    have lW : W.heap.size < W3.heap.size := World.block_lt_of_cell? W3 _ b0
    obtain ⟨t0, t1, t2, t3⟩ := hT3
    obtain ⟨u0, u1⟩ := hB3
    have hK3 := Lib.hid hk3
    clear hI2 hk3 hGW y9 hG6 hT6 hB6
    have HI0 := Lib.hid hI0.out
    clear hI0
    obtain ⟨y, hy⟩ : ∃ y, y = f x := ⟨_, rfl⟩
    rw [← hy] at HOP ⊢
    clear hy
    obtain ⟨m, hm⟩ : ∃ m, R * C - k = m + 1 := ⟨R * C - k - 1, by omega⟩
    obtain ⟨yg, ya, yb, ym⟩ := y
    cases yb
    · have HF : Hid (freeK (R * C) b k0 f = some (stp (R * C) b k0 k)) := by
        show freeK (R * C) b k0 f = some (stp (R * C) b k0 k)
        unfold freeK
        rw [HI0.out, hm, seekN_yes HOP.out]
        rfl
      gi_wp2_with fail
      refine ⟨?_, rfl, HF, ?_, ?_, ?_, ?_⟩
      · exact (((hK3.out.to.setCell _ (Or.inr (by simp; omega)) _).setCell _ (Or.inr (by simp; omega)) _).setCell _ (Or.inr (by simp; omega)) _).alloc _
      · rw [← HXE.out]; refine kcell ((Kept.refl _ _).alloc _) ?_; simp [go_sem, t0]
      · rw [← HXE.out]; refine kcell ((Kept.refl _ _).alloc _) ?_; simp [go_sem, t1]
      · refine kcell ((Kept.refl _ _).alloc _) ?_; simp [go_sem, u0]
      · exact (((hI3.to.setCell _ (Or.inr (Or.inl rfl)) _).setCell _ (Or.inr (Or.inl rfl)) _).setCell _ (Or.inr (Or.inr rfl)) _).alloc _
    · have HF : Hid (seekN (openP (R * C) b k0 f) (R * C) 0 = seekN (openP (R * C) b k0 f) (R * C - (k + 1)) (k + 1)) := by
        show seekN (openP (R * C) b k0 f) (R * C) 0 = seekN (openP (R * C) b k0 f) (R * C - (k + 1)) (k + 1)
        rw [HI0.out, hm, seekN_no HOP.out, show R * C - (k + 1) = m by omega]
      gi_wp2_with fail
      exact ⟨hK3.out.to.alloc _, HF, hI3.alloc _⟩
  · rintro D W hD ⟨hI0, hI1⟩ hDc
    have hfr : freeK (R * C) b k0 f = none := by
      unfold freeK
      rw [hI0.out, Nat.sub_self]
      rfl
    have ho : o = none := HO.out.trans hfr
    subst ho
    have hT := hT6.kept0 hI1
    have hB := hB6.kept hI1 (fun e => e)
    have l1 := hT.lt
    have l2 := hB.lt
    obtain ⟨t0, t1, t2, t3⟩ := hT
    obtain ⟨u0, u1⟩ := hB
    have HD := Lib.hid hDc
    have hI1' := Lib.hid hI1
    clear hDc hI0 hfr HO hit HST hG6 hr6 hT6 hB6 hbx
    go_wp2_with fail
    obtain ⟨W4, hW4⟩ : ∃ W4, W4 = ((W.setCell ⟨w.heap.size + 1, 0, none⟩ (.int .i64 0)).setCell ⟨w.heap.size + 1, 1, none⟩ (.int .i64 0)).setCell ⟨w.heap.size + 1 + 1, 0, none⟩ (.bool false) := ⟨_, rfl⟩
    have q0 : W4.cell? ⟨w.heap.size + 1, 0, none⟩ = some (.int .i64 0) := by rw [hW4]; simp [go_sem, t0]
    have q1 : W4.cell? ⟨w.heap.size + 1, 1, none⟩ = some (.int .i64 0) := by rw [hW4]; simp [go_sem, t1]
    have q2 : W4.cell? ⟨w.heap.size + 1 + 1, 0, none⟩ = some (.bool false) := by rw [hW4]; simp [go_sem, u0]
    have hk4 : Kept0 w W4 := by rw [hW4]; exact (((k06.trans hI1'.out).setCell _ (Or.inl (by simp)) _).setCell _ (Or.inl (by simp)) _).setCell _ (Or.inl (by simp; omega)) _
    have hDl : D < W.heap.size := (Array.getElem?_eq_some_iff.1 HD.out).1
    have hD4 : W4.heap[D]? = some (.deferred (some [])) := by
      rw [hW4]
      exact (Below.heap_setCell _ _ _ _ (by simp; omega)).trans ((Below.heap_setCell _ _ _ _ (by simp; omega)).trans ((Below.heap_setCell _ _ _ _ (by simp; omega)).trans HD.out))
    rw [← hW4]
    clear hW4
    have r0 : (W4.putObj D (.deferred none)).cell? ⟨w.heap.size + 1, 0, none⟩ = some (.int .i64 0) := (World.cell?_of_block (World.putObj_heap_other (by simp; omega))).trans q0
    have r1 : (W4.putObj D (.deferred none)).cell? ⟨w.heap.size + 1, 1, none⟩ = some (.int .i64 0) := (World.cell?_of_block (World.putObj_heap_other (by simp; omega))).trans q1
    have r2 : (W4.putObj D (.deferred none)).cell? ⟨w.heap.size + 1 + 1, 0, none⟩ = some (.bool false) := (World.cell?_of_block (World.putObj_heap_other (by simp; omega))).trans q2
    refine ⟨by simp, .inl ⟨_, _, rfl, run_takeDeferred hD4, ?_⟩⟩
    refine ⟨.tuple #[pos 0 0, .bool false], by simp [results, Tryz.results123, go_sem, r0, r1, r2], rfl, ?_⟩
    exact hk4.thenBelow (below_putObj _ hD) (by omega)
  · rintro D c k W hD hk ⟨rfl, hF, c0, c1, c2, hI1⟩ hDc
    have ho : o = some (stp (R * C) b k0 k) := HO.out.trans hF.out
    have HD := Lib.hid hDc
    have hsW := hI1.size
    clear hDc HO hit HST hG6 hr6 hT6 hB6 hbx hF
    gi_wp2_with fail
    have hk4 : Kept0 w W := k06.later hI1 (fun i hi e => by omega)
    have hDl : D < W.heap.size := (Array.getElem?_eq_some_iff.1 HD.out).1
    have hD4 := HD.out
    have r0 : (W.putObj D (.deferred none)).cell? ⟨w.heap.size + 1, 0, none⟩ = some (.int .i64 (rowOf C (stp (R * C) b k0 k) : Int)) := (World.cell?_of_block (World.putObj_heap_other (by simp; omega))).trans c0
    have r1 : (W.putObj D (.deferred none)).cell? ⟨w.heap.size + 1, 1, none⟩ = some (.int .i64 (colOf C (stp (R * C) b k0 k) : Int)) := (World.cell?_of_block (World.putObj_heap_other (by simp; omega))).trans c1
    have r2 : (W.putObj D (.deferred none)).cell? ⟨w.heap.size + 1 + 1, 0, none⟩ = some (.bool true) := (World.cell?_of_block (World.putObj_heap_other (by simp; omega))).trans c2
    refine ⟨by simp, .inl ⟨_, _, rfl, run_takeDeferred hD4, ?_⟩⟩
    refine ⟨.tuple #[pos (rowOf C (stp (R * C) b k0 k) : Int) (colOf C (stp (R * C) b k0 k) : Int), .bool true], by simp [results, Tryz.results123, go_sem, r0, r1, r2], by rw [ho]; rfl, ?_⟩
    exact hk4.thenBelow (below_putObj _ hD) (by omega)
end Go.Proofs.YtlhajbcabpfbkaaGreatDoor

/-
  Free and Last.
-/
namespace Go.Proofs.YtlhajbcabpfbkaaGreatDoor
open Go.RowKit

attribute [local go_sem] Oper.semAt_some

theorem round_in (R C r c s : Int) (w : World) : Calls Tryz.prog 124 #[pos R C, pos r c, .int .i64 s] w fun e w' => ∃ bS bP bI, e = .returned (.func (.func 127) #[] #[.pointer (some ⟨bS, 0, none⟩), .pointer (some ⟨bP, 0, none⟩), .pointer (some ⟨bI, 0, none⟩)]) ∧ RndG bS bP bI R C r c s w' ∧ Kept0 w w' := by
  refine (round_any R C r c s w).mono ?_
  rintro e w' ⟨rfl, rfl⟩
  refine ⟨_, _, _, rfl, ⟨?_, ?_, ?_, ?_, ?_⟩, (((Kept.refl _ w).alloc _).alloc _).alloc _⟩
  all_goals simp [go_sem]

set_option maxRecDepth 100000 in
set_option maxHeartbeats 4000000 in
/-- Of no grid. -/
theorem seek_nil (bS bP bI : Nat) (r c s : Int) (w : World) (hr : RndG bS bP bI 0 0 r c s w) :
    Calls Tryz.prog 123 #[.pointer none, .func (.func 127) #[] #[.pointer (some ⟨bS, 0, none⟩), .pointer (some ⟨bP, 0, none⟩), .pointer (some ⟨bI, 0, none⟩)]] w fun e w' =>
      e = .returned (.tuple #[pos 0 0, .bool false]) ∧ Kept0 w w' := by
  have hit := round1_nil bS bP bI r c s
  refine calls_marks Tryz.func123 rfl ?_
  simp only [Tryz.ntmps123, List.size_toArray, List.length_cons, List.length_nil, Nat.reduceAdd, Nat.reduceSub, Array.replicate_succ, Array.replicate_zero, List.push_toArray, List.append_toArray, List.nil_append, List.cons_append]
  go_wp2_with fail
  refine wp_scope_straight ?_
  go_wp2_with fail
  refine wp_label ?_
  go_wp2_with fail
  obtain ⟨w6, hw6⟩ : ∃ w6, w6 = ((w.alloc (.cells #[.pointer none] 86)).alloc (.cells #[.int .i64 0, .int .i64 0] 45)).alloc (.cells #[.bool false] 4) := ⟨_, rfl⟩
  have k06 : Kept0 w w6 := by rw [hw6]; exact (((Kept.refl _ w).alloc _).alloc _).alloc _
  have hbx : w6.cell? ⟨w.heap.size, 0, none⟩ = some (.pointer none) := by rw [hw6]; simp [go_sem]
  have hT6 : Two w6 (w.heap.size + 1) 0 0 := by rw [hw6]; exact Two.of (heap_old _ _ (heap_new2 _ _ _))
  have hB6 : BoolAt w6 (w.heap.size + 1 + 1) false := by rw [hw6]; exact BoolAt.of (heap_newC _ _ _ _)
  have hs6 : w.heap.size + 3 = w6.heap.size := by rw [hw6]; simp
  rw [← hw6]
  clear hw6
  have hr6 := hr.kept0 k06
  have ls := World.block_lt_of_cell? w _ hr.s0
  have lp := World.block_lt_of_cell? w _ hr.p0
  have li := World.block_lt_of_cell? w _ hr.i0
  have hl1 : w.heap.size + 1 < w6.heap.size := by omega
  have hl2 : w.heap.size + 1 + 1 < w6.heap.size := by omega
  clear hr
  refine wpIn_wide.1 (wp_range (n := 0) (gf := 127) (lb := #[.pointer (some ⟨bS, 0, none⟩), .pointer (some ⟨bP, 0, none⟩), .pointer (some ⟨bI, 0, none⟩)]) rfl (enters_of Tryz.func127 (by kernel_rfl) rfl) hit (fun _ => rfl)
    (fun _ W => Kept0 w6 W)
    (fun _ _ _ => False)
    (fun _ _ _ h b => h.thenBelow b (Nat.le_refl _))
    (fun _ _ _ _ h _ => h)
    (fun _ W h => hr6.kept0 h)
    (Kept.refl _ _) ?_ ?_ ?_)
  · rintro l9 k W hl3 hl4 hk _
    omega
  · rintro D W hD hI1 hDc
    have hT := hT6.kept0 hI1
    have hB := hB6.kept hI1 (fun e => e)
    have l1 := hT.lt
    have l2 := hB.lt
    obtain ⟨t0, t1, t2, t3⟩ := hT
    obtain ⟨u0, u1⟩ := hB
    have HD := Lib.hid hDc
    have hI1' := Lib.hid hI1
    clear hDc hit hr6 hT6 hB6 hbx
    go_wp2_with fail
    obtain ⟨W4, hW4⟩ : ∃ W4, W4 = ((W.setCell ⟨w.heap.size + 1, 0, none⟩ (.int .i64 0)).setCell ⟨w.heap.size + 1, 1, none⟩ (.int .i64 0)).setCell ⟨w.heap.size + 1 + 1, 0, none⟩ (.bool false) := ⟨_, rfl⟩
    have q0 : W4.cell? ⟨w.heap.size + 1, 0, none⟩ = some (.int .i64 0) := by rw [hW4]; simp [go_sem, t0]
    have q1 : W4.cell? ⟨w.heap.size + 1, 1, none⟩ = some (.int .i64 0) := by rw [hW4]; simp [go_sem, t1]
    have q2 : W4.cell? ⟨w.heap.size + 1 + 1, 0, none⟩ = some (.bool false) := by rw [hW4]; simp [go_sem, u0]
    have hk4 : Kept0 w W4 := by rw [hW4]; exact (((k06.trans hI1'.out).setCell _ (Or.inl (by simp)) _).setCell _ (Or.inl (by simp)) _).setCell _ (Or.inl (by simp; omega)) _
    have hDl : D < W.heap.size := (Array.getElem?_eq_some_iff.1 HD.out).1
    have hD4 : W4.heap[D]? = some (.deferred (some [])) := by
      rw [hW4]
      exact (Below.heap_setCell _ _ _ _ (by simp; omega)).trans ((Below.heap_setCell _ _ _ _ (by simp; omega)).trans ((Below.heap_setCell _ _ _ _ (by simp; omega)).trans HD.out))
    rw [← hW4]
    clear hW4
    have r0 : (W4.putObj D (.deferred none)).cell? ⟨w.heap.size + 1, 0, none⟩ = some (.int .i64 0) := (World.cell?_of_block (World.putObj_heap_other (by simp; omega))).trans q0
    have r1 : (W4.putObj D (.deferred none)).cell? ⟨w.heap.size + 1, 1, none⟩ = some (.int .i64 0) := (World.cell?_of_block (World.putObj_heap_other (by simp; omega))).trans q1
    have r2 : (W4.putObj D (.deferred none)).cell? ⟨w.heap.size + 1 + 1, 0, none⟩ = some (.bool false) := (World.cell?_of_block (World.putObj_heap_other (by simp; omega))).trans q2
    refine ⟨by simp, .inl ⟨_, _, rfl, run_takeDeferred hD4, ?_⟩⟩
    refine ⟨.tuple #[pos 0 0, .bool false], by simp [results, Tryz.results123, go_sem, r0, r1, r2], rfl, ?_⟩
    exact hk4.thenBelow (below_putObj _ hD) (by omega)
  · rintro D c k W hD hk h
    exact h.elim

set_option maxHeartbeats 1000000 in
theorem free_coreF (g : Value) (R C r c a b : Int) (v : Bool) (w : World)
    (hsize : ∀ w', Kept0 w w' → Calls Tryz.prog 56 #[g] w' fun e w'' => e = .returned (pos R C) ∧ Kept0 w' w'')
    (hseek : ∀ bS bP bI w', Kept0 w w' → RndG bS bP bI R C r c (1) w' → Calls Tryz.prog 123 #[g, .func (.func 127) #[] #[.pointer (some ⟨bS, 0, none⟩), .pointer (some ⟨bP, 0, none⟩), .pointer (some ⟨bI, 0, none⟩)]] w' fun e w'' => e = .returned (.tuple #[pos a b, .bool v]) ∧ Kept0 w' w'') :
    Calls Tryz.prog 118 #[g, pos r c] w fun e w' => e = .returned (.tuple #[pos a b, .bool v]) ∧ Kept0 w w' := by
  have HS := Lib.hid hsize
  have HK := Lib.hid hseek
  clear hsize hseek
  go_enter Tryz.func118, Tryz.ntmps118
  go_wp2_with fail
  obtain ⟨W, hW⟩ : ∃ W, W = (w.alloc (.cells #[.int .i64 r, .int .i64 c] 45)).alloc (.cells #[.int .i64 0, .int .i64 0] 45) := ⟨_, rfl⟩
  have k0 : Kept0 w W := by rw [hW]; exact ((Kept.refl _ w).alloc _).alloc _
  have hp : Two W w.heap.size r c := by rw [hW]; exact Two.of (heap_old _ _ (heap_new _ _))
  have ho : Two W (w.heap.size + 1) 0 0 := by rw [hW]; exact Two.of (heap_new2 _ _ _)
  rw [← hW]
  clear hW
  have KK := Lib.hid k0
  have HP := Lib.hid hp
  have HOO := Lib.hid ho
  have lp := hp.lt
  have lo := ho.lt
  obtain ⟨p0, p1, p2, p3⟩ := hp
  obtain ⟨o0, o1, o2, o3⟩ := ho
  have n1 : ¬ w.heap.size = w.heap.size + 1 := by omega
  have n2 : ¬ w.heap.size + 1 = w.heap.size := by omega
  clear k0
  go_region_held3 (fun w' => w'.cell? ⟨w.heap.size, 0, none⟩ = some (.int .i64 r) ∧ w'.cell? ⟨w.heap.size, 1, none⟩ = some (.int .i64 c)) (go_keep)
    (first
      | (go_at_call 56; refine (HS.out _ (Kept.drew KK.out)).mono ?_; rintro e w3 ⟨rfl, hk3⟩; have kn : Hid (Kept0 W w3) := (Kept.refl _ W).drew.trans hk3; obtain ⟨v0, v1, v2, v3⟩ := HP.out.kept0 kn.out)
      | (go_at_call 124; refine (round_in _ _ _ _ _ _).mono ?_; rintro e w4 ⟨bS, bP, bI, rfl, hG4, hk4⟩; have kn4 : Hid (Kept0 W w4) := kn.out.trans hk4; obtain ⟨v0, v1, v2, v3⟩ := HP.out.kept0 kn4.out)
      | (go_at_call 123; refine (HK.out bS bP bI _ (KK.out.trans kn4.out) hG4).mono ?_; rintro e w5 ⟨rfl, hk5⟩; have kn5 : Hid (Kept0 W w5) := kn4.out.trans hk5; obtain ⟨v0, v1, v2, v3⟩ := HP.out.kept0 kn5.out; obtain ⟨y0, y1, y2, y3⟩ := HOO.out.kept0 kn5.out))
  all_goals
    go_wp2_with fail
    exact bodyPost_ret (v := .tuple #[pos a b, .bool v]) (by simp [results, Tryz.results118, go_sem, y0, y1]) rfl ⟨rfl, ((KK.out.trans kn5.out).setCell _ (Or.inl (Nat.le_add_right _ 1)) _).setCell _ (Or.inl (Nat.le_add_right _ 1)) _⟩


theorem free_any (g t cap R C : Nat) (f : Nat → Cel) (r c : Int) (w : World) (hg : GridAt w g t cap R C f) :
    Calls Tryz.prog 118 #[.pointer (some ⟨g, 0, none⟩), pos r c] w fun e w' => e = .returned (.tuple #[pos (oR C (freeK (R * C) false (st R C r c) f)) (oC C (freeK (R * C) false (st R C r c) f)), .bool (freeK (R * C) false (st R C r c) f).isSome]) ∧ Kept0 w w' :=
  free_coreF _ R C r c _ _ _ w (fun w' k => size_any g R C w' (kcell k hg.c0) (kcell k hg.c1)) (fun bS bP bI w' k h => seek_any bS bP bI g t cap R C f r c false w' (hg.kept k (fun e => e) (fun e => e)) h)


theorem free_nil (r c : Int) (w : World) : Calls Tryz.prog 118 #[.pointer none, pos r c] w fun e w' => e = .returned (.tuple #[pos 0 0, .bool false]) ∧ Kept0 w w' :=
  free_coreF _ 0 0 r c _ _ _ w (fun w' _ => size_nil w') (fun bS bP bI w' _ h => seek_nil bS bP bI r c _ w' h)

end Go.Proofs.YtlhajbcabpfbkaaGreatDoor

/-
  Ahead, Behind, and the lines that go up, in plain numbers and cells; lift.
-/
namespace Go.Proofs.YtlhajbcabpfbkaaGreatDoor
open Go.RowKit

/-- Where a glyph is to be put, and whether the lines go up ahead of it. -/
def aR (R : Nat) (r : Int) (b : Bool) : Int := if b = true then nextR R (nr r R) else nr r R
def aC (C : Nat) (c : Int) (b : Bool) : Int := if b = true then 0 else nr c C
def aU (R : Nat) (r : Int) (b : Bool) : Bool := b && (nr r R == (R : Int) - 1)
/-- Where the cursor is behind it, and whether the lines go up. -/
def bR (R C : Nat) (p q k : Int) : Int := if q < (C : Int) - 1 then p else if k = 1 then p else if k = 2 then nextR R p else p
def bC (C : Nat) (q k : Int) : Int := if q < (C : Int) - 1 then q + 1 else if k = 1 then q else if k = 2 then 0 else q
def bP (C : Nat) (q k : Int) : Bool := if q < (C : Int) - 1 then false else if k = 1 then false else if k = 2 then false else true
def bU (R C : Nat) (p q k : Int) : Bool := if q < (C : Int) - 1 then false else if k = 1 then false else if k = 2 then (p == (R : Int) - 1) else false

theorem next_in {R : Nat} {r : Int} (hR : 1 ≤ R) : 0 ≤ nextR R (nr r R) ∧ nextR R (nr r R) < R := by
  have h1 := nr_lo r R
  have h2 := nr_hi r R (by omega)
  unfold nextR
  split <;> omega
theorem a_there {R C : Nat} {r c : Int} {b : Bool} (hR : 1 ≤ R) (hC : 1 ≤ C) : There R C (aR R r b) (aC C c b) := by
  have h1 := st_there (r := r) (c := c) hR hC
  have h2 := next_in (r := r) hR
  unfold aR aC
  cases b
  · exact h1
  · exact ⟨h2.1, h2.2, by simp, by simp; omega⟩

theorem ahead_any' (R C : Nat) (r c : Int) (b : Bool) (w : World) (h1 : 1 ≤ R) (h2 : R ≤ 255) (h3 : 1 ≤ C) (h4 : C ≤ 255) :
    Calls Tryz.prog 115 #[pos R C, place r c b] w fun e w' => e = .returned (.tuple #[pos (aR R r b) (aC C c b), .bool (aU R r b)]) ∧ Kept0 w w' := by
  have hm := may_nat h1 h2 h3 h4
  cases b
  · have := ahead_plain (R : Int) (C : Int) r c w
    rw [show nearR (R : Int) (C : Int) r = nr r R from if_pos hm, show nearC (R : Int) (C : Int) c = nr c C from if_pos hm] at this
    exact this
  · have := ahead_pend (R : Int) (C : Int) r c hm w
    simpa [aR, aC, aU] using this

theorem behind_any' (R C : Nat) (p q k : Int) (w : World) (h1 : 1 ≤ R) (h2 : R ≤ 255) (h3 : 1 ≤ C) (h4 : C ≤ 255) (hth : There R C p q) :
    Calls Tryz.prog 117 #[pos R C, pos p q, .int .i64 k] w fun e w' => e = .returned (.tuple #[place (bR R C p q k) (bC C q k) (bP C q k), .bool (bU R C p q k)]) ∧ Kept0 w w' := by
  have hm := may_nat h1 h2 h3 h4
  have e1 : nr p R = p := nr_in _ _ hth.1 hth.2.1
  have e2 : nr q C = q := nr_in _ _ hth.2.2.1 hth.2.2.2
  have := behind_core (R : Int) (C : Int) p q k hm (decide (nr q C < (C : Int) - 1)) (k == 1) (k == 2) rfl rfl rfl w
  rw [e1, e2] at this
  have hv : behindV (R : Int) p q (decide (q < (C : Int) - 1)) (k == 1) (k == 2) = .tuple #[place (bR R C p q k) (bC C q k) (bP C q k), .bool (bU R C p q k)] := by
    unfold behindV bR bC bP bU
    by_cases g1 : q < (C : Int) - 1
    · simp [g1]
    · by_cases g2 : k = 1
      · simp [g1, g2]
      · by_cases g3 : k = 2
        · simp [g1, g3]
        · simp [g1, g2, g3]
  rw [hv] at this
  exact this

/-- The lines, gone up if they are to. -/
def liftF (R C : Nat) (f : Nat → Cel) (u : Bool) (x : Cel) : Nat → Cel := if u = true then upF R C f 1 x else f
def liftN (u : Bool) : Int := if u = true then 1 else 0
theorem liftN_in (u : Bool) : 0 ≤ liftN u ∧ liftN u ≤ 1 := by unfold liftN; split <;> omega

set_option maxHeartbeats 400000 in
theorem lift_any (g t cap R C : Nat) (f : Nat → Cel) (u : Bool) (x : Cel) (w : World) (hg : GridAt w g t cap R C f) :
    Calls Tryz.prog 116 #[.pointer (some ⟨g, 0, none⟩), .bool u, x.v] w fun e w' => e = .returned (.int .i64 (liftN u)) ∧ GridAt w' g t cap R C (liftF R C f u x) ∧ Kept (· = t) w w' := by
  have k0 : Kept0 w (w.alloc (.cells #[.int .i32 x.g, .int .i64 x.a, .bool x.b, .int .i64 x.m] 52)) := (Kept.refl _ w).alloc _
  have HU : Hid (Calls Tryz.prog 107 #[.pointer (some ⟨g, 0, none⟩), .int .i64 1, x.v] (w.alloc (.cells #[.int .i32 x.g, .int .i64 x.a, .bool x.b, .int .i64 x.m] 52)) fun e w' => e = .returned (.int .i64 0) ∧ GridAt w' g t cap R C (upF R C f 1 x) ∧ Kept (· = t) (w.alloc (.cells #[.int .i32 x.g, .int .i64 x.a, .bool x.b, .int .i64 x.m] 52)) w') :=
    up_any g t cap R C f 1 x _ (hg.kept k0 (fun e => e) (fun e => e))
  have HG := Lib.hid hg
  clear hg
  cases u
  · go_enter Tryz.func116, Tryz.ntmps116
    go_wp2_with fail
    go_ret
    exact ⟨rfl, HG.out.kept k0 (fun e => e) (fun e => e), k0.to⟩
  · go_enter Tryz.func116, Tryz.ntmps116
    go_wp2_with fail
    refine HU.out.mono ?_
    rintro e w1 ⟨rfl, h1, k1⟩
    go_wp2_with fail
    go_ret
    exact ⟨rfl, h1, k0.to.trans k1⟩

/-- What Put comes to. -/
def putF (R C : Nat) (f : Nat → Cel) (r c : Int) (b : Bool) (x : Cel) (k : Int) (bl : Cel) : Nat → Cel :=
  liftF R C (upd (liftF R C f (aU R r b) bl) (idx C (aR R r b) (aC C c b)) x) (bU R C (aR R r b) (aC C c b) k) bl
def putN (R C : Nat) (r c : Int) (b : Bool) (k : Int) : Int := liftN (aU R r b) + liftN (bU R C (aR R r b) (aC C c b) k)
def putR (R C : Nat) (r c : Int) (b : Bool) (k : Int) : Int := bR R C (aR R r b) (aC C c b) k
def putC (C : Nat) (c : Int) (b : Bool) (k : Int) : Int := bC C (aC C c b) k
def putP (C : Nat) (c : Int) (b : Bool) (k : Int) : Bool := bP C (aC C c b) k
theorem putN_in (R C : Nat) (r c : Int) (b : Bool) (k : Int) : 0 ≤ putN R C r c b k ∧ putN R C r c b k ≤ 2 := by
  have h1 := liftN_in (aU R r b)
  have h2 := liftN_in (bU R C (aR R r b) (aC C c b) k)
  unfold putN; omega

end Go.Proofs.YtlhajbcabpfbkaaGreatDoor
