/-
  All of a grid: which rounds it comes to.
-/
import Derived.Test.YtekjjnfbahmjcaaIter
import Derived.Deep.DeepCutAuto
namespace Go.Proofs.Ytekjjnfbahmjcaa
open Go.RowKit

attribute [local go_sem] Oper.semAt_some

/-- Which place an iterator's own cells tell. -/
def placeOf (C b : Nat) (w : World) : Nat :=
  match w.cell? ⟨b, 0, none⟩, w.cell? ⟨b, 1, none⟩ with
  | some (.int _ r), some (.int _ c) => idx C r c
  | _, _ => 0

theorem placeOf_eq {C b : Nat} {w : World} {r c : Int} (h0 : w.cell? ⟨b, 0, none⟩ = some (.int .i64 r)) (h1 : w.cell? ⟨b, 1, none⟩ = some (.int .i64 c)) : placeOf C b w = idx C r c := by
  simp [placeOf, h0, h1]

/-- A block of two numbers that may be written. -/
structure TwoAt (w : World) (b : Nat) (r c : Int) : Prop where
  c0 : w.cell? ⟨b, 0, none⟩ = some (.int .i64 r)
  c1 : w.cell? ⟨b, 1, none⟩ = some (.int .i64 c)
  f0 : w.frozen? ⟨b, 0, none⟩ = false
  f1 : w.frozen? ⟨b, 1, none⟩ = false

theorem TwoAt.lt {w : World} {b : Nat} {r c : Int} (h : TwoAt w b r c) : b < w.heap.size := World.block_lt_of_cell? w _ h.c0
theorem TwoAt.kept {w w' : World} {b : Nat} {r c : Int} (h : TwoAt w b r c) {S : Nat → Prop} (k : Kept S w w') (hs : ¬ S b) : TwoAt w' b r c :=
  ⟨(k.cell h.lt hs).trans h.c0, (k.cell h.lt hs).trans h.c1, (k.frozen h.lt hs).trans h.f0, (k.frozen h.lt hs).trans h.f1⟩

theorem TwoAt.drewN {w : World} {b : Nat} {r c : Int} (h : TwoAt w b r c) (n : Nat) : TwoAt (w.drewN n) b r c := ⟨h.c0, h.c1, h.f0, h.f1⟩
theorem TwoAt.set1 {w : World} {b : Nat} {r c : Int} (h : TwoAt w b r c) (x : Int) : TwoAt (w.setCell ⟨b, 1, none⟩ (.int .i64 x)) b r x :=
  ⟨by simp [go_sem, h.c0], by simp [go_sem, h.c1], by simp [go_sem, h.f0], by simp [go_sem, h.f1]⟩
theorem TwoAt.set0 {w : World} {b : Nat} {r c : Int} (h : TwoAt w b r c) (x : Int) : TwoAt (w.setCell ⟨b, 0, none⟩ (.int .i64 x)) b x c :=
  ⟨by simp [go_sem, h.c0], by simp [go_sem, h.c1], by simp [go_sem, h.f0], by simp [go_sem, h.f1]⟩

/-- The row, and the column, of the place with a number. -/
def rowOf (C k : Nat) : Nat := k / C
def colOf (C k : Nat) : Nat := k % C
theorem idx_row_col (C k : Nat) : idx C (rowOf C k : Int) (colOf C k : Int) = k := by
  simp only [idx, rowOf, colOf, Int.toNat_natCast]
  rw [Nat.mul_comm]
  exact Nat.div_add_mod k C
theorem rowOf_lt {R C k : Nat} (h : k < R * C) : rowOf C k < R := Nat.div_lt_of_lt_mul (by rwa [Nat.mul_comm] at h)
theorem colOf_lt {C k : Nat} (h : 1 ≤ C) : colOf C k < C := Nat.mod_lt _ (by omega)
theorem there_row_col {R C k : Nat} (h : k < R * C) (hC : 1 ≤ C) : There R C (rowOf C k) (colOf C k) := by
  have h1 := rowOf_lt h
  have h2 := colOf_lt (k := k) hC
  exact ⟨by omega, by omega, by omega, by omega⟩
/-- The next place. -/
theorem next_place {C k : Nat} (hC : 1 ≤ C) :
    (colOf C k + 1 < C → rowOf C (k + 1) = rowOf C k ∧ colOf C (k + 1) = colOf C k + 1) ∧ (C ≤ colOf C k + 1 → rowOf C (k + 1) = rowOf C k + 1 ∧ colOf C (k + 1) = 0) := by
  have hm := Nat.div_add_mod k C
  have hlt := colOf_lt (k := k) hC
  unfold rowOf colOf at *
  constructor
  · intro h
    have e : k + 1 = C * (k / C) + (k % C + 1) := by omega
    constructor
    · rw [e, Nat.mul_add_div (by omega), Nat.div_eq_of_lt h]; omega
    · rw [e, Nat.mul_add_mod, Nat.mod_eq_of_lt h]
  · intro h
    have e : k + 1 = C * (k / C + 1) := by rw [Nat.mul_add]; omega
    constructor
    · rw [e, Nat.mul_div_cancel_left _ (by omega)]
    · rw [e, Nat.mul_mod_right]

/-- What the k-th round of All is handed. -/
def allArgs (C : Nat) (f : Nat → Int) (k : Nat) : Array Value := #[.agg #[.int .i64 (rowOf C k : Int), .int .i64 (colOf C k : Int)], .int .i64 (f k)]

/-- What All of a grid reads. -/
def AllG (bx g t cap R C : Nat) (f : Nat → Int) (W : World) : Prop := W.cell? ⟨bx, 0, none⟩ = some (.pointer (some ⟨g, 0, none⟩)) ∧ GridAt W g t cap R C f

set_option maxHeartbeats 1000000 in
theorem all1_grid (bx g t cap R C : Nat) (f : Nat → Int) : IterAt Try.prog 45 #[.pointer (some ⟨bx, 0, none⟩)] (allArgs C f) (R * C) (AllG bx g t cap R C f) := by
  intro n l J Jx W hJ hJx hG hY h0
  refine callsIn_wide.2 ?_
  obtain ⟨hb, hgr⟩ := hG _ _ h0
  have hbl := World.block_lt_of_cell? W _ hb
  have hgl := hgr.lt
  have htl := hgr.row.lt
  have hR1 := hgr.R1
  have hC1 := hgr.C1
  have hR2 := hgr.R2
  have hC2 := hgr.C2
  have Y := Lib.hid hY
  have HJ := Lib.hid hJ
  have HJx := Lib.hid hJx
  have HG := Lib.hid hG
  obtain ⟨N, hN⟩ : ∃ N, N = R * C := ⟨_, rfl⟩
  have HN := Lib.hid hN
  clear hY hJ hG hJx hN
  go_enter Try.func45, Try.ntmps45
  go_wp2_with fail
  refine (at_in g t cap R C f 0 0 _ (hgr.kept ((Kept.refl (fun _ => False) W).alloc _) (fun e => e) (fun e => e)) ⟨by omega, by omega, by omega, by omega⟩).mono ?_
  rintro e w1 ⟨rfl, hk1⟩
  have hT : TwoAt w1 W.heap.size 0 0 := TwoAt.kept ⟨by simp [go_sem], by simp [go_sem], by simp [go_sem], by simp [go_sem]⟩ hk1 (fun e => e)
  have hJ1 : J 0 w1 := HJ.out _ _ _ h0 (((Below.refl _ W).alloc (Nat.le_refl _) _).trans (hk1.below.mono (by simp)))
  clear hk1 hb hgr
  go_wp2_with fail
  go_loopw [4, 5] (fun s4 s5 wr => ∃ k : Nat, k ≤ N ∧ TwoAt wr W.heap.size (rowOf C k : Int) (colOf C k : Int) ∧ J k wr ∧ (k < N → s4 = .int .i64 (f k) ∧ s5 = .int .i64 0) ∧ (k = N → s5 = .int .i64 11)) (fun _ _ wr => N - placeOf C W.heap.size wr)
  case atStart =>
    refine ⟨0, by omega, by simpa [rowOf, colOf] using hT, hJ1, fun _ => ⟨by simp [idx], rfl⟩, fun e => ?_⟩
    have := HN.out
    have : 0 < R * C := Nat.mul_pos (by omega) (by omega)
    omega
  case round =>
    obtain ⟨k, hk, hTr, hJr, hlo, hhi⟩ := hrel
    obtain ⟨hbr, hgrr⟩ := HG.out _ _ hJr
    by_cases hlt : k < N
    · obtain ⟨rfl, rfl⟩ := hlo hlt
      obtain ⟨fn, tmps, assign, body, hy, hR⟩ := Y.out k wr (by rw [← HN.out]; exact hlt) hJr
      clear hhi hlo
      unfold allArgs at hy
      have HPL : Hid (placeOf C W.heap.size wr = k) := by
        show placeOf C W.heap.size wr = k
        rw [placeOf_eq hTr.c0 hTr.c1, idx_row_col]
      have t0 := hTr.c0
      have t1 := hTr.c1
      go_upto_region 4 with fail
      refine (wpIn_wide (n := 0)).1 ?_
      gi_wp2_with fail
      refine ⟨rfl, RoundIn.mono (roundIn_any hR) ?_⟩
      clear hy hR Y
      rintro e W3 (⟨rfl, hJ3, hk3⟩ | ⟨rfl, hJx3⟩)
      · have hT3 := hTr.kept hk3 (by omega)
        obtain ⟨hb3, hg3⟩ := HG.out _ _ hJ3
        have t0 := hT3.c0
        have t1 := hT3.c1
        have t2 := hT3.f0
        have t3 := hT3.f1
        have g1 := hg3.c1
        have hcl := colOf_lt (k := k) hC1
        have hrl := rowOf_lt (R := R) (C := C) (k := k) (by rw [← HN.out]; exact hlt)
        have n1 : ¬ bx = W.heap.size := by omega
        have n2 : ¬ W.heap.size = bx := by omega
        have n3 : ¬ g = W.heap.size := by omega
        have n4 : ¬ W.heap.size = g := by omega
        have n5 : ¬ t = W.heap.size := by omega
        have n6 : ¬ W.heap.size = t := by omega
        have hs3 : W.heap.size < W3.heap.size := hT3.lt
        clear hTr
        gi_wp2_with fail
        go_wp2_with fail
        by_cases hend : colOf C k + 1 < C
        · have d1 : decide ((C : Int) ≤ (colOf C k : Int) + 1) = false := by simp; omega
          obtain ⟨e1, e2⟩ := (next_place (k := k) hC1).1 hend
          have hk1 : Hid (k + 1 < R * C) := by
            have := place_lt (R := R) hrl hend
            have h9 := idx_row_col C (k + 1)
            simp only [idx, e1, e2, Int.toNat_natCast] at h9
            show k + 1 < R * C
            omega
          have E1 := Lib.hid e1
          have E2 := Lib.hid e2
          clear e1 e2
          go_quiet (fail)
          go_wp2_with fail
          have hks : Kept (· = W.heap.size) W3 ((W3.setCell ⟨W.heap.size, 1, none⟩ (.int .i64 ((colOf C k : Int) + 1))).drewN nq) := (Kept.set1 W3 _ _ _).drewN nq
          have hT4 : TwoAt ((W3.setCell ⟨W.heap.size, 1, none⟩ (.int .i64 ((colOf C k : Int) + 1))).drewN nq) W.heap.size (rowOf C (k + 1) : Int) (colOf C (k + 1) : Int) := by
            rw [E1.out, E2.out]
            exact (hT3.set1 _).drewN nq
          refine (at_in g t cap R C f _ _ _ (hg3.kept hks n3 n5) ?_).mono ?_
          · have := there_row_col hk1.out hC1
            rw [E1.out, E2.out] at this
            simpa using this
          have hfk : Hid (f (idx C (rowOf C k : Int) ((colOf C k : Int) + 1)) = f (k + 1)) := by
            have := idx_row_col C (k + 1)
            rw [E1.out, E2.out] at this
            rw [Int.natCast_add] at this
            exact congrArg f this
          rw [hfk.out]
          rintro e W5 ⟨rfl, hk5⟩
          have hT5 := hT4.kept hk5 (fun e => e)
          have hJ5 : J (k + 1) W5 := HJ.out _ _ _ hJ3 (Kept.below (hks.later hk5 (fun _ _ e => e.elim)) (fun j hj => ⟨by omega, by omega⟩))
          clear hT4 hks hk5 t0 t1 t2 t3 g1 hT3 hJ3
          go_wp2_with fail
          go_roundw
          case rel => exact ⟨k + 1, by omega, hT5, hJ5, fun _ => ⟨rfl, rfl⟩, fun e => by have := HN.out; have := hk1.out; omega⟩
          case measure =>
            rw [placeOf_eq hT5.c0 hT5.c1, idx_row_col]
            have := HPL.out
            omega
        · have d1 : decide ((C : Int) ≤ (colOf C k : Int) + 1) = true := by simp; omega
          obtain ⟨e1, e2⟩ := (next_place (k := k) hC1).2 (by omega)
          have E1 := Lib.hid e1
          have E2 := Lib.hid e2
          clear e1 e2
          go_quiet (fail)
          go_wp2_with fail
          obtain ⟨W4, hW4⟩ : ∃ W4, W4 = (((W3.setCell ⟨W.heap.size, 1, none⟩ (.int .i64 ((colOf C k : Int) + 1))).drewN nq).setCell ⟨W.heap.size, 0, none⟩ (.int .i64 ((rowOf C k : Int) + 1))).setCell ⟨W.heap.size, 1, none⟩ (.int .i64 0) := ⟨_, rfl⟩
          have hks : Kept (· = W.heap.size) W3 W4 := by
            rw [hW4]
            exact (((Kept.set1 W3 _ _ _).drewN nq).trans (Kept.set1 _ _ _ _)).trans (Kept.set1 _ _ _ _)
          have hT4 : TwoAt W4 W.heap.size (rowOf C (k + 1) : Int) (colOf C (k + 1) : Int) := by
            rw [E1.out, E2.out, hW4]
            exact (((hT3.set1 _).drewN nq).set0 _).set1 _
          rw [← hW4]
          clear hW4
          have hg4 := hg3.kept hks n3 n5
          have hJ4 : J (k + 1) W4 := HJ.out _ _ _ hJ3 (Kept.below hks (fun j hj => ⟨by omega, by omega⟩))
          clear t0 t1 t2 t3 g1 hT3 hJ3
          by_cases hlast : rowOf C k + 1 < R
          · have hk1 : Hid (k + 1 < R * C) := by
              have := place_lt (R := R) (C := C) (b := 0) hlast (by omega)
              have h9 := idx_row_col C (k + 1)
              simp only [idx, E1.out, E2.out, Int.toNat_natCast] at h9
              show k + 1 < R * C
              omega
            refine (at_in g t cap R C f _ _ _ hg4 ⟨by omega, by omega, by omega, by omega⟩).mono ?_
            have hfk : Hid (f (idx C ((rowOf C k : Int) + 1) 0) = f (k + 1)) := by
              have := idx_row_col C (k + 1)
              rw [E1.out, E2.out] at this
              rw [Int.natCast_add] at this
              exact congrArg f this
            rw [hfk.out]
            rintro e W5 ⟨rfl, hk5⟩
            have hT5 := hT4.kept hk5 (fun e => e)
            have hJ5 : J (k + 1) W5 := HJ.out _ _ _ hJ4 (hk5.below.mono (by have := hks.size; omega))
            clear hT4 hks hk5 hJ4 hg4
            go_wp2_with fail
            go_roundw
            case rel => exact ⟨k + 1, by omega, hT5, hJ5, fun _ => ⟨rfl, rfl⟩, fun e => by have := HN.out; have := hk1.out; omega⟩
            case measure =>
              rw [placeOf_eq hT5.c0 hT5.c1, idx_row_col]
              have := HPL.out
              omega
          · have hk1 : Hid (k + 1 = N) := by
              have h8 : rowOf C k + 1 = R := by omega
              have h9 := idx_row_col C (k + 1)
              simp only [idx, E1.out, E2.out, Int.toNat_natCast] at h9
              rw [h8] at h9
              show k + 1 = N
              rw [HN.out]
              omega
            refine (at_out g R C _ _ _ hg4.c0 hg4.c1 (fun h => by have := h.2.1; omega)).mono ?_
            rintro e W5 ⟨rfl, hk5⟩
            have hT5 := hT4.kept hk5 (fun e => e)
            have hJ5 : J (k + 1) W5 := HJ.out _ _ _ hJ4 (hk5.below.mono (by have := hks.size; omega))
            clear hT4 hks hk5 hJ4 hg4
            go_wp2_with fail
            go_roundw
            case rel => exact ⟨k + 1, by omega, hT5, hJ5, fun e => by have := hk1.out; omega, fun _ => rfl⟩
            case measure =>
              rw [placeOf_eq hT5.c0 hT5.c1, idx_row_col]
              have := HPL.out
              omega
      · gi_wp2_with fail
        go_wp2_with fail
        refine bodyPost_ret (results_none rfl _ _ _) rfl ?_
        exact ⟨⟨_, rfl⟩, Or.inr ⟨k, by rw [← HN.out]; exact hlt, hJx3⟩⟩
    · have e : k = N := by omega
      obtain rfl := hhi e
      clear hlo hhi
      go_wp2_with fail
      go_end0
      rw [e, HN.out] at hJr
      exact ⟨⟨_, rfl⟩, Or.inl hJr⟩
end Go.Proofs.Ytekjjnfbahmjcaa
