/-
  All of a grid of cells: which rounds it comes to; Copy; how a function that ranges over one is walked.
-/
import Derived.Test.YtkdnjkcebfckiaaMade
import Derived.Test.YtkdnjkcebfckiaaRange
import Derived.Test.YtkdnjkcebfckiaaTruth
import Derived.Shelf.Abstract
import Derived.Deep.DeepCutAuto
namespace Go.Proofs.Ytkdnjkcebfckiaa
open Go.RowKit

attribute [local go_sem] Oper.semAt_some

theorem wide_call {n : Nat} {f : FuncId} {args : Array Value} {w : World} {R : Ending → World → Prop} (h : Calls Try.prog f args w R) :
    Fence.wide.fn f ∧ (Fence.wide.depth.isSome = true → 1 ≤ n) ∧ CallsIn Fence.wide (n - 1) Try.prog f args w R :=
  ⟨trivial, fun h => by simp [Fence.wide] at h, callsIn_wide.2 h⟩

/-- A function that holds a range over a function, walked by the plain walk. -/
theorem calls_marks {f : FuncId} {fn : Func} {c : Code} {args : Array Value} {w : World} {R : Ending → World → Prop} (hf : Try.prog.funcs[f]? = some fn) (hb : fn.body = some c)
    (h : c.wp Try.prog (bodyPostM Fence.wide 0 Try.prog fn R) { tmps := args ++ Array.replicate (fn.ntmps - args.size) undef, defers := [] } w) : Calls Try.prog f args w R :=
  callsIn_wide.1 (callsIn_of_wp_marks hf hb trivial (wpIn_wide.2 h))

theorem Kept.set1 (w : World) (b o : Nat) (v : Value) : Kept (· = b) w (w.setCell ⟨b, o, none⟩ v) :=
  Kept.setCell (S := (· = b)) (Kept.refl _ w) ⟨b, o, none⟩ (Or.inr rfl) v
theorem Kept.thenBelow {S : Nat → Prop} {a w w' : World} {B : Nat} (h : Kept S a w) (b : Below B w w') (hB : a.heap.size ≤ B) : Kept S a w' :=
  ⟨b.os.trans h.os, b.tape.trans h.tape, b.output.trans h.output, Nat.le_trans h.size b.size, fun i hi hs => (b.block i (by omega)).trans (h.block i hi hs)⟩

theorem all_any (p : Option Addr) (w : World) : Calls Try.prog 25 #[.pointer p] w fun e w' => e = .returned (.func (.func 49) #[] #[.pointer (some ⟨w.heap.size, 0, none⟩)]) ∧ w' = w.alloc (.cells #[.pointer p] 31) := by
  have hmf : ∀ (fn : Fn) (first cap : Array Value) (w : World), (Instr.makeFunc fn first cap).run Try.prog w = .ok (.func fn first cap) w := fun _ _ _ _ => rfl
  go_enter Try.func25, Try.ntmps25
  go_wp2
  go_ret
  exact ⟨rfl, rfl⟩

set_option maxHeartbeats 400000 in
theorem copy_any (g t cap R C : Nat) (f : Nat → Cel) (w : World) (hg : GridAt w g t cap R C f) :
    Calls Try.prog 24 #[.pointer (some ⟨g, 0, none⟩)] w fun e w' => ∃ g' t' cap', e = .returned (.pointer (some ⟨g', 0, none⟩)) ∧ w.heap.size ≤ g' ∧ w.heap.size ≤ t' ∧ GridAt w' g' t' cap' R C f ∧ Kept0 w w' := by
  have hRC : R * C ≤ 65025 := Nat.mul_le_mul hg.R2 hg.C2
  have hN1 : 1 ≤ R * C := Nat.mul_pos hg.R1 hg.C1
  have c0 := hg.c0
  have c1 := hg.c1
  have c2 := hg.c2
  have hrow := hg.row
  obtain ⟨N, hN⟩ : ∃ N, N = R * C := ⟨_, rfl⟩
  rw [← hN] at c2 hRC hN1 hrow
  have HN := Lib.hid hN
  clear hN
  go_enter Try.func24, Try.ntmps24
  go_wp2_with fail
  go_region_held3 (fun w' => w'.cell? ⟨g, 0, none⟩ = some (.int .i64 R) ∧ w'.cell? ⟨g, 1, none⟩ = some (.int .i64 C) ∧ w'.cell? ⟨g, 2, none⟩ = some (Value.slice (some ⟨t, 0, none⟩) N cap)) (go_keep)
    (first
      | (go_at_call 48; refine (clone_any t 0 N cap N f w.drew (CellsAt.drewN hrow 1) (by omega) hN1 (by omega)).mono ?_; rintro e w2 ⟨t2, cap2, rfl, h1, h2, h3, h4⟩; have z0 := kcell h4 (show w.drew.cell? _ = _ from c0); have z1 := kcell h4 (show w.drew.cell? _ = _ from c1); have z2 := kcell h4 (show w.drew.cell? _ = _ from c2)))
  all_goals
    go_wp2_with fail
    go_ret
    obtain rfl := HN.out
    have h1' : w.heap.size ≤ t2 := h1
    have h4' : Kept0 w w2 := (Kept.refl (fun _ => False) w).drew.trans h4
    refine ⟨w2.heap.size, t2, cap2, rfl, h4'.size, h1', ⟨heap_new _ _, (h3.alloc _).congr (fun k _ => by simp), h2, hg.R1, hg.R2, hg.C1, hg.C2⟩, h4'.alloc _⟩

/-- Which place an iterator's own cells tell. -/
def placeOf (C b : Nat) (w : World) : Nat :=
  match w.cell? ⟨b, 0, none⟩, w.cell? ⟨b, 1, none⟩ with
  | some (.int _ r), some (.int _ c) => idx C r c
  | _, _ => 0

theorem placeOf_eq {C b : Nat} {w : World} {r c : Int} (h0 : w.cell? ⟨b, 0, none⟩ = some (.int .i64 r)) (h1 : w.cell? ⟨b, 1, none⟩ = some (.int .i64 c)) : placeOf C b w = idx C r c := by
  simp [placeOf, h0, h1]

/-- A block of two numbers that may be written. -/
structure TwoAt (w : World) (b : Nat) (r c : Int) : Prop where
  c0 : w.cell? ⟨b, 0, none⟩ = some (.int .i64 r)
  c1 : w.cell? ⟨b, 1, none⟩ = some (.int .i64 c)
  f0 : w.frozen? ⟨b, 0, none⟩ = false
  f1 : w.frozen? ⟨b, 1, none⟩ = false

theorem TwoAt.lt {w : World} {b : Nat} {r c : Int} (h : TwoAt w b r c) : b < w.heap.size := World.block_lt_of_cell? w _ h.c0
theorem TwoAt.kept {w w' : World} {b : Nat} {r c : Int} (h : TwoAt w b r c) {S : Nat → Prop} (k : Kept S w w') (hs : ¬ S b) : TwoAt w' b r c :=
  ⟨(k.cell h.lt hs).trans h.c0, (k.cell h.lt hs).trans h.c1, (k.frozen h.lt hs).trans h.f0, (k.frozen h.lt hs).trans h.f1⟩

theorem TwoAt.drewN {w : World} {b : Nat} {r c : Int} (h : TwoAt w b r c) (n : Nat) : TwoAt (w.drewN n) b r c := ⟨h.c0, h.c1, h.f0, h.f1⟩
theorem TwoAt.set1 {w : World} {b : Nat} {r c : Int} (h : TwoAt w b r c) (x : Int) : TwoAt (w.setCell ⟨b, 1, none⟩ (.int .i64 x)) b r x :=
  ⟨by simp [go_sem, h.c0], by simp [go_sem, h.c1], by simp [go_sem, h.f0], by simp [go_sem, h.f1]⟩
theorem TwoAt.set0 {w : World} {b : Nat} {r c : Int} (h : TwoAt w b r c) (x : Int) : TwoAt (w.setCell ⟨b, 0, none⟩ (.int .i64 x)) b x c :=
  ⟨by simp [go_sem, h.c0], by simp [go_sem, h.c1], by simp [go_sem, h.f0], by simp [go_sem, h.f1]⟩

/-- The row, and the column, of the place with a number. -/
def rowOf (C k : Nat) : Nat := k / C
def colOf (C k : Nat) : Nat := k % C
theorem idx_row_col (C k : Nat) : idx C (rowOf C k : Int) (colOf C k : Int) = k := by
  simp only [idx, rowOf, colOf, Int.toNat_natCast]
  rw [Nat.mul_comm]
  exact Nat.div_add_mod k C
theorem rowOf_lt {R C k : Nat} (h : k < R * C) : rowOf C k < R := Nat.div_lt_of_lt_mul (by rwa [Nat.mul_comm] at h)
theorem colOf_lt {C k : Nat} (h : 1 ≤ C) : colOf C k < C := Nat.mod_lt _ (by omega)
theorem there_row_col {R C k : Nat} (h : k < R * C) (hC : 1 ≤ C) : There R C (rowOf C k) (colOf C k) := by
  have h1 := rowOf_lt h
  have h2 := colOf_lt (k := k) hC
  exact ⟨by omega, by omega, by omega, by omega⟩
/-- The next place. -/
theorem next_place {C k : Nat} (hC : 1 ≤ C) :
    (colOf C k + 1 < C → rowOf C (k + 1) = rowOf C k ∧ colOf C (k + 1) = colOf C k + 1) ∧ (C ≤ colOf C k + 1 → rowOf C (k + 1) = rowOf C k + 1 ∧ colOf C (k + 1) = 0) := by
  have hm := Nat.div_add_mod k C
  have hlt := colOf_lt (k := k) hC
  unfold rowOf colOf at *
  constructor
  · intro h
    have e : k + 1 = C * (k / C) + (k % C + 1) := by omega
    constructor
    · rw [e, Nat.mul_add_div (by omega), Nat.div_eq_of_lt h]; omega
    · rw [e, Nat.mul_add_mod, Nat.mod_eq_of_lt h]
  · intro h
    have e : k + 1 = C * (k / C + 1) := by rw [Nat.mul_add]; omega
    constructor
    · rw [e, Nat.mul_div_cancel_left _ (by omega)]
    · rw [e, Nat.mul_mod_right]

/-- What the k-th round of All is handed. -/
def allArgs (C : Nat) (f : Nat → Cel) (k : Nat) : Array Value := #[.agg #[.int .i64 (rowOf C k : Int), .int .i64 (colOf C k : Int)], (f k).v]

/-- What All of a grid reads. -/
def AllG (bx g t cap R C : Nat) (f : Nat → Cel) (W : World) : Prop := W.cell? ⟨bx, 0, none⟩ = some (.pointer (some ⟨g, 0, none⟩)) ∧ GridAt W g t cap R C f

/-- A cell in a block that may be written. -/
structure CelW (w : World) (b : Nat) (x : Cel) : Prop where
  at0 : CelAt w b x
  f0 : w.frozen? ⟨b, 0, none⟩ = false
  f1 : w.frozen? ⟨b, 1, none⟩ = false
  f2 : w.frozen? ⟨b, 2, none⟩ = false
  f3 : w.frozen? ⟨b, 3, none⟩ = false
theorem CelW.lt {w : World} {b : Nat} {x : Cel} (h : CelW w b x) : b < w.heap.size := World.block_lt_of_cell? w _ h.at0.c0
theorem CelW.kept {w w' : World} {b : Nat} {x : Cel} (h : CelW w b x) {S : Nat → Prop} (k : Kept S w w') (hs : ¬ S b) : CelW w' b x :=
  ⟨h.at0.kept k hs, (k.frozen h.lt hs).trans h.f0, (k.frozen h.lt hs).trans h.f1, (k.frozen h.lt hs).trans h.f2, (k.frozen h.lt hs).trans h.f3⟩
theorem CelW.new (w : World) (x : Cel) (t : TypeId) : CelW (w.alloc (.cells #[.int .i32 x.g, .int .i64 x.a, .bool x.b, .int .i64 x.m] t)) w.heap.size x :=
  ⟨CelAt.new w x t, by simp [go_sem], by simp [go_sem], by simp [go_sem], by simp [go_sem]⟩
theorem CelW.set {w : World} {b : Nat} {x : Cel} (h : CelW w b x) (y : Cel) : CelW ((((w.setCell ⟨b, 0, none⟩ (.int .i32 y.g)).setCell ⟨b, 1, none⟩ (.int .i64 y.a)).setCell ⟨b, 2, none⟩ (.bool y.b)).setCell ⟨b, 3, none⟩ (.int .i64 y.m)) b y := by
  obtain ⟨⟨c0, c1, c2, c3⟩, f0, f1, f2, f3⟩ := h
  exact ⟨⟨by simp [go_sem, c0], by simp [go_sem, c1], by simp [go_sem, c2], by simp [go_sem, c3]⟩, by simp [go_sem, f0], by simp [go_sem, f1], by simp [go_sem, f2], by simp [go_sem, f3]⟩

set_option maxHeartbeats 2000000 in
theorem all1_grid (bx g t cap R C : Nat) (f : Nat → Cel) : IterAt Try.prog 49 #[.pointer (some ⟨bx, 0, none⟩)] (allArgs C f) (R * C) (AllG bx g t cap R C f) := by
  intro n l J Jx W hJ hJx hG hY h0
  refine callsIn_wide.2 ?_
  obtain ⟨hb, hgr⟩ := hG _ _ h0
  have hbl := World.block_lt_of_cell? W _ hb
  have hgl := hgr.lt
  have htl := hgr.row.lt
  have hR1 := hgr.R1
  have hC1 := hgr.C1
  have hR2 := hgr.R2
  have hC2 := hgr.C2
  have Y := Lib.hid hY
  have HJ := Lib.hid hJ
  have HJx := Lib.hid hJx
  have HG := Lib.hid hG
  obtain ⟨N, hN⟩ : ∃ N, N = R * C := ⟨_, rfl⟩
  have HN := Lib.hid hN
  clear hY hJ hG hJx hN
  go_enter Try.func49, Try.ntmps49
  go_wp2_with fail
  refine (at_in g t cap R C f 0 0 _ (hgr.kept ((Kept.refl (fun _ => False) W).alloc _) (fun e => e) (fun e => e)) ⟨by omega, by omega, by omega, by omega⟩).mono ?_
  rintro e w1 ⟨rfl, hk1⟩
  have hT : TwoAt w1 W.heap.size 0 0 := TwoAt.kept ⟨by simp [go_sem], by simp [go_sem], by simp [go_sem], by simp [go_sem]⟩ hk1 (fun e => e)
  have hJ1 : J 0 w1 := HJ.out _ _ _ h0 (((Below.refl _ W).alloc (Nat.le_refl _) _).trans (hk1.below.mono (by simp)))
  have hsz1 := hT.lt
  obtain ⟨x, hx⟩ : ∃ x, x = f (idx C 0 0) := ⟨_, rfl⟩
  rw [← hx]
  have hW1 : W.heap.size ≤ w1.heap.size := by omega
  have HX : Hid (x = f 0) := by show x = f 0; rw [hx]; simp [idx]
  clear hk1 hb hgr hx
  go_wp2_with fail
  obtain ⟨w2, hw2⟩ : ∃ w2, w2 = w1.alloc (.cells #[.int .i32 x.g, .int .i64 x.a, .bool x.b, .int .i64 x.m] 36) := ⟨_, rfl⟩
  have hx2 : CelW w2 w1.heap.size x := by rw [hw2]; exact CelW.new w1 x 36
  have hT2 : TwoAt w2 W.heap.size 0 0 := by rw [hw2]; exact hT.kept ((Kept.refl (fun _ => False) w1).alloc _) (fun e => e)
  have hJ2 : J 0 w2 := by rw [hw2]; exact HJ.out _ _ _ hJ1 ((Below.refl _ w1).alloc hW1 _)
  rw [← hw2]
  clear hw2 hT hJ1
  go_loopw [4, 5] (fun s4 s5 wr => ∃ (k b : Nat) (y : Cel), k ≤ N ∧ TwoAt wr W.heap.size (rowOf C k : Int) (colOf C k : Int) ∧ J k wr ∧ s4 = .pointer (some ⟨b, 0, none⟩) ∧ W.heap.size < b ∧ CelW wr b y ∧ (k < N → y = f k ∧ s5 = .int .i64 0) ∧ (k = N → s5 = .int .i64 11)) (fun _ _ wr => N - placeOf C W.heap.size wr)
  case atStart =>
    refine ⟨0, w1.heap.size, x, by omega, by simpa [rowOf, colOf] using hT2, hJ2, rfl, hsz1, hx2, fun _ => ⟨HX.out, rfl⟩, fun e => ?_⟩
    have := HN.out
    have : 0 < R * C := Nat.mul_pos (by omega) (by omega)
    omega
  case round =>
    obtain ⟨k, b, y, hk, hTr, hJr, rfl, hbb, hyr, hlo, hhi⟩ := hrel
    obtain ⟨hbr, hgrr⟩ := HG.out _ _ hJr
    by_cases hlt : k < N
    · obtain ⟨hyf, rfl⟩ := hlo hlt
      obtain ⟨fn, tmps, assign, body, hy, hR⟩ := Y.out k wr (by rw [← HN.out]; exact hlt) hJr
      clear hhi hlo
      unfold allArgs at hy
      rw [← hyf] at hy
      have HYF := Lib.hid hyf
      clear hyf
      have HPL : Hid (placeOf C W.heap.size wr = k) := by
        show placeOf C W.heap.size wr = k
        rw [placeOf_eq hTr.c0 hTr.c1, idx_row_col]
      have t0 := hTr.c0
      have t1 := hTr.c1
      obtain ⟨z0, z1, z2, z3⟩ := hyr.at0
      go_upto_region 4 with fail
      refine (wpIn_wide (n := 0)).1 ?_
      gi_wp2_with fail
      refine ⟨rfl, RoundIn.mono (roundIn_any hR) ?_⟩
      clear hy hR Y
      rintro e W3 (⟨rfl, hJ3, hk3⟩ | ⟨rfl, hJx3⟩)
      · have hT3 := hTr.kept hk3 (by omega)
        have hy3 := hyr.kept hk3 (by omega)
        obtain ⟨hb3, hg3⟩ := HG.out _ _ hJ3
        have t0 := hT3.c0
        have t1 := hT3.c1
        have t2 := hT3.f0
        have t3 := hT3.f1
        have g1 := hg3.c1
        have hcl := colOf_lt (k := k) hC1
        have hrl := rowOf_lt (R := R) (C := C) (k := k) (by rw [← HN.out]; exact hlt)
        have n1 : ¬ bx = W.heap.size := by omega
        have n2 : ¬ W.heap.size = bx := by omega
        have n3 : ¬ g = W.heap.size := by omega
        have n4 : ¬ W.heap.size = g := by omega
        have n5 : ¬ t = W.heap.size := by omega
        have n6 : ¬ W.heap.size = t := by omega
        have n7 : ¬ b = W.heap.size := by omega
        have n8 : ¬ W.heap.size = b := by omega
        have hs3 : W.heap.size < W3.heap.size := hT3.lt
        have hs4 : bx < W3.heap.size := by omega
        have hs5 : b < W3.heap.size := hy3.lt
        obtain ⟨y0, y1, y2, y3⟩ := hy3.at0
        clear hTr hyr z0 z1 z2 z3
        gi_wp2_with fail
        go_wp2_with fail
        by_cases hend : colOf C k + 1 < C
        · have d1 : decide ((C : Int) ≤ (colOf C k : Int) + 1) = false := by simp; omega
          obtain ⟨e1, e2⟩ := (next_place (k := k) hC1).1 hend
          have hk1 : Hid (k + 1 < R * C) := by
            have := place_lt (R := R) hrl hend
            have h9 := idx_row_col C (k + 1)
            simp only [idx, e1, e2, Int.toNat_natCast] at h9
            show k + 1 < R * C
            omega
          have E1 := Lib.hid e1
          have E2 := Lib.hid e2
          clear e1 e2
          go_quiet (fail)
          go_wp2_with fail
          obtain ⟨W4, hW4⟩ : ∃ W4, W4 = ((W3.setCell ⟨W.heap.size, 1, none⟩ (.int .i64 ((colOf C k : Int) + 1))).drewN nq).alloc (.cells #[.int .i32 y.g, .int .i64 y.a, .bool y.b, .int .i64 y.m] 36) := ⟨_, rfl⟩
          have hks : Kept (· = W.heap.size) W3 W4 := by rw [hW4]; exact ((Kept.set1 W3 _ _ _).drewN nq).alloc _
          have hT4 : TwoAt W4 W.heap.size (rowOf C (k + 1) : Int) (colOf C (k + 1) : Int) := by
            rw [E1.out, E2.out, hW4]
            exact ((hT3.set1 _).drewN nq).kept ((Kept.refl (fun _ => False) _).alloc _) (fun e => e)
          have hy4 : CelW W4 W3.heap.size y := by
            have := CelW.new ((W3.setCell ⟨W.heap.size, 1, none⟩ (.int .i64 ((colOf C k : Int) + 1))).drewN nq) y 36
            rw [hW4]
            simpa [World.setCell] using this
          rw [← hW4]
          clear hW4
          refine (at_in g t cap R C f _ _ _ (hg3.kept hks n3 n5) ?_).mono ?_
          · have := there_row_col hk1.out hC1
            rw [E1.out, E2.out] at this
            simpa using this
          have hfk : Hid (f (idx C (rowOf C k : Int) ((colOf C k : Int) + 1)) = f (k + 1)) := by
            have := idx_row_col C (k + 1)
            rw [E1.out, E2.out] at this
            rw [Int.natCast_add] at this
            exact congrArg f this
          rw [hfk.out]
          rintro e W5 ⟨rfl, hk5⟩
          have hT5 := hT4.kept hk5 (fun e => e)
          have hy5 := hy4.kept hk5 (fun e => e)
          have hks5 : Kept (· = W.heap.size) W3 W5 := hks.later hk5 (fun _ _ e => e.elim)
          have hl5 : W3.heap.size < W5.heap.size := hy5.lt
          have HT5 := Lib.hid hT5
          have HY5 := Lib.hid hy5
          obtain ⟨⟨x0, x1, x2, x3⟩, u0, u1, u2, u3⟩ := hy5
          clear hT4 hy4 hks hk5 t0 t1 t2 t3 g1 hT3 hT5 y0 y1 y2 y3 hy3
          go_wp2_with fail
          obtain ⟨W6, hW6⟩ : ∃ W6, W6 = ((((W5.setCell ⟨W3.heap.size, 0, none⟩ (.int .i32 (f (k + 1)).g)).setCell ⟨W3.heap.size, 1, none⟩ (.int .i64 (f (k + 1)).a)).setCell ⟨W3.heap.size, 2, none⟩ (.bool (f (k + 1)).b)).setCell ⟨W3.heap.size, 3, none⟩ (.int .i64 (f (k + 1)).m)) := ⟨_, rfl⟩
          have hy6 : CelW W6 W3.heap.size (f (k + 1)) := by rw [hW6]; exact HY5.out.set _
          have k6 : Kept (· = W3.heap.size) W5 W6 := by rw [hW6]; exact (Kept.refl (· = W3.heap.size) W5).setCel W3.heap.size 0 (Or.inr rfl) (f (k + 1))
          have hT6 := HT5.out.kept k6 (by omega)
          have hJ6 : J (k + 1) W6 := HJ.out _ _ _ hJ3 ((Kept.below hks5 (B := W.heap.size) (fun j hj => ⟨by omega, by omega⟩)).trans (Kept.below k6 (fun j hj => ⟨by omega, by omega⟩)))
          rw [← hW6]
          clear hW6
          go_roundw
          case rel => exact ⟨k + 1, W3.heap.size, f (k + 1), by omega, hT6, hJ6, rfl, hs3, hy6, fun _ => ⟨rfl, rfl⟩, fun e => by have := HN.out; have := hk1.out; omega⟩
          case measure =>
            rw [placeOf_eq hT6.c0 hT6.c1, idx_row_col]
            have := HPL.out
            omega
        · have d1 : decide ((C : Int) ≤ (colOf C k : Int) + 1) = true := by simp; omega
          obtain ⟨e1, e2⟩ := (next_place (k := k) hC1).2 (by omega)
          have E1 := Lib.hid e1
          have E2 := Lib.hid e2
          clear e1 e2
          go_quiet (fail)
          go_wp2_with fail
          obtain ⟨W4, hW4⟩ : ∃ W4, W4 = ((((W3.setCell ⟨W.heap.size, 1, none⟩ (.int .i64 ((colOf C k : Int) + 1))).drewN nq).setCell ⟨W.heap.size, 0, none⟩ (.int .i64 ((rowOf C k : Int) + 1))).setCell ⟨W.heap.size, 1, none⟩ (.int .i64 0)).alloc (.cells #[.int .i32 y.g, .int .i64 y.a, .bool y.b, .int .i64 y.m] 36) := ⟨_, rfl⟩
          have hks : Kept (· = W.heap.size) W3 W4 := by
            rw [hW4]
            exact ((((Kept.set1 W3 _ _ _).drewN nq).trans (Kept.set1 _ _ _ _)).trans (Kept.set1 _ _ _ _)).alloc _
          have hT4 : TwoAt W4 W.heap.size (rowOf C (k + 1) : Int) (colOf C (k + 1) : Int) := by
            rw [E1.out, E2.out, hW4]
            exact ((((hT3.set1 _).drewN nq).set0 _).set1 _).kept ((Kept.refl (fun _ => False) _).alloc _) (fun e => e)
          have hy4 : CelW W4 W3.heap.size y := by
            have := CelW.new ((((W3.setCell ⟨W.heap.size, 1, none⟩ (.int .i64 ((colOf C k : Int) + 1))).drewN nq).setCell ⟨W.heap.size, 0, none⟩ (.int .i64 ((rowOf C k : Int) + 1))).setCell ⟨W.heap.size, 1, none⟩ (.int .i64 0)) y 36
            rw [hW4]
            simpa [World.setCell] using this
          rw [← hW4]
          clear hW4
          have hg4 := hg3.kept hks n3 n5
          by_cases hlast : rowOf C k + 1 < R
          · have hk1 : Hid (k + 1 < R * C) := by
              have := place_lt (R := R) (C := C) (b := 0) hlast (by omega)
              have h9 := idx_row_col C (k + 1)
              simp only [idx, E1.out, E2.out, Int.toNat_natCast] at h9
              show k + 1 < R * C
              omega
            refine (at_in g t cap R C f _ _ _ hg4 ⟨by omega, by omega, by omega, by omega⟩).mono ?_
            have hfk : Hid (f (idx C ((rowOf C k : Int) + 1) 0) = f (k + 1)) := by
              have := idx_row_col C (k + 1)
              rw [E1.out, E2.out] at this
              rw [Int.natCast_add] at this
              exact congrArg f this
            rw [hfk.out]
            rintro e W5 ⟨rfl, hk5⟩
            have hT5 := hT4.kept hk5 (fun e => e)
            have hy5 := hy4.kept hk5 (fun e => e)
            have hks5 : Kept (· = W.heap.size) W3 W5 := hks.later hk5 (fun _ _ e => e.elim)
            have hl5 : W3.heap.size < W5.heap.size := hy5.lt
            have HT5 := Lib.hid hT5
            have HY5 := Lib.hid hy5
            obtain ⟨⟨x0, x1, x2, x3⟩, u0, u1, u2, u3⟩ := hy5
            clear hT4 hy4 hks hk5 t0 t1 t2 t3 g1 hT3 hT5 y0 y1 y2 y3 hy3
            go_wp2_with fail
            obtain ⟨W6, hW6⟩ : ∃ W6, W6 = ((((W5.setCell ⟨W3.heap.size, 0, none⟩ (.int .i32 (f (k + 1)).g)).setCell ⟨W3.heap.size, 1, none⟩ (.int .i64 (f (k + 1)).a)).setCell ⟨W3.heap.size, 2, none⟩ (.bool (f (k + 1)).b)).setCell ⟨W3.heap.size, 3, none⟩ (.int .i64 (f (k + 1)).m)) := ⟨_, rfl⟩
            have hy6 : CelW W6 W3.heap.size (f (k + 1)) := by rw [hW6]; exact HY5.out.set _
            have k6 : Kept (· = W3.heap.size) W5 W6 := by rw [hW6]; exact (Kept.refl (· = W3.heap.size) W5).setCel W3.heap.size 0 (Or.inr rfl) (f (k + 1))
            have hT6 := HT5.out.kept k6 (by omega)
            have hJ6 : J (k + 1) W6 := HJ.out _ _ _ hJ3 ((Kept.below hks5 (B := W.heap.size) (fun j hj => ⟨by omega, by omega⟩)).trans (Kept.below k6 (fun j hj => ⟨by omega, by omega⟩)))
            rw [← hW6]
            clear hW6
            go_roundw
            case rel => exact ⟨k + 1, W3.heap.size, f (k + 1), by omega, hT6, hJ6, rfl, hs3, hy6, fun _ => ⟨rfl, rfl⟩, fun e => by have := HN.out; have := hk1.out; omega⟩
            case measure =>
              rw [placeOf_eq hT6.c0 hT6.c1, idx_row_col]
              have := HPL.out
              omega
          · have hk1 : Hid (k + 1 = N) := by
              have h8 : rowOf C k + 1 = R := by omega
              have h9 := idx_row_col C (k + 1)
              simp only [idx, E1.out, E2.out, Int.toNat_natCast] at h9
              rw [h8] at h9
              show k + 1 = N
              rw [HN.out]
              omega
            refine (at_out g R C _ _ _ hg4.c0 hg4.c1 (fun h => by have := h.2.1; omega)).mono ?_
            rintro e W5 ⟨rfl, hk5⟩
            have hT5 := hT4.kept hk5 (fun e => e)
            have hy5 := hy4.kept hk5 (fun e => e)
            have hks5 : Kept (· = W.heap.size) W3 W5 := hks.later hk5 (fun _ _ e => e.elim)
            have hl5 : W3.heap.size < W5.heap.size := hy5.lt
            have HT5 := Lib.hid hT5
            have HY5 := Lib.hid hy5
            obtain ⟨⟨x0, x1, x2, x3⟩, u0, u1, u2, u3⟩ := hy5
            clear hT4 hy4 hks hk5 t0 t1 t2 t3 g1 hT3 hT5 y0 y1 y2 y3 hy3
            go_wp2_with fail
            obtain ⟨W6, hW6⟩ : ∃ W6, W6 = ((((W5.setCell ⟨W3.heap.size, 0, none⟩ (.int .i32 (zc).g)).setCell ⟨W3.heap.size, 1, none⟩ (.int .i64 (zc).a)).setCell ⟨W3.heap.size, 2, none⟩ (.bool (zc).b)).setCell ⟨W3.heap.size, 3, none⟩ (.int .i64 (zc).m)) := ⟨_, rfl⟩
            have hy6 : CelW W6 W3.heap.size (zc) := by rw [hW6]; exact HY5.out.set _
            have k6 : Kept (· = W3.heap.size) W5 W6 := by rw [hW6]; exact (Kept.refl (· = W3.heap.size) W5).setCel W3.heap.size 0 (Or.inr rfl) (zc)
            have hT6 := HT5.out.kept k6 (by omega)
            have hJ6 : J (k + 1) W6 := HJ.out _ _ _ hJ3 ((Kept.below hks5 (B := W.heap.size) (fun j hj => ⟨by omega, by omega⟩)).trans (Kept.below k6 (fun j hj => ⟨by omega, by omega⟩)))
            rw [← hW6]
            clear hW6
            go_roundw
            case rel => exact ⟨k + 1, W3.heap.size, zc, by omega, hT6, hJ6, rfl, hs3, hy6, fun e => by have := hk1.out; omega, fun _ => rfl⟩
            case measure =>
              rw [placeOf_eq hT6.c0 hT6.c1, idx_row_col]
              have := HPL.out
              omega
      · gi_wp2_with fail
        go_wp2_with fail
        refine bodyPost_ret (results_none rfl _ _ _) rfl ?_
        exact ⟨⟨_, rfl⟩, Or.inr ⟨k, by rw [← HN.out]; exact hlt, hJx3⟩⟩
    · have e : k = N := by omega
      obtain rfl := hhi e
      clear hlo hhi
      go_wp2_with fail
      go_end0
      rw [e, HN.out] at hJr
      exact ⟨⟨_, rfl⟩, Or.inl hJr⟩
end Go.Proofs.Ytkdnjkcebfckiaa
