/-
  Texts merged: WNums WLeaf Near Ahead Behind Count Ring Truth Step.
-/
import Derived.Test.YtlhajbcabpfbkaaGreatDoorMLo
import Derived.Deep.QuietTactic
import Derived.BigQuiet
import Derived.Deep.RegionHeld3
import Derived.StillTailTactics
/-
  Places as numbers. No program.
-/
namespace Go.Proofs.YtlhajbcabpfbkaaGreatDoor
open Go.RowKit

/-- May a size be? -/
def may (R C : Int) : Prop := 1 ≤ R ∧ R ≤ 255 ∧ 1 ≤ C ∧ C ≤ 255
instance (R C : Int) : Decidable (may R C) := inferInstanceAs (Decidable (1 ≤ R ∧ R ≤ 255 ∧ 1 ≤ C ∧ C ≤ 255))
theorem mayEyes {R C : Int} (h : may R C) : mayE R C = 0 := mayE_yes h
theorem mayEno {R C : Int} (h : ¬ may R C) : mayE R C = 10 := mayE_no h

/-- The number nearest to x from 0 to below n. -/
def nr (x n : Int) : Int := max 0 (min x (n - 1))
theorem nr_lo (x n : Int) : 0 ≤ nr x n := by unfold nr; omega
theorem nr_hi (x n : Int) (h : 1 ≤ n) : nr x n < n := by unfold nr; omega
theorem nr_in (x n : Int) (h0 : 0 ≤ x) (h1 : x < n) : nr x n = x := by unfold nr; omega
theorem nr_nr (x n : Int) (h : 1 ≤ n) : nr (nr x n) n = nr x n := nr_in _ _ (nr_lo x n) (nr_hi x n h)

/-- Near, one of the two numbers. -/
def nearR (R C r : Int) : Int := if may R C then nr r R else 0
def nearC (R C c : Int) : Int := if may R C then nr c C else 0
/-- A number that is cut to what can matter. -/
def cut (x m : Int) : Int := max (-m) (min x m)
/-- Step, one of the two numbers. -/
def stepN (x n k : Int) : Int := nr (nr x n + cut k 255) n

/-- Behind the last column: the next row. -/
def nextR (R r : Int) : Int := if R - 1 < r + 1 then R - 1 else r + 1

abbrev pos (r c : Int) : Value := .agg #[.int .i64 r, .int .i64 c]
abbrev place (r c : Int) (b : Bool) : Value := .agg #[.int .i64 r, .int .i64 c, .bool b]

theorem ret_pos {a b c d : Int} (h : a = c) (k : b = d) : Ending.returned (pos a b) = .returned (pos c d) := by rw [h, k]
/-- A block that holds two numbers. -/
structure Two (w : World) (b : Nat) (x y : Int) : Prop where
  c0 : w.cell? ⟨b, 0, none⟩ = some (.int .i64 x)
  c1 : w.cell? ⟨b, 1, none⟩ = some (.int .i64 y)
  f0 : w.frozen? ⟨b, 0, none⟩ = false
  f1 : w.frozen? ⟨b, 1, none⟩ = false
theorem Two.of {w : World} {b : Nat} {x y : Int} {t : TypeId} (h : w.heap[b]? = some (.cells #[.int .i64 x, .int .i64 y] t (0, 0))) : Two w b x y :=
  ⟨by simp [World.cell?, h], by simp [World.cell?, h], by simp [World.frozen?, h], by simp [World.frozen?, h]⟩
theorem Two.lt {w : World} {b : Nat} {x y : Int} (h : Two w b x y) : b < w.heap.size := World.block_lt_of_cell? w _ h.c0
theorem Two.kept {w w' : World} {b : Nat} {x y : Int} (h : Two w b x y) {S : Nat → Prop} (k : Kept S w w') (hs : ¬ S b) : Two w' b x y :=
  ⟨(k.cell h.lt hs).trans h.c0, (k.cell h.lt hs).trans h.c1, (k.frozen h.lt hs).trans h.f0, (k.frozen h.lt hs).trans h.f1⟩
theorem Two.kept0 {w w' : World} {b : Nat} {x y : Int} (h : Two w b x y) (k : Kept0 w w') : Two w' b x y := h.kept k (fun e => e)
theorem Two.set {w : World} {b : Nat} {x y : Int} (h : Two w b x y) (x' y' : Int) : Two ((w.setCell ⟨b, 0, none⟩ (.int .i64 x')).setCell ⟨b, 1, none⟩ (.int .i64 y')) b x' y' :=
  ⟨by simp [go_sem, h.c0], by simp [go_sem, h.c1], by simp [go_sem, h.f0], by simp [go_sem, h.f1]⟩

/-- A block that holds two numbers and a truth. -/
structure Three (w : World) (b : Nat) (x y : Int) (v : Bool) : Prop where
  c0 : w.cell? ⟨b, 0, none⟩ = some (.int .i64 x)
  c1 : w.cell? ⟨b, 1, none⟩ = some (.int .i64 y)
  c2 : w.cell? ⟨b, 2, none⟩ = some (.bool v)
  f0 : w.frozen? ⟨b, 0, none⟩ = false
  f1 : w.frozen? ⟨b, 1, none⟩ = false
  f2 : w.frozen? ⟨b, 2, none⟩ = false
theorem Three.of {w : World} {b : Nat} {x y : Int} {v : Bool} {t : TypeId} (h : w.heap[b]? = some (.cells #[.int .i64 x, .int .i64 y, .bool v] t (0, 0))) : Three w b x y v :=
  ⟨by simp [World.cell?, h], by simp [World.cell?, h], by simp [World.cell?, h], by simp [World.frozen?, h], by simp [World.frozen?, h], by simp [World.frozen?, h]⟩
theorem Three.lt {w : World} {b : Nat} {x y : Int} {v : Bool} (h : Three w b x y v) : b < w.heap.size := World.block_lt_of_cell? w _ h.c0
theorem Three.kept {w w' : World} {b : Nat} {x y : Int} {v : Bool} (h : Three w b x y v) {S : Nat → Prop} (k : Kept S w w') (hs : ¬ S b) : Three w' b x y v :=
  ⟨(k.cell h.lt hs).trans h.c0, (k.cell h.lt hs).trans h.c1, (k.cell h.lt hs).trans h.c2, (k.frozen h.lt hs).trans h.f0, (k.frozen h.lt hs).trans h.f1, (k.frozen h.lt hs).trans h.f2⟩
theorem Three.kept0 {w w' : World} {b : Nat} {x y : Int} {v : Bool} (h : Three w b x y v) (k : Kept0 w w') : Three w' b x y v := h.kept k (fun e => e)

theorem heap_newC (w : World) (o o' o'' : Obj) : (((w.alloc o).alloc o').alloc o'').heap[w.heap.size + 1 + 1]? = some o'' := by
  have := heap_new2 (w.alloc o) o' o''
  rwa [World.size_alloc] at this
theorem heap_old (w : World) (o : Obj) {b : Nat} {x : Obj} (h : w.heap[b]? = some x) : (w.alloc o).heap[b]? = some x := by
  have hb : b < w.heap.size := by
    rcases Nat.lt_or_ge b w.heap.size with h1 | h1
    · exact h1
    · rw [Array.getElem?_eq_none h1] at h; cases h
  rw [Below.heap_alloc _ _ _ hb]; exact h
theorem Kept.setOne (W : World) (b o : Nat) (v : Value) : Kept (· = b) W (W.setCell ⟨b, o, none⟩ v) :=
  Kept.setCell (S := (· = b)) (Kept.refl _ W) ⟨b, o, none⟩ (Or.inr rfl) v
theorem Kept.setOned (W : World) (b o : Nat) (v : Value) : Kept (· = b) W (W.setCell ⟨b, o, none⟩ v).drew := (Kept.setOne W b o v).drew
theorem Three.set0 {w : World} {b : Nat} {x y : Int} {v : Bool} (h : Three w b x y v) (x' : Int) : Three (w.setCell ⟨b, 0, none⟩ (.int .i64 x')) b x' y v :=
  ⟨by simp [go_sem, h.c0], by simp [go_sem, h.c1], by simp [go_sem, h.c2], by simp [go_sem, h.f0], by simp [go_sem, h.f1], by simp [go_sem, h.f2]⟩
theorem Three.set1 {w : World} {b : Nat} {x y : Int} {v : Bool} (h : Three w b x y v) (y' : Int) : Three (w.setCell ⟨b, 1, none⟩ (.int .i64 y')) b x y' v :=
  ⟨by simp [go_sem, h.c0], by simp [go_sem, h.c1], by simp [go_sem, h.c2], by simp [go_sem, h.f0], by simp [go_sem, h.f1], by simp [go_sem, h.f2]⟩
theorem Three.drew {w : World} {b : Nat} {x y : Int} {v : Bool} (h : Three w b x y v) : Three w.drew b x y v := h.kept0 ((Kept.refl _ w).drew)

end Go.Proofs.YtlhajbcabpfbkaaGreatDoor

/-
  What the small calls of walk do: bound, and the document's near.
-/
namespace Go.Proofs.YtlhajbcabpfbkaaGreatDoor
open Go.RowKit

set_option maxHeartbeats 400000 in
theorem wbound_any (n lo hi : Int) (w : World) :
    Calls Tryz.prog 55 #[.int .i64 n, .int .i64 lo, .int .i64 hi] w fun e w' => e = .returned (.int .i64 (max lo (min n hi))) ∧ w = w' := by
  go_enter Tryz.func55, Tryz.ntmps55
  go_wp2
  all_goals
    go_ret
    exact ⟨ret_int (by omega), rfl⟩


end Go.Proofs.YtlhajbcabpfbkaaGreatDoor

/-
  Near, of the package and of the document.
-/
namespace Go.Proofs.YtlhajbcabpfbkaaGreatDoor
open Go.RowKit

set_option maxHeartbeats 1000000 in
theorem near_any (R C r c : Int) (w : World) :
    Calls Tryz.prog 38 #[pos R C, pos r c] w fun e w' => e = .returned (pos (nearR R C r) (nearC R C c)) ∧ Kept0 w w' := by
  by_cases hm : may R C
  · have hq := mayEyes hm
    have h1 : nearR R C r = max 0 (min r (R - 1)) := if_pos hm
    have h2 : nearC R C c = max 0 (min c (C - 1)) := if_pos hm
    rw [h1, h2]
    have e1 : IntKind.i64.wrap (R - 1) = R - 1 := IntWalk.i64_in _ ⟨by have := hm.1; omega, by have := hm.2.1; omega⟩
    have e2 : IntKind.i64.wrap (C - 1) = C - 1 := IntWalk.i64_in _ ⟨by have := hm.2.2.1; omega, by have := hm.2.2.2; omega⟩
    clear h1 h2 hm
    go_enter Tryz.func38, Tryz.ntmps38
    go_wp2_with fail
    refine (may_any R C _).mono ?_
    rintro e w1 ⟨rfl, hk1⟩
    rw [hq]
    clear hq
    have hs : Two w1 w.heap.size R C := (Two.of (heap_old _ _ (heap_old _ _ (heap_new _ _)))).kept0 hk1
    have hp : Two w1 (w.heap.size + 1) r c := (Two.of (heap_old _ _ (heap_new2 _ _ _))).kept0 hk1
    have ho : Two w1 (w.heap.size + 1 + 1) 0 0 := (Two.of (heap_newC _ _ _ _)).kept0 hk1
    have hk : Kept0 w w1 := ((((Kept.refl _ w).alloc _).alloc _).alloc _).trans hk1
    obtain ⟨s0, s1, s2, s3⟩ := hs
    obtain ⟨p0, p1, p2, p3⟩ := hp
    obtain ⟨o0, o1, o2, o3⟩ := ho
    clear hk1
    have n1 : ¬ (w.heap.size = w.heap.size + 1 + 1) := by omega
    have n2 : ¬ (w.heap.size + 1 + 1 = w.heap.size) := by omega
    go_wp2_with fail
    go_region_held3 (fun w' => w'.cell? ⟨w.heap.size, 0, none⟩ = some (.int .i64 R) ∧ w'.cell? ⟨w.heap.size, 1, none⟩ = some (.int .i64 C) ∧ w'.cell? ⟨w.heap.size + 1, 0, none⟩ = some (.int .i64 r) ∧ w'.cell? ⟨w.heap.size + 1, 1, none⟩ = some (.int .i64 c)) (go_keep)
     (first | (go_at_call 55; refine (wbound_any _ _ _ _).mono ?_; rintro e w2 ⟨rfl, rfl⟩))
    go_wp2_with fail
    exact bodyPost_ret (v := pos (max 0 (min r (R - 1))) (max 0 (min c (C - 1)))) (by simp [results, Tryz.results38, go_sem, *]) rfl ⟨rfl, ((hk.setCell _ (Or.inl (Nat.le_add_right _ 2)) _).setCell _ (Or.inl (Nat.le_add_right _ 2)) _).drew⟩
  · have hq := mayEno hm
    have h1 : nearR R C r = 0 := if_neg hm
    have h2 : nearC R C c = 0 := if_neg hm
    rw [h1, h2]
    clear h1 h2 hm
    go_enter Tryz.func38, Tryz.ntmps38
    go_wp2_with fail
    refine (may_any R C _).mono ?_
    rintro e w1 ⟨rfl, hk1⟩
    rw [hq]
    clear hq
    have ho : Two w1 (w.heap.size + 1 + 1) 0 0 := (Two.of (heap_newC _ _ _ _)).kept0 hk1
    have hk : Kept0 w w1 := ((((Kept.refl _ w).alloc _).alloc _).alloc _).trans hk1
    obtain ⟨o0, o1, o2, o3⟩ := ho
    clear hk1
    go_wp2_with fail
    exact bodyPost_ret (v := pos 0 0) (by simp [results, Tryz.results38, go_sem, *]) rfl ⟨rfl, ((hk.setCell _ (Or.inl (Nat.le_add_right _ 2)) _).setCell _ (Or.inl (Nat.le_add_right _ 2)) _)⟩


end Go.Proofs.YtlhajbcabpfbkaaGreatDoor

/-
  Ahead, and the document's Next.
-/
namespace Go.Proofs.YtlhajbcabpfbkaaGreatDoor
open Go.RowKit

set_option maxHeartbeats 1000000 in
theorem ahead_plain (R C r c : Int) (w : World) :
    Calls Tryz.prog 115 #[pos R C, place r c false] w fun e w' => e = .returned (.tuple #[pos (nearR R C r) (nearC R C c), .bool false]) ∧ Kept0 w w' := by
  go_enter Tryz.func115, Tryz.ntmps115
  go_wp2_with fail
  refine (near_any _ _ _ _ _).mono ?_
  rintro e w1 ⟨rfl, hk1⟩
  have hs : Three w1 (w.heap.size + 1) r c false := (Three.of (heap_old _ _ (heap_new2 _ _ _))).kept0 hk1
  have ho : Two w1 (w.heap.size + 1 + 1) 0 0 := (Two.of (heap_newC _ _ _ _)).kept0 hk1
  have hk : Kept0 w w1 := ((((Kept.refl _ w).alloc _).alloc _).alloc _).trans hk1
  have hl := hs.lt
  have hl2 := ho.lt
  clear hk1
  obtain ⟨s0, s1, s2, s3, s4, s5⟩ := hs
  obtain ⟨o0, o1, o2, o3⟩ := ho
  go_wp2_with fail
  exact bodyPost_ret (v := .tuple #[pos (nearR R C r) (nearC R C c), .bool false]) (by simp [results, Tryz.results115, go_sem, *]) rfl ⟨rfl, ((hk.setCell _ (Or.inl (Nat.le_add_right _ 2)) _).setCell _ (Or.inl (Nat.le_add_right _ 2)) _).alloc _⟩

set_option maxHeartbeats 1000000 in
theorem ahead_pend (R C r c : Int) (hm : may R C) (w : World) :
    Calls Tryz.prog 115 #[pos R C, place r c true] w fun e w' => e = .returned (.tuple #[pos (nextR R (nr r R)) 0, .bool (nr r R == R - 1)]) ∧ Kept0 w w' := by
  have g1 : nearR R C r = nr r R := if_pos hm
  have g2 : nearC R C c = nr c C := if_pos hm
  have hq := mayEyes hm
  have e1 : IntKind.i64.wrap (nr r R + 1) = nr r R + 1 := IntWalk.i64_in _ (by have := nr_lo r R; have := nr_hi r R hm.1; have := hm.2.1; constructor <;> omega)
  have e2 : IntKind.i64.wrap (R - 1) = R - 1 := IntWalk.i64_in _ (by have := hm.1; have := hm.2.1; constructor <;> omega)
  have HQ := Lib.hid hq
  have HG1 := Lib.hid g1
  have HG2 := Lib.hid g2
  clear hq g1 g2 hm
  go_enter Tryz.func115, Tryz.ntmps115
  go_wp2_with fail
  refine (near_any _ _ _ _ _).mono ?_
  rintro e w1 ⟨rfl, hk1⟩
  rw [HG1.out, HG2.out]
  have hs0 : Two w1 w.heap.size R C := (Two.of (heap_old _ _ (heap_old _ _ (heap_new _ _)))).kept0 hk1
  have hs : Three w1 (w.heap.size + 1) r c true := (Three.of (heap_old _ _ (heap_new2 _ _ _))).kept0 hk1
  have ho : Two w1 (w.heap.size + 1 + 1) 0 0 := (Two.of (heap_newC _ _ _ _)).kept0 hk1
  have hk : Kept0 w w1 := ((((Kept.refl _ w).alloc _).alloc _).alloc _).trans hk1
  have hl := hs.lt
  have hl2 := ho.lt
  have hl3 := hs0.lt
  clear hk1
  obtain ⟨r0, r1, r2, r3⟩ := hs0
  obtain ⟨s0, s1, s2, s3, s4, s5⟩ := hs
  go_wp2_with fail
  refine (may_any _ _ _).mono ?_
  rintro e w2 ⟨rfl, hk2⟩
  rw [HQ.out]
  have hat : Two w2 w1.heap.size (nr r R) (nr c C) := (Two.of (heap_new _ _)).kept0 hk2
  have ka := ((Kept.refl (fun _ => False) w1).alloc _).trans hk2
  have hs0 : Two w2 w.heap.size R C := Two.kept0 ⟨r0, r1, r2, r3⟩ ka
  have ho := ho.kept0 ka
  have hk := hk.trans ka
  generalize w1.heap.size = at0 at *
  clear r0 r1 r2 r3 s0 s1 s2 s3 s4 s5 ka hk2
  obtain ⟨r0, r1, r2, r3⟩ := hs0
  obtain ⟨t0, t1, t2, t3⟩ := hat
  obtain ⟨o0, o1, o2, o3⟩ := ho
  go_wp2_with fail
  have n1 : ¬ (at0 = w.heap.size + 1 + 1) := by omega
  have n2 : ¬ (w.heap.size + 1 + 1 = at0) := by omega
  go_region_held3 (fun w' => w'.cell? ⟨at0, 0, none⟩ = some (.int .i64 (nr r R))) (go_keep) (fail)
  rw [show (if R - 1 < nr r R + 1 then R - 1 else nr r R + 1) = nextR R (nr r R) from rfl]
  go_wp2_with fail
  exact bodyPost_ret (v := .tuple #[pos (nextR R (nr r R)) 0, .bool (nr r R == R - 1)]) (by simp [results, Tryz.results115, go_sem, *]) rfl ⟨rfl, ((hk.setCell _ (Or.inl (Nat.le_add_right _ 2)) _).setCell _ (Or.inl (Nat.le_add_right _ 2)) _).drew⟩

set_option maxHeartbeats 1000000 in
/-- Of a size that may not be. -/
theorem ahead_no (R C r c : Int) (v : Bool) (hm : ¬ may R C) (w : World) :
    Calls Tryz.prog 115 #[pos R C, place r c v] w fun e w' => e = .returned (.tuple #[pos 0 0, .bool false]) ∧ Kept0 w w' := by
  have g1 : nearR R C r = 0 := if_neg hm
  have g2 : nearC R C c = 0 := if_neg hm
  cases v
  · refine (ahead_plain R C r c w).mono ?_
    rw [g1, g2]
    exact fun _ _ h => h
  · have HQ := Lib.hid (mayEno hm)
    clear hm
    go_enter Tryz.func115, Tryz.ntmps115
    go_wp2_with fail
    refine (near_any _ _ _ _ _).mono ?_
    rintro e w1 ⟨rfl, hk1⟩
    rw [g1, g2]
    have hs0 : Two w1 w.heap.size R C := (Two.of (heap_old _ _ (heap_old _ _ (heap_new _ _)))).kept0 hk1
    have hs : Three w1 (w.heap.size + 1) r c true := (Three.of (heap_old _ _ (heap_new2 _ _ _))).kept0 hk1
    have ho : Two w1 (w.heap.size + 1 + 1) 0 0 := (Two.of (heap_newC _ _ _ _)).kept0 hk1
    have hk : Kept0 w w1 := ((((Kept.refl _ w).alloc _).alloc _).alloc _).trans hk1
    have hl := hs.lt
    have hl2 := ho.lt
    have hl3 := hs0.lt
    clear hk1
    obtain ⟨r0, r1, r2, r3⟩ := hs0
    obtain ⟨s0, s1, s2, s3, s4, s5⟩ := hs
    go_wp2_with fail
    refine (may_any _ _ _).mono ?_
    rintro e w2 ⟨rfl, hk2⟩
    rw [HQ.out]
    have hat : Two w2 w1.heap.size 0 0 := (Two.of (heap_new _ _)).kept0 hk2
    have ka := ((Kept.refl (fun _ => False) w1).alloc _).trans hk2
    have ho := ho.kept0 ka
    have hk := hk.trans ka
    generalize w1.heap.size = at0 at *
    clear r0 r1 r2 r3 s0 s1 s2 s3 s4 s5 ka hk2
    obtain ⟨t0, t1, t2, t3⟩ := hat
    obtain ⟨o0, o1, o2, o3⟩ := ho
    go_wp2_with fail
    exact bodyPost_ret (v := .tuple #[pos 0 0, .bool false]) (by simp [results, Tryz.results115, go_sem, *]) rfl ⟨rfl, (hk.setCell _ (Or.inl (Nat.le_add_right _ 2)) _).setCell _ (Or.inl (Nat.le_add_right _ 2)) _⟩


end Go.Proofs.YtlhajbcabpfbkaaGreatDoor

/-
  Behind, of the package and of the document.
-/
namespace Go.Proofs.YtlhajbcabpfbkaaGreatDoor
open Go.RowKit

set_option maxHeartbeats 1000000 in
/-- Of a size that may not be. -/
theorem behind_no (R C r c k : Int) (hm : ¬ may R C) (w : World) :
    Calls Tryz.prog 117 #[pos R C, pos r c, .int .i64 k] w fun e w' => e = .returned (.tuple #[place 0 0 false, .bool false]) ∧ Kept0 w w' := by
  have HQ := Lib.hid (mayEno hm)
  clear hm
  go_enter Tryz.func117, Tryz.ntmps117
  go_wp2_with fail
  refine (may_any _ _ _).mono ?_
  rintro e w1 ⟨rfl, hk1⟩
  rw [HQ.out]
  have ho : Three w1 (w.heap.size + 1 + 1) 0 0 false := (Three.of (heap_newC _ _ _ _)).kept0 hk1
  have hk : Kept0 w w1 := ((((Kept.refl _ w).alloc _).alloc _).alloc _).trans hk1
  clear hk1
  obtain ⟨o0, o1, o2, o3, o4, o5⟩ := ho
  have q2 : w.heap.size ≤ w.heap.size + 1 + 1 := by omega
  go_wp2_with fail
  exact bodyPost_ret (v := .tuple #[place 0 0 false, .bool false]) (by simp [results, Tryz.results117, go_sem, *]) rfl ⟨rfl, ((hk.setCell _ (Or.inl q2) _).setCell _ (Or.inl q2) _).setCell _ (Or.inl q2) _⟩

/-- What Behind answers, by whether the last column is reached, and by the way to wrap. -/
def behindV (R p q : Int) (b b1 b2 : Bool) : Value :=
  if b then .tuple #[place p (q + 1) false, .bool false]
  else if b1 then .tuple #[place p q false, .bool false]
  else if b2 then .tuple #[place (nextR R p) 0 false, .bool (p == R - 1)]
  else .tuple #[place p q true, .bool false]

set_option maxHeartbeats 2000000 in
theorem behind_core (R C r c k : Int) (hm : may R C) (b b1 b2 : Bool) (h : decide (nr c C < C - 1) = b) (h1 : (k == 1) = b1) (h2 : (k == 2) = b2) (w : World) :
    Calls Tryz.prog 117 #[pos R C, pos r c, .int .i64 k] w fun e w' => e = .returned (behindV R (nr r R) (nr c C) b b1 b2) ∧ Kept0 w w' := by
  have HQ := Lib.hid (mayEyes hm)
  have HG1 := Lib.hid (show nearR R C r = nr r R from if_pos hm)
  have HG2 := Lib.hid (show nearC R C c = nr c C from if_pos hm)
  have HM := Lib.hid hm
  have e1 : IntKind.i64.wrap (C - 1) = C - 1 := IntWalk.i64_in _ (by have := hm.2.2.1; have := hm.2.2.2; constructor <;> omega)
  have e2 : IntKind.i64.wrap (nr c C + 1) = nr c C + 1 := IntWalk.i64_in _ (by have := nr_lo c C; have := nr_hi c C hm.2.2.1; have := hm.2.2.2; constructor <;> omega)
  clear hm
  go_enter Tryz.func117, Tryz.ntmps117
  go_wp2_with fail
  refine (may_any _ _ _).mono ?_
  rintro e w1 ⟨rfl, hk1⟩
  rw [HQ.out]
  have hs : Two w1 w.heap.size R C := (Two.of (heap_old _ _ (heap_old _ _ (heap_new _ _)))).kept0 hk1
  have hp : Two w1 (w.heap.size + 1) r c := (Two.of (heap_old _ _ (heap_new2 _ _ _))).kept0 hk1
  have ho : Three w1 (w.heap.size + 1 + 1) 0 0 false := (Three.of (heap_newC _ _ _ _)).kept0 hk1
  have hk : Kept0 w w1 := ((((Kept.refl _ w).alloc _).alloc _).alloc _).trans hk1
  clear hk1
  have g0 := hs.c0
  have g1 := hs.c1
  have g2 := hp.c0
  have g3 := hp.c1
  go_wp2_with fail
  refine (near_any _ _ _ _ _).mono ?_
  rintro e w2 ⟨rfl, hk2⟩
  rw [HG1.out, HG2.out]
  clear g0 g1 g2 g3
  have hs := hs.kept0 hk2
  have ho := ho.kept0 hk2
  have hk := hk.trans hk2
  have l1 := hs.lt
  have l2 := ho.lt
  clear hp hk2
  obtain ⟨s0, s1, s2, s3⟩ := hs
  obtain ⟨o0, o1, o2, o3, o4, o5⟩ := ho
  have q2 : w.heap.size ≤ w.heap.size + 1 + 1 := by omega
  have hA : ∀ o o', Three ((w2.alloc o).alloc o') (w.heap.size + 1 + 1) 0 0 false := fun o o' => Three.kept0 ⟨o0, o1, o2, o3, o4, o5⟩ (((Kept.refl _ w2).alloc o).alloc o')
  have u0 := fun o o' => (hA o o').c0
  have u1 := fun o o' => (hA o o').c1
  have u2 := fun o o' => (hA o o').c2
  have u3 := fun o o' => (hA o o').f0
  have u4 := fun o o' => (hA o o').f1
  have u5 := fun o o' => (hA o o').f2
  have hB : ∀ o o', Two ((w2.alloc o).alloc o') w.heap.size R C := fun o o' => Two.kept0 ⟨s0, s1, s2, s3⟩ (((Kept.refl _ w2).alloc o).alloc o')
  have u6 := fun o o' => (hB o o').c0
  have u7 := fun o o' => (hB o o').c1
  clear hA hB
  cases b
  · cases b1
    · cases b2
      · go_wp2_with fail
        exact bodyPost_ret (v := .tuple #[place (nr r R) (nr c C) true, .bool false]) (by simp [results, Tryz.results117, go_sem, *]) rfl ⟨rfl, ((((hk.alloc _).alloc _).setCell _ (Or.inl q2) _).setCell _ (Or.inl q2) _).setCell _ (Or.inl q2) _⟩
      · go_wp2_with fail
        refine (ahead_pend _ _ _ _ HM.out _).mono ?_
        rintro e w3 ⟨rfl, hk3⟩
        rw [nr_nr _ _ HM.out.1]
        have kk := (((Kept.refl (fun _ => False) w2).alloc _).alloc _).trans hk3
        have ho : Three w3 (w.heap.size + 1 + 1) 0 0 false := Three.kept0 ⟨o0, o1, o2, o3, o4, o5⟩ kk
        have hk := hk.trans kk
        have l3 := ho.lt
        clear o0 o1 o2 o3 o4 o5 s0 s1 s2 s3
        obtain ⟨o0, o1, o2, o3, o4, o5⟩ := ho
        go_wp2_with fail
        exact bodyPost_ret (v := .tuple #[place (nextR R (nr r R)) 0 false, .bool (nr r R == R - 1)]) (by simp [results, Tryz.results117, go_sem, *]) rfl ⟨rfl, (((hk.setCell _ (Or.inl q2) _).setCell _ (Or.inl q2) _).setCell _ (Or.inl q2) _).alloc _⟩
    · go_wp2_with fail
      exact bodyPost_ret (v := .tuple #[place (nr r R) (nr c C) false, .bool false]) (by simp [results, Tryz.results117, go_sem, *]) rfl ⟨rfl, ((((hk.alloc _).alloc _).setCell _ (Or.inl q2) _).setCell _ (Or.inl q2) _).setCell _ (Or.inl q2) _⟩
  · go_wp2_with fail
    exact bodyPost_ret (v := .tuple #[place (nr r R) (nr c C + 1) false, .bool false]) (by simp [results, Tryz.results117, go_sem, *]) rfl ⟨rfl, (((hk.setCell _ (Or.inl q2) _).setCell _ (Or.inl q2) _).setCell _ (Or.inl q2) _).alloc _⟩

/-- What the document's Behind answers. -/
def refBehindV (R p q : Int) (b b1 b2 : Bool) : Value :=
  if b then .tuple #[pos p (q + 1), .bool false, .bool false]
  else if b1 then .tuple #[pos p q, .bool false, .bool false]
  else if b2 then .tuple #[pos (nextR R p) 0, .bool false, .bool (p == R - 1)]
  else .tuple #[pos p q, .bool true, .bool false]


end Go.Proofs.YtlhajbcabpfbkaaGreatDoor

/-
  Index and Of.
-/
namespace Go.Proofs.YtlhajbcabpfbkaaGreatDoor
open Go.RowKit

set_option maxHeartbeats 1000000 in
/-- Of a size that may not be. -/
theorem index_no (R C r c : Int) (hm : ¬ may R C) (w : World) :
    Calls Tryz.prog 125 #[pos R C, pos r c] w fun e w' => e = .returned (.tuple #[.int .i64 0, .int .i64 10]) ∧ Kept0 w w' := by
  have HQ := Lib.hid (mayEno hm)
  clear hm
  go_enter Tryz.func125, Tryz.ntmps125
  go_wp2_with fail
  refine (may_any _ _ _).mono ?_
  rintro e w1 ⟨rfl, hk1⟩
  rw [HQ.out]
  go_wp2_with fail
  go_ret2
  exact ⟨rfl, (((Kept.refl _ w).alloc _).alloc _).trans hk1⟩

theorem mul_in' {R C r : Int} (h : nr r R = r) (hm : may R C) : 0 ≤ r * C ∧ r * C ≤ 255 * 255 := by
  have h0 : 0 ≤ r := by have := nr_lo r R; omega
  have h1 : r ≤ 255 := by have := nr_hi r R hm.1; have := hm.2.1; omega
  have h2 := hm.2.2.1
  have h3 := hm.2.2.2
  refine ⟨Int.mul_nonneg h0 (by omega), Int.mul_le_mul h1 h3 (by omega) (by omega)⟩
theorem mul_in {R C r : Int} (h : nr r R = r) (hm : may R C) : -9223372036854775808 ≤ r * C ∧ r * C ≤ 9223372036854775807 := by
  have := mul_in' h hm
  omega

/-- Which one a place is, or why none. -/
def indexV (b1 b2 : Bool) (x : Int) : Value := .tuple #[.int .i64 (if b1 && b2 then x else 0), .int .i64 (if b1 && b2 then 0 else 11)]

set_option maxHeartbeats 2000000 in
theorem index_core (R C r c : Int) (hm : may R C) (b1 b2 : Bool) (h1 : (nr r R == r) = b1) (h2 : (nr c C == c) = b2) (w : World) :
    Calls Tryz.prog 125 #[pos R C, pos r c] w fun e w' => e = .returned (indexV b1 b2 (r * C + c)) ∧ Kept0 w w' := by
  have HQ := Lib.hid (mayEyes hm)
  have HG1 := Lib.hid (show nearR R C r = nr r R from if_pos hm)
  have HG2 := Lib.hid (show nearC R C c = nr c C from if_pos hm)
  have HM := Lib.hid hm
  have H1 := Lib.hid h1
  have H2 := Lib.hid h2
  clear hm
  go_enter Tryz.func125, Tryz.ntmps125
  go_wp2_with fail
  refine (may_any _ _ _).mono ?_
  rintro e w1 ⟨rfl, hk1⟩
  rw [HQ.out]
  have hs : Two w1 w.heap.size R C := (Two.of (heap_old _ _ (heap_new _ _))).kept0 hk1
  have hp : Two w1 (w.heap.size + 1) r c := (Two.of (heap_new2 _ _ _)).kept0 hk1
  have hk : Kept0 w w1 := (((Kept.refl _ w).alloc _).alloc _).trans hk1
  clear hk1
  obtain ⟨s0, s1, s2, s3⟩ := hs
  obtain ⟨p0, p1, p2, p3⟩ := hp
  go_wp2_with fail
  cases b1
  · go_region_held3 (fun w' => w'.cell? ⟨w.heap.size, 0, none⟩ = some (.int .i64 R) ∧ w'.cell? ⟨w.heap.size, 1, none⟩ = some (.int .i64 C) ∧ w'.cell? ⟨w.heap.size + 1, 0, none⟩ = some (.int .i64 r) ∧ w'.cell? ⟨w.heap.size + 1, 1, none⟩ = some (.int .i64 c)) (go_keep)
     (first
       | (go_at_call 38; refine (near_any _ _ _ _ _).mono ?_; rintro e w2 ⟨rfl, hk2⟩; rw [HG1.out, HG2.out]; have z0 := kcell hk2 s0; have z1 := kcell hk2 s1; have z2 := kcell hk2 p0; have z3 := kcell hk2 p1))
    go_wp2_with fail
    go_ret2
    exact ⟨rfl, hk.drew.trans hk2⟩
  cases b2
  · go_region_held3 (fun w' => w'.cell? ⟨w.heap.size, 0, none⟩ = some (.int .i64 R) ∧ w'.cell? ⟨w.heap.size, 1, none⟩ = some (.int .i64 C) ∧ w'.cell? ⟨w.heap.size + 1, 0, none⟩ = some (.int .i64 r) ∧ w'.cell? ⟨w.heap.size + 1, 1, none⟩ = some (.int .i64 c)) (go_keep)
     (first
       | (go_at_call 38; refine (near_any _ _ _ _ _).mono ?_; rintro e w2 ⟨rfl, hk2⟩; rw [HG1.out, HG2.out]; have z0 := kcell hk2 s0; have z1 := kcell hk2 s1; have z2 := kcell hk2 p0; have z3 := kcell hk2 p1))
    go_wp2_with fail
    go_ret2
    exact ⟨rfl, hk.drew.trans hk2⟩
  · have hm := HM.out
    have q1 : nr r R = r := by simpa using H1.out
    have q2 : nr c C = c := by simpa using H2.out
    have e1 : IntKind.i64.wrap (r * C) = r * C := IntWalk.i64_in _ (mul_in q1 hm)
    have e2 : IntKind.i64.wrap (r * C + c) = r * C + c := IntWalk.i64_in _ (by have := mul_in' q1 hm; have := nr_lo c C; have := nr_hi c C hm.2.2.1; have := hm.2.2.2; constructor <;> omega)
    clear q1 q2 hm
    go_region_held3 (fun w' => w'.cell? ⟨w.heap.size, 0, none⟩ = some (.int .i64 R) ∧ w'.cell? ⟨w.heap.size, 1, none⟩ = some (.int .i64 C) ∧ w'.cell? ⟨w.heap.size + 1, 0, none⟩ = some (.int .i64 r) ∧ w'.cell? ⟨w.heap.size + 1, 1, none⟩ = some (.int .i64 c)) (go_keep)
     (first
       | (go_at_call 38; refine (near_any _ _ _ _ _).mono ?_; rintro e w2 ⟨rfl, hk2⟩; rw [HG1.out, HG2.out]; have z0 := kcell hk2 s0; have z1 := kcell hk2 s1; have z2 := kcell hk2 p0; have z3 := kcell hk2 p1))
    go_wp2_with fail
    go_ret2
    exact ⟨rfl, hk.drew.trans hk2⟩

set_option maxHeartbeats 1000000 in
/-- Of a size that may not be. -/
theorem of_no (R C n : Int) (hm : ¬ may R C) (w : World) :
    Calls Tryz.prog 126 #[pos R C, .int .i64 n] w fun e w' => e = .returned (.tuple #[pos 0 0, .int .i64 10]) ∧ Kept0 w w' := by
  have HQ := Lib.hid (mayEno hm)
  clear hm
  go_enter Tryz.func126, Tryz.ntmps126
  go_wp2_with fail
  refine (may_any _ _ _).mono ?_
  rintro e w1 ⟨rfl, hk1⟩
  rw [HQ.out]
  have ho : Two w1 (w.heap.size + 1) 0 0 := (Two.of (heap_new2 _ _ _)).kept0 hk1
  have hk : Kept0 w w1 := (((Kept.refl _ w).alloc _).alloc _).trans hk1
  clear hk1
  obtain ⟨o0, o1, o2, o3⟩ := ho
  go_wp2_with fail
  exact bodyPost_ret (v := .tuple #[pos 0 0, .int .i64 10]) (by simp [results, Tryz.results126, go_sem, *]) rfl ⟨rfl, (hk.setCell _ (Or.inl (Nat.le_add_right _ 1)) _).setCell _ (Or.inl (Nat.le_add_right _ 1)) _⟩

theorem area_in {R C : Int} (hm : may R C) : 1 ≤ R * C ∧ R * C ≤ 255 * 255 := by
  have h0 := hm.1
  have h1 := hm.2.1
  have h2 := hm.2.2.1
  have h3 := hm.2.2.2
  have h4 : 1 * 1 ≤ R * C := Int.mul_le_mul h0 h2 (by omega) (by omega)
  exact ⟨by omega, Int.mul_le_mul h1 h3 (by omega) (by omega)⟩

/-- The place of a number, or why none. -/
def ofV (b1 b2 : Bool) (x y : Int) : Value := .tuple #[pos (if b1 || b2 then 0 else x) (if b1 || b2 then 0 else y), .int .i64 (if b1 || b2 then 11 else 0)]

set_option maxHeartbeats 2000000 in
theorem of_core (R C n : Int) (hm : may R C) (b1 b2 : Bool) (h1 : decide (n < 0) = b1) (h2 : decide (R * C ≤ n) = b2) (w : World) :
    Calls Tryz.prog 126 #[pos R C, .int .i64 n] w fun e w' => e = .returned (ofV b1 b2 (n / C) (n % C)) ∧ Kept0 w w' := by
  have HQ := Lib.hid (mayEyes hm)
  have HM := Lib.hid hm
  have H1 := Lib.hid h1
  have H2 := Lib.hid h2
  have e1 : IntKind.i64.wrap (R * C) = R * C := IntWalk.i64_in _ (by have := area_in hm; constructor <;> omega)
  have n0 : ¬ (C = 0) := by have := hm.2.2.1; omega
  clear hm
  go_enter Tryz.func126, Tryz.ntmps126
  go_wp2_with fail
  refine (may_any _ _ _).mono ?_
  rintro e w1 ⟨rfl, hk1⟩
  rw [HQ.out]
  have hs : Two w1 w.heap.size R C := (Two.of (heap_old _ _ (heap_new _ _))).kept0 hk1
  have ho : Two w1 (w.heap.size + 1) 0 0 := (Two.of (heap_new2 _ _ _)).kept0 hk1
  have hk : Kept0 w w1 := (((Kept.refl _ w).alloc _).alloc _).trans hk1
  clear hk1
  obtain ⟨s0, s1, s2, s3⟩ := hs
  obtain ⟨o0, o1, o2, o3⟩ := ho
  cases b1
  · cases b2
    · have f1 : 0 ≤ n := by simpa using h1
      have f2 : n < R * C := by simpa using h2
      have hm := HM.out
      have f3 := area_in hm
      have d1 : IntKind.i64.wrap (n.tdiv C) = n / C := by
        rw [Int.tdiv_eq_ediv_of_nonneg f1]
        have g1 : 0 ≤ n / C := Int.ediv_nonneg f1 (by have := hm.2.2.1; omega)
        have g2 : n / C ≤ n := Int.ediv_le_self _ f1
        exact IntWalk.i64_in _ (by constructor <;> omega)
      have d2 : n.tmod C = n % C := Int.tmod_eq_emod_of_nonneg f1
      have DD1 := Lib.hid d1
      have DD2 := Lib.hid d2
      clear f1 f2 f3 hm d1 d2
      go_wp2_with fail
      go_region_held3 (fun w' => w'.cell? ⟨w.heap.size, 0, none⟩ = some (.int .i64 R) ∧ w'.cell? ⟨w.heap.size, 1, none⟩ = some (.int .i64 C)) (go_keep) (fail)
      rw [DD1.out, DD2.out]
      go_wp2_with fail
      exact bodyPost_ret (v := .tuple #[pos (n / C) (n % C), .int .i64 0]) (by simp [results, Tryz.results126, go_sem, *]) rfl ⟨rfl, ((hk.setCell _ (Or.inl (Nat.le_add_right _ 1)) _).setCell _ (Or.inl (Nat.le_add_right _ 1)) _).drew⟩
    · go_wp2_with fail
      exact bodyPost_ret (v := .tuple #[pos 0 0, .int .i64 11]) (by simp [results, Tryz.results126, go_sem, *]) rfl ⟨rfl, (hk.setCell _ (Or.inl (Nat.le_add_right _ 1)) _).setCell _ (Or.inl (Nat.le_add_right _ 1)) _⟩
  · go_wp2_with fail
    exact bodyPost_ret (v := .tuple #[pos 0 0, .int .i64 11]) (by simp [results, Tryz.results126, go_sem, *]) rfl ⟨rfl, (hk.setCell _ (Or.inl (Nat.le_add_right _ 1)) _).setCell _ (Or.inl (Nat.le_add_right _ 1)) _⟩

end Go.Proofs.YtlhajbcabpfbkaaGreatDoor

/-
  Places that are gone round by, one behind the other; the first one that is not guarded. No program.
-/
namespace Go.Proofs.YtlhajbcabpfbkaaGreatDoor
open Go.RowKit

/-- The place that is i steps behind the k-th one (or ahead of it), of N, going round. -/
def stp (N : Nat) (b : Bool) (k i : Nat) : Nat := if b = true then (k + N - i) % N else (k + i) % N

theorem stp_lt {N k i : Nat} {b : Bool} (h : 0 < N) : stp N b k i < N := by
  unfold stp; split <;> exact Nat.mod_lt _ h
theorem stp_zero {N k : Nat} {b : Bool} (h : k < N) : stp N b k 0 = k := by
  unfold stp
  split
  · rw [Nat.sub_zero, Nat.add_mod_right]; exact Nat.mod_eq_of_lt h
  · exact Nat.mod_eq_of_lt h
theorem stp_next {N k i : Nat} {b : Bool} (hk : k < N) (hi : i < N) : stp N b (stp N b k i) 1 = stp N b k (i + 1) := by
  unfold stp
  cases b
  · simp only [Bool.false_eq_true, if_false]
    rw [Nat.mod_add_mod, Nat.add_assoc]
  · simp only [if_true]
    by_cases h : i ≤ k
    · rw [show k + N - i = (k - i) + N by omega, Nat.add_mod_right, Nat.mod_eq_of_lt (show k - i < N by omega), show k - i + N - 1 = k + N - (i + 1) by omega]
    · rw [Nat.mod_eq_of_lt (show k + N - i < N by omega), show k + N - i + N - 1 = (k + N - (i + 1)) + N by omega, Nat.add_mod_right]
theorem stp_any {N k x : Nat} (b : Bool) (hk : k < N) (hx : x < N) : ∃ i, i < N ∧ stp N b k i = x := by
  unfold stp
  cases b
  · simp only [Bool.false_eq_true, if_false]
    by_cases h : k ≤ x
    · exact ⟨x - k, by omega, by rw [show k + (x - k) = x by omega]; exact Nat.mod_eq_of_lt hx⟩
    · exact ⟨x + N - k, by omega, by rw [show k + (x + N - k) = x + N by omega, Nat.add_mod_right]; exact Nat.mod_eq_of_lt hx⟩
  · simp only [if_true]
    by_cases h : x ≤ k
    · exact ⟨k - x, by omega, by rw [show k + N - (k - x) = x + N by omega, Nat.add_mod_right]; exact Nat.mod_eq_of_lt hx⟩
    · exact ⟨k + N - x, by omega, by rw [show k + N - (k + N - x) = x by omega]; exact Nat.mod_eq_of_lt hx⟩

/-- The first number from i on, of m, with p. -/
def seekN (p : Nat → Bool) : Nat → Nat → Option Nat
  | 0, _ => none
  | m + 1, i => if p i = true then some i else seekN p m (i + 1)

theorem seekN_yes {p : Nat → Bool} {m i : Nat} (h : p i = true) : seekN p (m + 1) i = some i := by
  simp [seekN, h]
theorem seekN_no {p : Nat → Bool} {m i : Nat} (h : p i = false) : seekN p (m + 1) i = seekN p m (i + 1) := by
  simp [seekN, h]
theorem seekN_some {p : Nat → Bool} : ∀ {m i j : Nat}, seekN p m i = some j → i ≤ j ∧ j < i + m ∧ p j = true
  | 0, i, j, h => by simp [seekN] at h
  | m + 1, i, j, h => by
    by_cases hp : p i = true
    · rw [seekN_yes hp] at h
      cases h
      exact ⟨by omega, by omega, hp⟩
    · rw [seekN_no (by simpa using hp)] at h
      obtain ⟨h1, h2, h3⟩ := seekN_some h
      exact ⟨by omega, by omega, h3⟩
theorem seekN_none {p : Nat → Bool} : ∀ {m i : Nat}, seekN p m i = none → ∀ j, i ≤ j → j < i + m → p j = false
  | 0, i, h, j, h1, h2 => by omega
  | m + 1, i, h, j, h1, h2 => by
    by_cases hp : p i = true
    · rw [seekN_yes hp] at h; cases h
    · have hp' : p i = false := by simpa using hp
      rw [seekN_no hp'] at h
      by_cases e : j = i
      · rw [e]; exact hp'
      · exact seekN_none h j (by omega) (by omega)

/-- Is the i-th place on the way not guarded? -/
def openP (N : Nat) (b : Bool) (k : Nat) (f : Nat → Cel) (i : Nat) : Bool := !(f (stp N b k i)).b
/-- The first place that is not guarded, from the k-th one on (or back). -/
def freeK (N : Nat) (b : Bool) (k : Nat) (f : Nat → Cel) : Option Nat := (seekN (openP N b k f) N 0).map (stp N b k)

theorem freeK_some {N k x : Nat} {b : Bool} {f : Nat → Cel} (h : freeK N b k f = some x) : x < N ∧ (f x).b = false := by
  unfold freeK at h
  cases hs : seekN (openP N b k f) N 0 with
  | none => rw [hs] at h; cases h
  | some i =>
    rw [hs] at h
    obtain ⟨h1, h2, h3⟩ := seekN_some hs
    have hx : stp N b k i = x := by simpa using h
    rw [← hx]
    exact ⟨stp_lt (by omega), by simpa [openP] using h3⟩
theorem freeK_none {N k : Nat} {b : Bool} {f : Nat → Cel} (hk : k < N) (h : freeK N b k f = none) (x : Nat) (hx : x < N) : (f x).b = true := by
  unfold freeK at h
  cases hs : seekN (openP N b k f) N 0 with
  | some i => rw [hs] at h; cases h
  | none =>
    obtain ⟨i, hi, rfl⟩ := stp_any b hk hx
    have := seekN_none hs i (by omega) (by omega)
    simpa [openP] using this
theorem freeK_self {N k : Nat} {b : Bool} {f : Nat → Cel} (hk : k < N) (h : (f k).b = false) : freeK N b k f = some k := by
  unfold freeK
  obtain ⟨m, rfl⟩ : ∃ m, N = m + 1 := ⟨N - 1, by omega⟩
  have hp : openP (m + 1) b k f 0 = true := by unfold openP; rw [stp_zero hk, h]; rfl
  rw [seekN_yes hp]
  simp [stp_zero hk]
theorem freeK_congr {N k : Nat} {b : Bool} {f f' : Nat → Cel} (hN : 0 < N) (h : ∀ x, x < N → (f x).b = (f' x).b) : freeK N b k f = freeK N b k f' := by
  have : openP N b k f = openP N b k f' := by
    funext i
    unfold openP
    rw [h _ (stp_lt hN)]
  unfold freeK
  rw [this]

/-- Which one the place nearest to (r, c) is. -/
def st (R C : Nat) (r c : Int) : Nat := idx C (nr r R) (nr c C)
theorem st_there {R C : Nat} {r c : Int} (hR : 1 ≤ R) (hC : 1 ≤ C) : There R C (nr r R) (nr c C) :=
  ⟨nr_lo _ _, nr_hi _ _ (by omega), nr_lo _ _, nr_hi _ _ (by omega)⟩
theorem st_lt {R C : Nat} {r c : Int} (hR : 1 ≤ R) (hC : 1 ≤ C) : st R C r c < R * C := idx_lt (st_there hR hC)
theorem st_in {R C : Nat} {r c : Int} (h : There R C r c) : st R C r c = idx C r c := by
  unfold st; rw [nr_in _ _ h.1 h.2.1, nr_in _ _ h.2.2.1 h.2.2.2]

end Go.Proofs.YtlhajbcabpfbkaaGreatDoor

/-
  A cell that holds a truth. No program.
-/
namespace Go.Proofs.YtlhajbcabpfbkaaGreatDoor
open Go.RowKit

theorem heap_new3 (w : World) (o o' o'' : Obj) : (((w.alloc o).alloc o').alloc o'').heap[w.heap.size + 2]? = some o'' := by
  have := heap_new2 (w.alloc o) o' o''
  rwa [World.size_alloc] at this

/-- A cell that holds a truth. -/
structure BoolAt (w : World) (b : Nat) (v : Bool) : Prop where
  c : w.cell? ⟨b, 0, none⟩ = some (.bool v)
  f : w.frozen? ⟨b, 0, none⟩ = false
theorem BoolAt.of {w : World} {b : Nat} {v : Bool} {t : TypeId} (h : w.heap[b]? = some (.cells #[.bool v] t (0, 0))) : BoolAt w b v := ⟨by simp [World.cell?, h], by simp [World.frozen?, h]⟩
theorem BoolAt.lt {w : World} {b : Nat} {v : Bool} (h : BoolAt w b v) : b < w.heap.size := World.block_lt_of_cell? w _ h.c
theorem BoolAt.kept {w w' : World} {b : Nat} {v : Bool} (h : BoolAt w b v) {S : Nat → Prop} (k : Kept S w w') (hs : ¬ S b) : BoolAt w' b v :=
  ⟨(k.cell h.lt hs).trans h.c, (k.frozen h.lt hs).trans h.f⟩
theorem BoolAt.set {w : World} {b : Nat} {v : Bool} (h : BoolAt w b v) (v' : Bool) : BoolAt (w.setCell ⟨b, 0, none⟩ (.bool v')) b v' :=
  ⟨by simp [go_sem, h.c], by simp [go_sem, h.f]⟩

end Go.Proofs.YtlhajbcabpfbkaaGreatDoor

/-
  Step, of the package and of the document.
-/
namespace Go.Proofs.YtlhajbcabpfbkaaGreatDoor
open Go.RowKit

theorem Kept.set1d (W : World) (b o : Nat) (v : Value) : Kept (· = b) W (W.setCell ⟨b, o, none⟩ v).drew := (Kept.setCell (S := (· = b)) (Kept.refl _ W) ⟨b, o, none⟩ (Or.inr rfl) v).drew

theorem cut_in (x m : Int) (h : 0 ≤ m) : -m ≤ cut x m ∧ cut x m ≤ m := by unfold cut; omega


theorem nearR_in (R C r : Int) : 0 ≤ nearR R C r ∧ nearR R C r ≤ 254 := by
  unfold nearR
  split
  · rename_i h
    have := nr_lo r R
    have := nr_hi r R h.1
    have := h.2.1
    omega
  · omega
theorem nearC_in (R C r : Int) : 0 ≤ nearC R C r ∧ nearC R C r ≤ 254 := by
  unfold nearC
  split
  · rename_i h
    have := nr_lo r C
    have := nr_hi r C h.2.2.1
    have := h.2.2.2
    omega
  · omega
theorem boundC_any (n : Int) (w : World) :
    Calls Tryz.prog 55 #[.int .i64 n, .int .i64 (-255), .int .i64 255] w fun e w' => e = .returned (.int .i64 (cut n 255)) ∧ w = w' := wbound_any n (-255) 255 w

theorem boundS_any (n : Int) (w : World) :
    Calls Tryz.prog 55 #[.int .i64 n, .int .i64 (-255), .int .i64 255] w fun e w' => e = .returned (.int .i64 (cut n 255)) ∧ w' = w := (wbound_any n (-255) 255 w).mono fun _ _ ⟨h, k⟩ => ⟨h, k.symm⟩

set_option maxRecDepth 100000 in
set_option maxHeartbeats 1000000 in
set_option maxRecDepth 100000 in
theorem step_any (R C r c a b : Int) (v : Bool) (w : World) :
    Calls Tryz.prog 106 #[pos R C, place r c v, .int .i64 a, .int .i64 b] w fun e w' => e = .returned (place (nearR R C (nearR R C r + cut a 255)) (nearC R C (nearC R C c + cut b 255)) false) ∧ Kept0 w w' := by
  obtain ⟨A, hA⟩ : ∃ A, A = nearR R C r + cut a 255 := ⟨_, rfl⟩
  obtain ⟨B, hB⟩ : ∃ B, B = nearC R C c + cut b 255 := ⟨_, rfl⟩
  have e1 : IntKind.i64.wrap (nearR R C r + cut a 255) = A := by rw [hA]; exact IntWalk.i64_in _ (by have := cut_in a 255 (by omega); have := nearR_in R C r; constructor <;> omega)
  have e2 : IntKind.i64.wrap (nearC R C c + cut b 255) = B := by rw [hB]; exact IntWalk.i64_in _ (by have := cut_in b 255 (by omega); have := nearC_in R C c; constructor <;> omega)
  rw [← hA, ← hB]
  clear hA hB
  go_enter Tryz.func106, Tryz.ntmps106
  go_wp2_with fail
  refine (near_any _ _ _ _ _).mono ?_
  rintro e w1 ⟨rfl, hk1⟩
  have hs : Two w1 w.heap.size R C := (Two.of (heap_old _ _ (heap_old _ _ (heap_new _ _)))).kept0 hk1
  have ho : Three w1 (w.heap.size + 1 + 1) 0 0 false := (Three.of (heap_new3 _ _ _ _)).kept0 hk1
  have hk : Kept0 w w1 := ((((Kept.refl _ w).alloc _).alloc _).alloc _).trans hk1
  have hz := hk1.size
  simp only [World.size_alloc] at hz
  clear hk1
  generalize nearR R C r = p at *
  generalize nearC R C c = q at *
  go_wp2_with fail
  have hl := ho.lt
  have hl2 := hs.lt
  have hs := hs.kept0 ((Kept.refl _ w1).alloc (Obj.cells #[Value.int IntKind.i64 p, Value.int IntKind.i64 q, Value.bool false] 85))
  have ho := ho.kept0 ((Kept.refl _ w1).alloc (Obj.cells #[Value.int IntKind.i64 p, Value.int IntKind.i64 q, Value.bool false] 85))
  have hat : Three (w1.alloc (Obj.cells #[Value.int IntKind.i64 p, Value.int IntKind.i64 q, Value.bool false] 85)) w1.heap.size p q false := Three.of (heap_new _ _)
  have hk := hk.alloc (Obj.cells #[Value.int IntKind.i64 p, Value.int IntKind.i64 q, Value.bool false] 85)
  generalize (w1.alloc (Obj.cells #[Value.int IntKind.i64 p, Value.int IntKind.i64 q, Value.bool false] 85)) = W at *
  generalize w1.heap.size = at0 at *
  obtain ⟨t0, t1, t2, t3, t4, t5⟩ := hat
  go_still_tail 8, (by kernel_rfl)
  still_call (boundS_any a _)
  repeat still_step
  refine wpStill_nil ?_
  change wpList _ _ _ _ _ W.drew
  go_wp2_with fail
  have n1 : ¬ (at0 = w.heap.size) := by omega
  have n2 : ¬ (w.heap.size = at0) := by omega
  have n3 : ¬ (at0 = w.heap.size + 1 + 1) := by omega
  have n4 : ¬ (w.heap.size + 1 + 1 = at0) := by omega
  have kw := Kept.set1d W at0 0 (Value.int IntKind.i64 A)
  have hs := hs.kept kw n2
  have ho := ho.kept kw n4
  have hat := (Three.set0 (show Three W at0 p q false from ⟨t0, t1, t2, t3, t4, t5⟩) A).drew
  have hk := hk.later kw (fun i hi e => by omega)
  clear t0 t1 t2 t3 t4 t5 kw
  generalize (W.setCell ⟨at0, 0, none⟩ (Value.int IntKind.i64 A)).drew = W2 at *
  obtain ⟨t0, t1, t2, t3, t4, t5⟩ := hat
  go_still_tail 8, (by kernel_rfl)
  still_call (boundS_any b _)
  repeat still_step
  refine wpStill_nil ?_
  change wpList _ _ _ _ _ W2.drew
  obtain ⟨s0, s1, _, _⟩ := hs
  go_wp2_with fail
  have hs : Two W2 w.heap.size R C := ⟨s0, s1, by assumption, by assumption⟩
  have kw := Kept.set1d W2 at0 1 (Value.int IntKind.i64 B)
  have hs := hs.kept kw n2
  have ho := ho.kept kw n4
  have hat := (Three.set1 (show Three W2 at0 A q false from ⟨t0, t1, t2, t3, t4, t5⟩) B).drew
  have hk := hk.later kw (fun i hi e => by omega)
  clear t0 t1 t2 t3 t4 t5 kw
  refine (near_any _ _ _ _ _).mono ?_
  rintro e w5 ⟨rfl, hk5⟩
  have ho := ho.kept0 hk5
  have hat := hat.kept0 hk5
  have hk := hk.trans hk5
  clear hk5
  obtain ⟨t0, t1, t2, t3, t4, t5⟩ := hat
  obtain ⟨o0, o1, o2, o3, o4, o5⟩ := ho
  go_wp2_with fail
  have q1 : w.heap.size ≤ at0 := by omega
  have q2 : w.heap.size ≤ w.heap.size + 1 + 1 := by omega
  exact bodyPost_ret (v := place (nearR R C A) (nearC R C B) false) (by simp [results, Tryz.results106, go_sem, *]) rfl ⟨rfl, ((((hk.setCell ⟨at0, 0, none⟩ (Or.inl q1) _).setCell ⟨at0, 1, none⟩ (Or.inl q1) _).setCell ⟨w.heap.size + 1 + 1, 0, none⟩ (Or.inl q2) _).setCell ⟨w.heap.size + 1 + 1, 1, none⟩ (Or.inl q2) _).setCell ⟨w.heap.size + 1 + 1, 2, none⟩ (Or.inl q2) _⟩

end Go.Proofs.YtlhajbcabpfbkaaGreatDoor
