/-
  What At and Set do, and New.
-/
import Derived.Test.YtekjjnfbahmjcaaLeaf
import Derived.Deep.RegionHeld3
import Derived.StillTailTactics
import Derived.Deep.OwnRows
import Derived.BigRegion
namespace Go.Proofs.Ytekjjnfbahmjcaa
open Go.RowKit

set_option maxHeartbeats 400000 in
theorem at_in (g t cap R C : Nat) (f : Nat → Int) (r c : Int) (w : World) (hg : GridAt w g t cap R C f) (hth : There R C r c) :
    Calls Try.prog 27 #[.pointer (some ⟨g, 0, none⟩), .agg #[.int .i64 r, .int .i64 c]] w fun e w' => e = .returned (.tuple #[.int .i64 (f (idx C r c)), .int .i64 0]) ∧ Kept0 w w' := by
  have hR2 := hg.R2
  have hC2 := hg.C2
  have hlt := idx_lt hth
  obtain ⟨N, hN⟩ : ∃ N, N = R * C := ⟨_, rfl⟩
  rw [← hN] at hlt
  obtain ⟨hr0, hr1, hc0, hc1⟩ := hth
  have hgl := hg.lt
  have c0 := hg.c0
  have c1 := hg.c1
  have c2 := hg.c2
  rw [← hN] at c2
  have hrow := hg.row.cell (k := idx C r c) (by omega)
  have HN := Lib.hid hN
  have htl := hg.row.lt
  clear hN
  go_enter Try.func27, Try.ntmps27
  go_wp2_with fail
  refine (check_in g _ _ R C _ ?_ ?_ hr0 hr1 hc0 hc1).mono ?_
  · simp [go_sem, hgl, c0]
  · simp [go_sem, hgl, c1]
  rintro e w1 ⟨rfl, hk1⟩
  have hs1 : w.heap.size < w1.heap.size := by have := hk1.size; simp at this; omega
  have k0 := hk1.cell (b := w.heap.size) (o := 0) (by simp) (fun e => e)
  have k1 := hk1.cell (b := w.heap.size) (o := 1) (by simp) (fun e => e)
  have kk : Kept0 w w1 := ((Kept.refl _ w).alloc _).later hk1 (fun _ _ e => e)
  have j1 := (kk.cell (o := 1) hgl (fun e => e)).trans c1
  have j2 := (kk.cell (o := 2) hgl (fun e => e)).trans c2
  have jr := (kk.cell (o := idx C r c) htl (fun e => e)).trans hrow
  have hgl1 : g < w1.heap.size := by omega
  have htl1 : t < w1.heap.size := by omega
  simp at k0 k1
  clear c0 c1 c2 hrow
  go_wp2_with fail
  go_region_held3 (fun w' => w'.cell? ⟨g, 2, none⟩ = some (Value.slice (some ⟨t, 0, none⟩) N cap) ∧ w'.cell? ⟨w.heap.size, 0, none⟩ = some (.int .i64 r) ∧ w'.cell? ⟨w.heap.size, 1, none⟩ = some (.int .i64 c) ∧ w'.cell? ⟨t, idx C r c, none⟩ = some (.int .i64 (f (idx C r c)))) (go_keep)
    (first
      | (go_at_call 42; refine (index_at g _ _ C _ ?_ hr0 (by omega) hc0 (by omega) (by omega)).mono ?_; (simp [*, go_sem]); rintro e w2 ⟨rfl, n, rfl⟩))
  go_wp2
  go_ret2
  exact ⟨rfl, ((kk.alloc _).drewN _)⟩

set_option maxHeartbeats 400000 in
theorem at_out (g : Nat) (R C : Nat) (r c : Int) (w : World) (hR : w.cell? ⟨g, 0, none⟩ = some (.int .i64 R)) (hC : w.cell? ⟨g, 1, none⟩ = some (.int .i64 C)) (h : ¬ (0 ≤ r ∧ r < R ∧ 0 ≤ c ∧ c < C)) :
    Calls Try.prog 27 #[.pointer (some ⟨g, 0, none⟩), .agg #[.int .i64 r, .int .i64 c]] w fun e w' => e = .returned (.tuple #[.int .i64 0, .int .i64 11]) ∧ Kept0 w w' := by
  have hgl := World.block_lt_of_cell? w _ hC
  have H := Lib.hid h
  clear h
  go_enter Try.func27, Try.ntmps27
  go_wp2_with fail
  refine (check_out g _ _ R C _ ?_ ?_ H.out).mono ?_
  · simp [go_sem, hgl, hR]
  · simp [go_sem, hgl, hC]
  rintro e w1 ⟨rfl, hk1⟩
  go_wp2_with fail
  go_ret2
  exact ⟨rfl, ((Kept.refl _ w).alloc _).later hk1 (fun _ _ e => e)⟩

theorem at_nil (r c : Int) (w : World) :
    Calls Try.prog 27 #[.pointer none, .agg #[.int .i64 r, .int .i64 c]] w fun e w' => e = .returned (.tuple #[.int .i64 0, .int .i64 2]) ∧ Kept0 w w' := by
  go_enter Try.func27, Try.ntmps27
  go_wp2_with fail
  refine (check_nil _ _ _).mono ?_
  rintro e w1 ⟨rfl, hk1⟩
  go_wp2_with fail
  go_ret2
  exact ⟨rfl, ((Kept.refl _ w).alloc _).later hk1 (fun _ _ e => e)⟩

set_option maxHeartbeats 400000 in
theorem set_in (g t cap R C : Nat) (f : Nat → Int) (r c x : Int) (w : World) (hg : GridAt w g t cap R C f) (hth : There R C r c) :
    Calls Try.prog 24 #[.pointer (some ⟨g, 0, none⟩), .agg #[.int .i64 r, .int .i64 c], .int .i64 x] w fun e w' => e = .returned (.int .i64 0) ∧ GridAt w' g t cap R C (upd f (idx C r c) x) ∧ Kept (· = t) w w' := by
  have hR2 := hg.R2
  have hC2 := hg.C2
  have hlt := idx_lt hth
  obtain ⟨N, hN⟩ : ∃ N, N = R * C := ⟨_, rfl⟩
  rw [← hN] at hlt
  obtain ⟨hr0, hr1, hc0, hc1⟩ := hth
  have hgl := hg.lt
  have c0 := hg.c0
  have c1 := hg.c1
  have c2 := hg.c2
  rw [← hN] at c2
  have hrow := hg.row.cell (k := idx C r c) (by omega)
  have hfz := hg.row.frozen (idx C r c)
  have HN := Lib.hid hN
  have htl := hg.row.lt
  have hne := hg.ne
  have hne1 : ¬ g = t := hg.ne
  have hne2 : ¬ t = g := fun e => hne e.symm
  have hb1 : ¬ w.heap.size = t := by omega
  have hb2 : ¬ t = w.heap.size := by omega
  clear hN
  go_enter Try.func24, Try.ntmps24
  go_wp2_with fail
  refine (check_in g _ _ R C _ ?_ ?_ hr0 hr1 hc0 hc1).mono ?_
  · simp [go_sem, hgl, c0]
  · simp [go_sem, hgl, c1]
  rintro e w1 ⟨rfl, hk1⟩
  have hs1 : w.heap.size < w1.heap.size := by have := hk1.size; simp at this; omega
  have k0 := hk1.cell (b := w.heap.size) (o := 0) (by simp) (fun e => e)
  have k1 := hk1.cell (b := w.heap.size) (o := 1) (by simp) (fun e => e)
  have kk : Kept0 w w1 := ((Kept.refl _ w).alloc _).later hk1 (fun _ _ e => e)
  have j1 := (kk.cell (o := 1) hgl (fun e => e)).trans c1
  have j2 := (kk.cell (o := 2) hgl (fun e => e)).trans c2
  have jr := (kk.cell (o := idx C r c) htl (fun e => e)).trans hrow
  have jf := (kk.frozen (o := idx C r c) htl (fun e => e)).trans hfz
  have hgl1 : g < w1.heap.size := by omega
  have htl1 : t < w1.heap.size := by omega
  simp at k0 k1
  clear c0 c1 c2 hrow hfz
  go_wp2_with fail
  go_region_held3 (fun w' => w'.cell? ⟨g, 2, none⟩ = some (Value.slice (some ⟨t, 0, none⟩) N cap) ∧ w'.cell? ⟨w.heap.size, 0, none⟩ = some (.int .i64 r) ∧ w'.cell? ⟨w.heap.size, 1, none⟩ = some (.int .i64 c)) (go_keep)
    (first
      | (go_at_call 42; refine (index_at g _ _ C _ ?_ hr0 (by omega) hc0 (by omega) (by omega)).mono ?_; (simp [*, go_sem]); rintro e w2 ⟨rfl, n, rfl⟩))
  go_wp2
  go_ret
  have kt0 : Kept0 w _ := (kk.alloc (.cells #[.int .i64 r, .int .i64 c] 39)).drewN (1 + n)
  have kt : Kept (· = t) w _ := kt0.to
  exact ⟨rfl, hg.withRow (kt.setCell ⟨t, idx C r c, none⟩ (Or.inr rfl) (.int .i64 x)) ((hg.row.kept kt0 (fun e => e)).set (idx C r c) x), kt.setCell _ (Or.inr rfl) _⟩

set_option maxHeartbeats 400000 in
theorem set_out (g : Nat) (R C : Nat) (r c x : Int) (w : World) (hR : w.cell? ⟨g, 0, none⟩ = some (.int .i64 R)) (hC : w.cell? ⟨g, 1, none⟩ = some (.int .i64 C)) (h : ¬ (0 ≤ r ∧ r < R ∧ 0 ≤ c ∧ c < C)) :
    Calls Try.prog 24 #[.pointer (some ⟨g, 0, none⟩), .agg #[.int .i64 r, .int .i64 c], .int .i64 x] w fun e w' => e = .returned (.int .i64 11) ∧ Kept0 w w' := by
  have hgl := World.block_lt_of_cell? w _ hC
  have H := Lib.hid h
  clear h
  go_enter Try.func24, Try.ntmps24
  go_wp2_with fail
  refine (check_out g _ _ R C _ ?_ ?_ H.out).mono ?_
  · simp [go_sem, hgl, hR]
  · simp [go_sem, hgl, hC]
  rintro e w1 ⟨rfl, hk1⟩
  go_wp2_with fail
  go_ret
  exact ⟨rfl, ((Kept.refl _ w).alloc _).later hk1 (fun _ _ e => e)⟩

theorem set_nil (r c x : Int) (w : World) :
    Calls Try.prog 24 #[.pointer none, .agg #[.int .i64 r, .int .i64 c], .int .i64 x] w fun e w' => e = .returned (.int .i64 2) ∧ Kept0 w w' := by
  go_enter Try.func24, Try.ntmps24
  go_wp2_with fail
  refine (check_nil _ _ _).mono ?_
  rintro e w1 ⟨rfl, hk1⟩
  go_wp2_with fail
  go_ret
  exact ⟨rfl, ((Kept.refl _ w).alloc _).later hk1 (fun _ _ e => e)⟩

theorem Try.info3 : (Try.prog.info? 3).map (fun i => (i.zero, i.size, i.bytes)) = some (some (.int .i64 0), 1, 8) := by kernel_rfl

theorem made_ints (w : World) (m : Nat) (x : Int) : IntsAt (w.alloc (.cells (madeCells #[.int .i64 x] m) 3)) w.heap.size m (fun _ => x) := by
  obtain ⟨c, h1, _, h3⟩ := World.rowIs_made w (.int .i64 x) m 3
  exact ⟨c, h1, h3⟩

set_option maxHeartbeats 400000 in
theorem new_yes (R C : Nat) (x : Int) (w : World) (h1 : 1 ≤ R) (h2 : R ≤ 255) (h3 : 1 ≤ C) (h4 : C ≤ 255) :
    Calls Try.prog 13 #[.agg #[.int .i64 R, .int .i64 C], .int .i64 x] w fun e w' => ∃ g t, e = .returned (.tuple #[.pointer (some ⟨g, 0, none⟩), .int .i64 0]) ∧ w.heap.size ≤ g ∧ w.heap.size ≤ t ∧ GridAt w' g t (R * C) R C (fun _ => x) ∧ Kept0 w w' := by
  have hm : mayE (R : Int) (C : Int) = 0 := mayE_yes (by omega)
  obtain ⟨m, hmd⟩ : ∃ m, m = R * C := ⟨_, rfl⟩
  have hml : m ≤ 65025 := by rw [hmd]; exact Nat.mul_le_mul h2 h4
  have hw : wrap64 ((R : Int) * (C : Int)) = (m : Int) := by
    have : ((R : Int) * (C : Int)) = (m : Int) := by rw [hmd]; simp
    rw [this]; exact w64 (by omega) (by omega)
  have hw2 : IntKind.i64.wrap ((R : Int) * (C : Int)) = (m : Int) := by rw [IntWalk.i64_left]; exact hw
  have Hmd := Lib.hid hmd
  clear hmd
  have hmk := run_make_row' (P := Try.prog) 48 3 (.int .i64 0) 8 Try.underlying48 Try.info3 rfl .i64 .i64 m (by omega) (by omega)
  go_enter Try.func13, Try.ntmps13
  go_wp2_with fail
  refine (may_any _ _ _).mono ?_
  rw [hm]
  clear hm
  rintro e w1 ⟨rfl, hk1⟩
  have k0 := hk1.cell (b := w.heap.size) (o := 0) (by simp) (fun e => e)
  have k1 := hk1.cell (b := w.heap.size) (o := 1) (by simp) (fun e => e)
  have hs1 := hk1.size
  simp at k0 k1 hs1
  replace hs1 : w.heap.size < w1.heap.size := hs1
  go_wp2_with fail

  go_region
  have hI : IntsAt ((w1.alloc (Obj.cells (madeCells #[Value.int IntKind.i64 0] m) 3)).alloc (Obj.cells #[Value.int IntKind.i64 ↑R, Value.int IntKind.i64 ↑C, Value.slice (some { block := w1.heap.size, off := 0 }) m m] 75)).drew w1.heap.size m (fun _ => 0) := (made_ints w1 m 0).alloc _
  have hG : ((w1.alloc (Obj.cells (madeCells #[Value.int IntKind.i64 0] m) 3)).alloc (Obj.cells #[Value.int IntKind.i64 ↑R, Value.int IntKind.i64 ↑C, Value.slice (some { block := w1.heap.size, off := 0 }) m m] 75)).drew.heap[w1.heap.size + 1]? = some (Obj.cells #[Value.int IntKind.i64 ↑R, Value.int IntKind.i64 ↑C, Value.slice (some { block := w1.heap.size, off := 0 }) m m] 75) := by
    exact heap_new2 w1 _ _
  have HG := Lib.hid hG
  clear hG
  go_wp2_with fail
  refine (paint_any _ _ _ m _ _ _ _ hI (by omega) (by omega)).mono ?_
  rintro e w2 ⟨rfl, hI2, hk2⟩
  go_wp2
  go_ret2
  obtain rfl := Hmd.out
  refine ⟨w1.heap.size + 1, w1.heap.size, rfl, by omega, by omega, ⟨?_, hI2.congr (fun k hk => by simp [fillF]; omega), Nat.le_refl _, h1, h2, h3, h4⟩, ?_⟩
  · exact (hk2.block _ (by simp) (by simp)).trans HG.out
  · exact (((hk1.alloc _).alloc _).drew.later hk2 (fun i hi e => by simp at hi; omega)).later (Kept.refl _ _) (fun _ _ e => e) |> fun h => (((Kept.refl _ w).alloc _).later h (fun _ _ e => e))

end Go.Proofs.Ytekjjnfbahmjcaa
