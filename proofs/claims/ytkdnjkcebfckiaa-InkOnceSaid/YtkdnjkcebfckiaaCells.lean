/-
  What At and Set do, and New.
-/
import Derived.Test.YtkdnjkcebfckiaaLeaf
import Derived.Deep.RegionHeld3
import Derived.StillTailTactics
import Derived.Deep.OwnRows
import Derived.BigRegion
namespace Go.Proofs.Ytkdnjkcebfckiaa
open Go.RowKit

theorem kcell {w w' : World} (k : Kept0 w w') {b o : Nat} {v : Value} (h : w.cell? ⟨b, o, none⟩ = some v) : w'.cell? ⟨b, o, none⟩ = some v :=
  (k.cell (World.block_lt_of_cell? w _ h) (fun e => e)).trans h
theorem kcellS {S : Nat → Prop} {w w' : World} (k : Kept S w w') {b o : Nat} {v : Value} (h : w.cell? ⟨b, o, none⟩ = some v) (hs : ¬ S b) : w'.cell? ⟨b, o, none⟩ = some v :=
  (k.cell (World.block_lt_of_cell? w _ h) hs).trans h
theorem kfrozen {w w' : World} (k : Kept0 w w') {b o : Nat} {v : Value} (h : w.cell? ⟨b, o, none⟩ = some v) (h2 : w.frozen? ⟨b, o, none⟩ = false) : w'.frozen? ⟨b, o, none⟩ = false :=
  (k.frozen (World.block_lt_of_cell? w _ h) (fun e => e)).trans h2

set_option maxHeartbeats 1000000 in
theorem at_in (g t cap R C : Nat) (f : Nat → Cel) (r c : Int) (w : World) (hg : GridAt w g t cap R C f) (hth : There R C r c) :
    Calls Try.prog 26 #[.pointer (some ⟨g, 0, none⟩), .agg #[.int .i64 r, .int .i64 c]] w fun e w' => e = .returned (.tuple #[(.agg #[.int .i32 (f (idx C r c)).g, .int .i64 (f (idx C r c)).a, .bool (f (idx C r c)).b, .int .i64 (f (idx C r c)).m]), .int .i64 0]) ∧ Kept0 w w' := by
  have hR2 := hg.R2
  have hC2 := hg.C2
  have hlt := idx_lt hth
  obtain ⟨N, hN⟩ : ∃ N, N = R * C := ⟨_, rfl⟩
  rw [← hN] at hlt
  obtain ⟨hr0, hr1, hc0, hc1⟩ := hth
  have hgl := hg.lt
  have c0 := hg.c0
  have c1 := hg.c1
  have c2 := hg.c2
  rw [← hN] at c2
  obtain ⟨e0, e1, e2, e3⟩ := hg.row.cell (k := idx C r c) (by omega)
  have HN := Lib.hid hN
  have htl := hg.row.lt
  have b1 : ¬ g = w.heap.size + 1 := by omega
  have b2 : ¬ w.heap.size + 1 = g := by omega
  have b3 : ¬ t = w.heap.size + 1 := by omega
  have b4 : ¬ w.heap.size + 1 = t := by omega
  clear hN
  go_enter Try.func26, Try.ntmps26
  go_wp2_with fail
  refine (check_in g _ _ R C _ ?_ ?_ hr0 hr1 hc0 hc1).mono ?_
  · simp [go_sem, hgl, c0]
  · simp [go_sem, hgl, c1]
  rintro e w1 ⟨rfl, hk1⟩
  have hs1 : w.heap.size + 1 < w1.heap.size := by have := hk1.size; simp at this; omega
  have hs0 : w.heap.size < w1.heap.size := by omega
  have k0 : w1.cell? ⟨w.heap.size, 0, none⟩ = some (.int .i64 r) := kcell hk1 (by simp [go_sem])
  have k1 : w1.cell? ⟨w.heap.size, 1, none⟩ = some (.int .i64 c) := kcell hk1 (by simp [go_sem])
  have z0 : w1.cell? ⟨w.heap.size + 1, 0, none⟩ = some (.int .i32 0) := kcell hk1 (by simp [go_sem])
  have z1 : w1.cell? ⟨w.heap.size + 1, 1, none⟩ = some (.int .i64 0) := kcell hk1 (by simp [go_sem])
  have z2 : w1.cell? ⟨w.heap.size + 1, 2, none⟩ = some (.bool false) := kcell hk1 (by simp [go_sem])
  have z3 : w1.cell? ⟨w.heap.size + 1, 3, none⟩ = some (.int .i64 0) := kcell hk1 (by simp [go_sem])
  have y0 : w1.frozen? ⟨w.heap.size + 1, 0, none⟩ = false := kfrozen hk1 (v := .int .i32 0) (by simp [go_sem]) (by simp [go_sem])
  have y1 : w1.frozen? ⟨w.heap.size + 1, 1, none⟩ = false := kfrozen hk1 (v := .int .i64 0) (by simp [go_sem]) (by simp [go_sem])
  have y2 : w1.frozen? ⟨w.heap.size + 1, 2, none⟩ = false := kfrozen hk1 (v := .bool false) (by simp [go_sem]) (by simp [go_sem])
  have y3 : w1.frozen? ⟨w.heap.size + 1, 3, none⟩ = false := kfrozen hk1 (v := .int .i64 0) (by simp [go_sem]) (by simp [go_sem])
  have kk : Kept0 w w1 := (((Kept.refl _ w).alloc _).alloc _).later hk1 (fun _ _ e => e)
  have j1 := kcell kk c1
  have j2 := kcell kk c2
  have j3 := kcell kk e0
  have j4 := kcell kk e1
  have j5 := kcell kk e2
  have j6 := kcell kk e3
  have hgl1 : g < w1.heap.size := by omega
  have htl1 : t < w1.heap.size := by omega
  clear c0 c1 c2 e0 e1 e2 e3 hk1
  go_wp2_with fail
  go_region_held3 (fun w' => w'.cell? ⟨g, 2, none⟩ = some (Value.slice (some ⟨t, 0, none⟩) N cap) ∧ w'.cell? ⟨w.heap.size, 0, none⟩ = some (.int .i64 r) ∧ w'.cell? ⟨w.heap.size, 1, none⟩ = some (.int .i64 c) ∧ w'.cell? ⟨t, idx C r c * 4, none⟩ = some (.int .i32 (f (idx C r c)).g) ∧ w'.cell? ⟨t, idx C r c * 4 + 1, none⟩ = some (.int .i64 (f (idx C r c)).a) ∧ w'.cell? ⟨t, idx C r c * 4 + 2, none⟩ = some (.bool (f (idx C r c)).b) ∧ w'.cell? ⟨t, idx C r c * 4 + 3, none⟩ = some (.int .i64 (f (idx C r c)).m)) (go_keep)
    (first
      | (go_at_call 51; refine (index_at g _ _ C _ ?_ hr0 (by omega) hc0 (by omega) (by omega)).mono ?_; (simp [*, go_sem]); rintro e w2 ⟨rfl, n, rfl⟩))
  go_wp2
  refine bodyPost_ret (v := .tuple #[(.agg #[.int .i32 (f (idx C r c)).g, .int .i64 (f (idx C r c)).a, .bool (f (idx C r c)).b, .int .i64 (f (idx C r c)).m]), .int .i64 0]) (by simp [results, Try.results26, go_sem, hs1, z0, z1, z2, z3]) rfl ⟨rfl, ?_⟩
  exact ((kk.alloc _).drewN _).setCel _ _ (Or.inl (Nat.le_succ _)) (f (idx C r c))

/-- The cell that is none. -/
def zc : Cel := ⟨0, 0, false, 0⟩

set_option maxHeartbeats 400000 in
theorem at_out (g : Nat) (R C : Nat) (r c : Int) (w : World) (hR : w.cell? ⟨g, 0, none⟩ = some (.int .i64 R)) (hC : w.cell? ⟨g, 1, none⟩ = some (.int .i64 C)) (h : ¬ (0 ≤ r ∧ r < R ∧ 0 ≤ c ∧ c < C)) :
    Calls Try.prog 26 #[.pointer (some ⟨g, 0, none⟩), .agg #[.int .i64 r, .int .i64 c]] w fun e w' => e = .returned (.tuple #[(.agg #[.int .i32 zc.g, .int .i64 zc.a, .bool zc.b, .int .i64 zc.m]), .int .i64 11]) ∧ Kept0 w w' := by
  have hgl := World.block_lt_of_cell? w _ hC
  have H := Lib.hid h
  clear h
  unfold zc
  go_enter Try.func26, Try.ntmps26
  go_wp2_with fail
  refine (check_out g _ _ R C _ ?_ ?_ H.out).mono ?_
  · simp [go_sem, hgl, hR]
  · simp [go_sem, hgl, hC]
  rintro e w1 ⟨rfl, hk1⟩
  have z0 : w1.cell? ⟨w.heap.size + 1, 0, none⟩ = some (.int .i32 0) := kcell hk1 (by simp [go_sem])
  have z1 : w1.cell? ⟨w.heap.size + 1, 1, none⟩ = some (.int .i64 0) := kcell hk1 (by simp [go_sem])
  have z2 : w1.cell? ⟨w.heap.size + 1, 2, none⟩ = some (.bool false) := kcell hk1 (by simp [go_sem])
  have z3 : w1.cell? ⟨w.heap.size + 1, 3, none⟩ = some (.int .i64 0) := kcell hk1 (by simp [go_sem])
  have y0 : w1.frozen? ⟨w.heap.size + 1, 0, none⟩ = false := kfrozen hk1 (v := .int .i32 0) (by simp [go_sem]) (by simp [go_sem])
  have y1 : w1.frozen? ⟨w.heap.size + 1, 1, none⟩ = false := kfrozen hk1 (v := .int .i64 0) (by simp [go_sem]) (by simp [go_sem])
  have y2 : w1.frozen? ⟨w.heap.size + 1, 2, none⟩ = false := kfrozen hk1 (v := .bool false) (by simp [go_sem]) (by simp [go_sem])
  have y3 : w1.frozen? ⟨w.heap.size + 1, 3, none⟩ = false := kfrozen hk1 (v := .int .i64 0) (by simp [go_sem]) (by simp [go_sem])
  have kk : Kept0 w w1 := (((Kept.refl _ w).alloc _).alloc _).later hk1 (fun _ _ e => e)
  clear hk1
  go_wp2_with fail
  refine bodyPost_ret (v := .tuple #[.agg #[.int .i32 0, .int .i64 0, .bool false, .int .i64 0], .int .i64 11]) (by simp [results, Try.results26, go_sem, z0, z1, z2, z3]) rfl ⟨rfl, ?_⟩
  exact kk.setCel _ _ (Or.inl (Nat.le_succ _)) zc

set_option maxHeartbeats 400000 in
theorem at_nil (r c : Int) (w : World) :
    Calls Try.prog 26 #[.pointer none, .agg #[.int .i64 r, .int .i64 c]] w fun e w' => e = .returned (.tuple #[(.agg #[.int .i32 zc.g, .int .i64 zc.a, .bool zc.b, .int .i64 zc.m]), .int .i64 2]) ∧ Kept0 w w' := by
  unfold zc
  go_enter Try.func26, Try.ntmps26
  go_wp2_with fail
  refine (check_nil _ _ _).mono ?_
  rintro e w1 ⟨rfl, hk1⟩
  have z0 : w1.cell? ⟨w.heap.size + 1, 0, none⟩ = some (.int .i32 0) := kcell hk1 (by simp [go_sem])
  have z1 : w1.cell? ⟨w.heap.size + 1, 1, none⟩ = some (.int .i64 0) := kcell hk1 (by simp [go_sem])
  have z2 : w1.cell? ⟨w.heap.size + 1, 2, none⟩ = some (.bool false) := kcell hk1 (by simp [go_sem])
  have z3 : w1.cell? ⟨w.heap.size + 1, 3, none⟩ = some (.int .i64 0) := kcell hk1 (by simp [go_sem])
  have y0 : w1.frozen? ⟨w.heap.size + 1, 0, none⟩ = false := kfrozen hk1 (v := .int .i32 0) (by simp [go_sem]) (by simp [go_sem])
  have y1 : w1.frozen? ⟨w.heap.size + 1, 1, none⟩ = false := kfrozen hk1 (v := .int .i64 0) (by simp [go_sem]) (by simp [go_sem])
  have y2 : w1.frozen? ⟨w.heap.size + 1, 2, none⟩ = false := kfrozen hk1 (v := .bool false) (by simp [go_sem]) (by simp [go_sem])
  have y3 : w1.frozen? ⟨w.heap.size + 1, 3, none⟩ = false := kfrozen hk1 (v := .int .i64 0) (by simp [go_sem]) (by simp [go_sem])
  have kk : Kept0 w w1 := (((Kept.refl _ w).alloc _).alloc _).later hk1 (fun _ _ e => e)
  clear hk1
  go_wp2_with fail
  refine bodyPost_ret (v := .tuple #[.agg #[.int .i32 0, .int .i64 0, .bool false, .int .i64 0], .int .i64 2]) (by simp [results, Try.results26, go_sem, z0, z1, z2, z3]) rfl ⟨rfl, ?_⟩
  exact kk.setCel _ _ (Or.inl (Nat.le_succ _)) zc

set_option maxHeartbeats 1000000 in
theorem set_in (g t cap R C : Nat) (f : Nat → Cel) (r c : Int) (x : Cel) (w : World) (hg : GridAt w g t cap R C f) (hth : There R C r c) :
    Calls Try.prog 35 #[.pointer (some ⟨g, 0, none⟩), .agg #[.int .i64 r, .int .i64 c], (.agg #[.int .i32 x.g, .int .i64 x.a, .bool x.b, .int .i64 x.m])] w fun e w' => e = .returned (.int .i64 0) ∧ GridAt w' g t cap R C (upd f (idx C r c) x) ∧ Kept (· = t) w w' := by
  have hR2 := hg.R2
  have hC2 := hg.C2
  have hlt := idx_lt hth
  obtain ⟨N, hN⟩ : ∃ N, N = R * C := ⟨_, rfl⟩
  rw [← hN] at hlt
  obtain ⟨hr0, hr1, hc0, hc1⟩ := hth
  have hgl := hg.lt
  have c0 := hg.c0
  have c1 := hg.c1
  have c2 := hg.c2
  rw [← hN] at c2
  obtain ⟨e0, e1, e2, e3⟩ := hg.row.cell (k := idx C r c) (by omega)
  have f0 := hg.row.frozen (idx C r c * 4)
  have f1 := hg.row.frozen (idx C r c * 4 + 1)
  have f2 := hg.row.frozen (idx C r c * 4 + 2)
  have f3 := hg.row.frozen (idx C r c * 4 + 3)
  have HN := Lib.hid hN
  have htl := hg.row.lt
  have hne := hg.ne
  have hne1 : ¬ g = t := hg.ne
  have hne2 : ¬ t = g := fun e => hne e.symm
  have b1 : ¬ w.heap.size = t := by omega
  have b2 : ¬ t = w.heap.size := by omega
  have b3 : ¬ t = w.heap.size + 1 := by omega
  have b4 : ¬ w.heap.size + 1 = t := by omega
  clear hN
  go_enter Try.func35, Try.ntmps35
  go_wp2_with fail
  refine (check_in g _ _ R C _ ?_ ?_ hr0 hr1 hc0 hc1).mono ?_
  · simp [go_sem, hgl, c0]
  · simp [go_sem, hgl, c1]
  rintro e w1 ⟨rfl, hk1⟩
  have hs1 : w.heap.size + 1 < w1.heap.size := by have := hk1.size; simp at this; omega
  have hs0 : w.heap.size < w1.heap.size := by omega
  have k0 : w1.cell? ⟨w.heap.size, 0, none⟩ = some (.int .i64 r) := kcell hk1 (by simp [go_sem])
  have k1 : w1.cell? ⟨w.heap.size, 1, none⟩ = some (.int .i64 c) := kcell hk1 (by simp [go_sem])
  have z0 : w1.cell? ⟨w.heap.size + 1, 0, none⟩ = some (.int .i32 x.g) := kcell hk1 (by simp [go_sem])
  have z1 : w1.cell? ⟨w.heap.size + 1, 1, none⟩ = some (.int .i64 x.a) := kcell hk1 (by simp [go_sem])
  have z2 : w1.cell? ⟨w.heap.size + 1, 2, none⟩ = some (.bool x.b) := kcell hk1 (by simp [go_sem])
  have z3 : w1.cell? ⟨w.heap.size + 1, 3, none⟩ = some (.int .i64 x.m) := kcell hk1 (by simp [go_sem])
  have kk : Kept0 w w1 := (((Kept.refl _ w).alloc _).alloc _).later hk1 (fun _ _ e => e)
  have j1 := kcell kk c1
  have j2 := kcell kk c2
  have j3 := kcell kk e0
  have j4 := kcell kk e1
  have j5 := kcell kk e2
  have j6 := kcell kk e3
  have i3 := kfrozen kk e0 f0
  have i4 := kfrozen kk e1 f1
  have i5 := kfrozen kk e2 f2
  have i6 := kfrozen kk e3 f3
  have hgl1 : g < w1.heap.size := by omega
  have htl1 : t < w1.heap.size := by omega
  clear c0 c1 c2 e0 e1 e2 e3 hk1 f0 f1 f2 f3
  go_wp2_with fail
  go_region_held3 (fun w' => w'.cell? ⟨g, 2, none⟩ = some (Value.slice (some ⟨t, 0, none⟩) N cap) ∧ w'.cell? ⟨w.heap.size, 0, none⟩ = some (.int .i64 r) ∧ w'.cell? ⟨w.heap.size, 1, none⟩ = some (.int .i64 c) ∧ w'.cell? ⟨w.heap.size + 1, 0, none⟩ = some (.int .i32 x.g) ∧ w'.cell? ⟨w.heap.size + 1, 1, none⟩ = some (.int .i64 x.a) ∧ w'.cell? ⟨w.heap.size + 1, 2, none⟩ = some (.bool x.b) ∧ w'.cell? ⟨w.heap.size + 1, 3, none⟩ = some (.int .i64 x.m)) (go_keep)
    (first
      | (go_at_call 51; refine (index_at g _ _ C _ ?_ hr0 (by omega) hc0 (by omega) (by omega)).mono ?_; (simp [*, go_sem]); rintro e w2 ⟨rfl, n, rfl⟩))
  go_wp2
  go_ret
  have kt0 : Kept0 w _ := (kk.alloc (.cells #[.int .i64 r, .int .i64 c] 26)).drewN (1 + n)
  have kt : Kept (· = t) w _ := kt0.to
  exact ⟨rfl, hg.withRow (kt.setCel t (idx C r c * 4) (Or.inr rfl) x) ((hg.row.kept kt0 (fun e => e)).set (idx C r c) x), kt.setCel _ _ (Or.inr rfl) _⟩

set_option maxHeartbeats 400000 in
theorem set_out (g : Nat) (R C : Nat) (r c : Int) (x : Cel) (w : World) (hR : w.cell? ⟨g, 0, none⟩ = some (.int .i64 R)) (hC : w.cell? ⟨g, 1, none⟩ = some (.int .i64 C)) (h : ¬ (0 ≤ r ∧ r < R ∧ 0 ≤ c ∧ c < C)) :
    Calls Try.prog 35 #[.pointer (some ⟨g, 0, none⟩), .agg #[.int .i64 r, .int .i64 c], (.agg #[.int .i32 x.g, .int .i64 x.a, .bool x.b, .int .i64 x.m])] w fun e w' => e = .returned (.int .i64 11) ∧ Kept0 w w' := by
  have hgl := World.block_lt_of_cell? w _ hC
  have H := Lib.hid h
  clear h
  go_enter Try.func35, Try.ntmps35
  go_wp2_with fail
  refine (check_out g _ _ R C _ ?_ ?_ H.out).mono ?_
  · simp [go_sem, hgl, hR]
  · simp [go_sem, hgl, hC]
  rintro e w1 ⟨rfl, hk1⟩
  go_wp2_with fail
  go_ret
  exact ⟨rfl, (((Kept.refl _ w).alloc _).alloc _).later hk1 (fun _ _ e => e)⟩

theorem made_four (z : Array Value) (h : z.size = 4) (m i : Nat) (hi : i < m * 4) (v : Value) (hv : z[i % 4]? = some v) : (madeCells z (m * 4))[i]? = some v := by
  simp [madeCells, hi, h]
  rw [Array.getElem?_eq_some_iff] at hv
  obtain ⟨h1, h2⟩ := hv
  rw [getElem!_pos z (i % 4) h1, h2]

theorem made_cells (w : World) (m : Nat) : CellsAt (w.alloc (.cells (madeCells (Value.agg #[.int .i32 0, .int .i64 0, .bool false, .int .i64 0]).cells (m * 4)) 36)) w.heap.size m (fun _ => zc) := by
  refine ⟨_, heap_new w _, fun k hk => ⟨?_, ?_, ?_, ?_⟩⟩
  · exact made_four _ rfl _ _ (by omega) _ (by rw [show k * 4 % 4 = 0 by omega]; rfl)
  · exact made_four _ rfl _ _ (by omega) _ (by rw [show (k * 4 + 1) % 4 = 1 by omega]; rfl)
  · exact made_four _ rfl _ _ (by omega) _ (by rw [show (k * 4 + 2) % 4 = 2 by omega]; rfl)
  · exact made_four _ rfl _ _ (by omega) _ (by rw [show (k * 4 + 3) % 4 = 3 by omega]; rfl)

theorem run_make_four {P : Program} (t e : TypeId) (z : Value) (bytes : Nat) (ht : P.underlying t = some (.slice e)) (hinfo : (P.info? e).map (fun i => (i.zero, i.size, i.bytes)) = some (some z, 4, bytes))
    (kl kc : IntKind) (n : Nat) (hbytes : bytes * n ≤ 281474976710656) (h63 : n ≤ 9223372036854775807) (w : World) :
    (Instr.makeSlice t (.int kl (n : Int)) (.int kc (n : Int))).run P w = .ok (.slice (some ⟨w.heap.size, 0, none⟩) n n) (w.alloc (.cells (madeCells z.cells (n * 4)) e)) := by
  obtain ⟨i, hi, hzz⟩ := Option.map_eq_some_iff.1 hinfo
  simp only [Prod.mk.injEq] at hzz
  obtain ⟨hz, hs, hb⟩ := hzz
  have hb' : (i.bytes : Int) * (n : Int) ≤ 281474976710656 := by
    have h : ((i.bytes * n : Nat) : Int) ≤ 281474976710656 := by rw [hb]; omega
    rwa [Int.natCast_mul] at h
  have hr := run_make (P := P) w t e i z ht hi hz kl kc n n (by omega) (Int.le_refl _) hb' (by omega)
  simp only [Int.toNat_natCast, hs] at hr
  exact hr

theorem Try.info36 : (Try.prog.info? 36).map (fun i => (i.zero, i.size, i.bytes)) = some (some (.agg #[.int .i32 0, .int .i64 0, .bool false, .int .i64 0]), 4, 32) := by kernel_rfl

set_option maxHeartbeats 1000000 in
theorem new_yes (R C : Nat) (x : Cel) (w : World) (h1 : 1 ≤ R) (h2 : R ≤ 255) (h3 : 1 ≤ C) (h4 : C ≤ 255) :
    Calls Try.prog 34 #[.agg #[.int .i64 R, .int .i64 C], (.agg #[.int .i32 x.g, .int .i64 x.a, .bool x.b, .int .i64 x.m])] w fun e w' => ∃ g t, e = .returned (.tuple #[.pointer (some ⟨g, 0, none⟩), .int .i64 0]) ∧ w.heap.size ≤ g ∧ w.heap.size ≤ t ∧ GridAt w' g t (R * C) R C (fun _ => x) ∧ Kept0 w w' := by
  have hm : mayE (R : Int) (C : Int) = 0 := mayE_yes (by omega)
  obtain ⟨m, hmd⟩ : ∃ m, m = R * C := ⟨_, rfl⟩
  have hml : m ≤ 65025 := by rw [hmd]; exact Nat.mul_le_mul h2 h4
  have hw : wrap64 ((R : Int) * (C : Int)) = (m : Int) := by
    have : ((R : Int) * (C : Int)) = (m : Int) := by rw [hmd]; simp
    rw [this]; exact w64 (by omega) (by omega)
  have hw2 : IntKind.i64.wrap ((R : Int) * (C : Int)) = (m : Int) := by rw [IntWalk.i64_left]; exact hw
  have Hmd := Lib.hid hmd
  clear hmd
  obtain ⟨Z, hZ⟩ : ∃ Z, Z = madeCells (Value.agg #[.int .i32 0, .int .i64 0, .bool false, .int .i64 0]).cells (m * 4) := ⟨_, rfl⟩
  have hmk := run_make_four (P := Try.prog) 64 36 _ 32 Try.underlying64 Try.info36 .i64 .i64 m (by omega) (by omega)
  rw [← hZ] at hmk
  have HZ := Lib.hid hZ
  clear hZ
  go_enter Try.func34, Try.ntmps34
  go_wp2_with fail
  refine (may_any _ _ _).mono ?_
  rw [hm]
  clear hm
  rintro e w1 ⟨rfl, hk1⟩
  have k0 : w1.cell? ⟨w.heap.size, 0, none⟩ = some (.int .i64 R) := kcell hk1 (by simp [go_sem])
  have k1 : w1.cell? ⟨w.heap.size, 1, none⟩ = some (.int .i64 C) := kcell hk1 (by simp [go_sem])
  have z0 : w1.cell? ⟨w.heap.size + 1, 0, none⟩ = some (.int .i32 x.g) := kcell hk1 (by simp [go_sem])
  have z1 : w1.cell? ⟨w.heap.size + 1, 1, none⟩ = some (.int .i64 x.a) := kcell hk1 (by simp [go_sem])
  have z2 : w1.cell? ⟨w.heap.size + 1, 2, none⟩ = some (.bool x.b) := kcell hk1 (by simp [go_sem])
  have z3 : w1.cell? ⟨w.heap.size + 1, 3, none⟩ = some (.int .i64 x.m) := kcell hk1 (by simp [go_sem])
  have hs1 : w.heap.size + 1 < w1.heap.size := by have := hk1.size; simp at this; omega
  have hs0 : w.heap.size < w1.heap.size := by omega
  have kk : Kept0 w w1 := (((Kept.refl _ w).alloc _).alloc _).later hk1 (fun _ _ e => e)
  clear hk1
  go_wp2_with fail
  go_region
  have hI : CellsAt ((w1.alloc (Obj.cells Z 36)).alloc (Obj.cells #[Value.int IntKind.i64 ↑R, Value.int IntKind.i64 ↑C, Value.slice (some { block := w1.heap.size, off := 0 }) m m] 97)).drew w1.heap.size m (fun _ => zc) := by
    rw [HZ.out]; exact (made_cells w1 m).alloc _
  have hG : ((w1.alloc (Obj.cells Z 36)).alloc (Obj.cells #[Value.int IntKind.i64 ↑R, Value.int IntKind.i64 ↑C, Value.slice (some { block := w1.heap.size, off := 0 }) m m] 97)).drew.heap[w1.heap.size + 1]? = some (Obj.cells #[Value.int IntKind.i64 ↑R, Value.int IntKind.i64 ↑C, Value.slice (some { block := w1.heap.size, off := 0 }) m m] 97) := by
    exact heap_new2 w1 _ _
  have HG := Lib.hid hG
  have k2 : Kept0 w ((w1.alloc (Obj.cells Z 36)).alloc (Obj.cells #[Value.int IntKind.i64 ↑R, Value.int IntKind.i64 ↑C, Value.slice (some { block := w1.heap.size, off := 0 }) m m] 97)).drew := (((kk.alloc _).alloc _).drew)
  have hs2 : w1.heap.size + 1 < ((w1.alloc (Obj.cells Z 36)).alloc (Obj.cells #[Value.int IntKind.i64 ↑R, Value.int IntKind.i64 ↑C, Value.slice (some { block := w1.heap.size, off := 0 }) m m] 97)).drew.heap.size := by simp
  clear hG
  generalize hw2 : ((w1.alloc (Obj.cells Z 36)).alloc (Obj.cells #[Value.int IntKind.i64 ↑R, Value.int IntKind.i64 ↑C, Value.slice (some { block := w1.heap.size, off := 0 }) m m] 97)).drew = W at *
  have q2 : W.cell? ⟨w1.heap.size + 1, 2, none⟩ = some (Value.slice (some { block := w1.heap.size, off := 0 }) m m) := by simp [World.cell?, HG.out]
  have k3 : Kept0 w1 W := hw2 ▸ ((((Kept.refl _ w1).alloc _).alloc _).drew)
  replace z0 := kcell k3 z0
  replace z1 := kcell k3 z1
  replace z2 := kcell k3 z2
  replace z3 := kcell k3 z3
  clear hw2 hw hmk
  go_wp2_with fail
  go_region_held3 (fun w' => w'.cell? ⟨w1.heap.size + 1, 2, none⟩ = some (Value.slice (some { block := w1.heap.size, off := 0 }) m m) ∧ w'.cell? ⟨w.heap.size + 1, 0, none⟩ = some (.int .i32 x.g) ∧ w'.cell? ⟨w.heap.size + 1, 1, none⟩ = some (.int .i64 x.a) ∧ w'.cell? ⟨w.heap.size + 1, 2, none⟩ = some (.bool x.b) ∧ w'.cell? ⟨w.heap.size + 1, 3, none⟩ = some (.int .i64 x.m)) (go_keep)
    (first
      | (go_at_call 54; refine (paint_any w1.heap.size 0 m m m x (fun _ => zc) _ (CellsAt.drewN hI 1) (by omega) (by omega)).mono ?_; rintro e w2 ⟨rfl, hI2, hk2⟩; have v0 := kcellS hk2 (show W.drew.cell? _ = _ from q2) (by omega); have v1 := kcellS hk2 (show W.drew.cell? _ = _ from z0) (by omega); have v2 := kcellS hk2 (show W.drew.cell? _ = _ from z1) (by omega); have v3 := kcellS hk2 (show W.drew.cell? _ = _ from z2) (by omega); have v4 := kcellS hk2 (show W.drew.cell? _ = _ from z3) (by omega)))
  go_wp2
  go_ret2
  obtain rfl := Hmd.out
  refine ⟨w1.heap.size + 1, w1.heap.size, rfl, by omega, by omega, ⟨?_, hI2.congr (fun k hk => by simp [fillF]; omega), Nat.le_refl _, h1, h2, h3, h4⟩, ?_⟩
  · exact (hk2.block _ hs2 (by simp)).trans HG.out
  · exact (k2.drewN 1).later hk2 (fun i hi e => by omega)
end Go.Proofs.Ytkdnjkcebfckiaa
