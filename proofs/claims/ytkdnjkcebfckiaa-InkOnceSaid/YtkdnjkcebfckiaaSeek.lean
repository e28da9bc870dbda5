/-
  seek, Free and Last: the first place that is not guarded.
-/
import Derived.Test.YtkdnjkcebfckiaaRound
import Derived.Test.YtkdnjkcebfckiaaSameG
import Derived.Scope
namespace Go.Proofs.Ytkdnjkcebfckiaa
open Go.RowKit

attribute [local go_sem] Oper.semAt_some

/-- The row, the column of a place that may be none. -/
def oR (C : Nat) (o : Option Nat) : Int := match o with | some k => (rowOf C k : Int) | none => 0
def oC (C : Nat) (o : Option Nat) : Int := match o with | some k => (colOf C k : Int) | none => 0

theorem round_call0 {l : Nat} {f : FuncId} {args : Array Value} {w : World} {R : Ending → World → Prop} (h : Calls Try.prog f args w R) :
    Fence.wide.fn f ∧ Fence.wide.depth = none ∧ CallsIn (Fence.wide.inRound l) 0 Try.prog f args w R :=
  ⟨trivial, rfl, CallsIn.inRound l (callsIn_wide.2 h)⟩

theorem RndG.below {bS bP bI : Nat} {R C r c s : Int} {w w' : World} {B : Nat} (h : RndG bS bP bI R C r c s w) (k : Below B w w') (h1 : bS < B) (h2 : bP < B) (h3 : bI < B) : RndG bS bP bI R C r c s w' :=
  ⟨(k.cell (p := ⟨bS, 0, none⟩) h1).trans h.s0, (k.cell (p := ⟨bS, 1, none⟩) h1).trans h.s1, (k.cell (p := ⟨bP, 0, none⟩) h2).trans h.p0, (k.cell (p := ⟨bP, 1, none⟩) h2).trans h.p1, (k.cell (p := ⟨bI, 0, none⟩) h3).trans h.i0⟩

theorem RndG.kept0 {bS bP bI : Nat} {R C r c s : Int} {w w' : World} (h : RndG bS bP bI R C r c s w) (k : Kept0 w w') : RndG bS bP bI R C r c s w' :=
  ⟨kcell k h.s0, kcell k h.s1, kcell k h.p0, kcell k h.p1, kcell k h.i0⟩

set_option maxRecDepth 100000 in
set_option maxHeartbeats 4000000 in
theorem seek_any (bS bP bI g t cap R C : Nat) (f : Nat → Cel) (r c : Int) (b : Bool) (w : World) (hg : GridAt w g t cap R C f) (hr : RndG bS bP bI R C r c (sg b) w) :
    Calls Try.prog 43 #[.pointer (some ⟨g, 0, none⟩), .func (.func 58) #[] #[.pointer (some ⟨bS, 0, none⟩), .pointer (some ⟨bP, 0, none⟩), .pointer (some ⟨bI, 0, none⟩)]] w fun e w' =>
      e = .returned (.tuple #[pos (oR C (freeK (R * C) b (st R C r c) f)) (oC C (freeK (R * C) b (st R C r c) f)), .bool (freeK (R * C) b (st R C r c) f).isSome]) ∧ Kept0 w w' := by
  have hR1 := hg.R1
  have hC1 := hg.C1
  have hR2 := hg.R2
  have hC2 := hg.C2
  have hit := round1 bS bP bI R C r c b hg.R1 hg.R2 hg.C1 hg.C2
  have HST : Hid (st R C r c < R * C) := st_lt hR1 hC1
  obtain ⟨k0, hk0⟩ : ∃ k, k = st R C r c := ⟨_, rfl⟩
  rw [← hk0] at hit HST ⊢
  obtain ⟨o, ho⟩ : ∃ o, o = freeK (R * C) b k0 f := ⟨_, rfl⟩
  rw [← ho]
  have HO := Lib.hid ho
  clear hk0 ho
  have hgl := hg.lt
  have htl := hg.row.lt
  refine calls_marks Try.func43 rfl ?_
  simp only [Try.ntmps43, List.size_toArray, List.length_cons, List.length_nil, Nat.reduceAdd, Nat.reduceSub, Array.replicate_succ, Array.replicate_zero, List.push_toArray, List.append_toArray, List.nil_append, List.cons_append]
  go_wp2_with fail
  refine wp_scope_straight ?_
  go_wp2_with fail
  refine wp_label ?_
  go_wp2_with fail
  obtain ⟨w6, hw6⟩ : ∃ w6, w6 = ((w.alloc (.cells #[.pointer (some ⟨g, 0, none⟩)] 31)).alloc (.cells #[.int .i64 0, .int .i64 0] 26)).alloc (.cells #[.bool false] 4) := ⟨_, rfl⟩
  have k06 : Kept0 w w6 := by rw [hw6]; exact (((Kept.refl _ w).alloc _).alloc _).alloc _
  have hbx : w6.cell? ⟨w.heap.size, 0, none⟩ = some (.pointer (some ⟨g, 0, none⟩)) := by rw [hw6]; simp [go_sem]
  have hT6 : Two w6 (w.heap.size + 1) 0 0 := by rw [hw6]; exact Two.of (heap_old _ _ (heap_new2 _ _ _))
  have hB6 : BoolAt w6 (w.heap.size + 1 + 1) false := by rw [hw6]; exact BoolAt.of (heap_newC _ _ _ _)
  have hs6 : w.heap.size + 3 = w6.heap.size := by rw [hw6]; simp
  rw [← hw6]
  clear hw6
  have hG6 := hg.kept k06 (fun e => e) (fun e => e)
  have hr6 := hr.kept0 k06
  have ls := World.block_lt_of_cell? w _ hr.s0
  have lp := World.block_lt_of_cell? w _ hr.p0
  have li := World.block_lt_of_cell? w _ hr.i0
  have hl1 : w.heap.size + 1 < w6.heap.size := by omega
  have hl2 : w.heap.size + 1 + 1 < w6.heap.size := by omega
  clear hg hr
  refine wpIn_wide.1 (wp_range (n := 0) (gf := 58) (lb := #[.pointer (some ⟨bS, 0, none⟩), .pointer (some ⟨bP, 0, none⟩), .pointer (some ⟨bI, 0, none⟩)]) rfl (enters_of Try.func58 (by kernel_rfl) rfl) hit (fun _ => rfl)
    (fun k W => Hid (seekN (openP (R * C) b k0 f) (R * C) 0 = seekN (openP (R * C) b k0 f) (R * C - k) k) ∧ Kept0 w6 W)
    (fun c k W => c = .ret ∧ Hid (freeK (R * C) b k0 f = some (stp (R * C) b k0 k)) ∧ W.cell? ⟨w.heap.size + 1, 0, none⟩ = some (.int .i64 (rowOf C (stp (R * C) b k0 k) : Int)) ∧ W.cell? ⟨w.heap.size + 1, 1, none⟩ = some (.int .i64 (colOf C (stp (R * C) b k0 k) : Int)) ∧ W.cell? ⟨w.heap.size + 1 + 1, 0, none⟩ = some (.bool true) ∧ Kept (fun q => q = w.heap.size + 1 ∨ q = w.heap.size + 1 + 1) w6 W)
    (fun _ _ _ h b => ⟨h.1, h.2.thenBelow b (Nat.le_refl _)⟩)
    (fun _ _ _ _ h b => ?_)
    (fun _ W h => hr6.kept0 h.2)
    ⟨rfl, Kept.refl _ _⟩ ?_ ?_ ?_)
  · obtain ⟨h1, h2, h3, h4, h5, h6⟩ := h
    exact ⟨h1, h2, (b.cell (p := ⟨w.heap.size + 1, 0, none⟩) hl1).trans h3, (b.cell (p := ⟨w.heap.size + 1, 1, none⟩) hl1).trans h4, (b.cell (p := ⟨w.heap.size + 1 + 1, 0, none⟩) hl2).trans h5, h6.thenBelow b (Nat.le_refl _)⟩
  · rintro l9 k W hl3 hl4 hk ⟨hI0, hI1⟩
    have hsW := hI1.size
    unfold rndArgs
    have hx := stp_lt (N := R * C) (k := k0) (i := k) (b := b) (by omega)
    have hth := there_row_col hx hC1
    have hidx : idx C (rowOf C (stp (R * C) b k0 k) : Int) (colOf C (stp (R * C) b k0 k) : Int) = stp (R * C) b k0 k := idx_row_col C _
    have hop : openP (R * C) b k0 f k = !(f (stp (R * C) b k0 k)).b := rfl
    obtain ⟨x, hxe⟩ : ∃ x, x = stp (R * C) b k0 k := ⟨_, rfl⟩
    have HXE := Lib.hid hxe
    rw [← hxe] at hth hidx hop hx ⊢
    have HTH := Lib.hid hth
    have HID := Lib.hid hidx
    have HOP := Lib.hid hop
    clear hth hidx hop hxe
    gi_wp2_with fail
    refine ⟨(Kept.refl _ W).alloc _, fun W2 hk2 hb2 => ?_⟩
    have hlW : ¬ W.heap.size = l9 := by omega
    have b0 : W2.cell? ⟨W.heap.size, 0, none⟩ = some (.int .i64 (rowOf C x : Int)) := (hk2.cell (by simp) hlW).trans (by simp [go_sem])
    have b1 : W2.cell? ⟨W.heap.size, 1, none⟩ = some (.int .i64 (colOf C x : Int)) := (hk2.cell (by simp) hlW).trans (by simp [go_sem])
    have hbW : Below w6.heap.size W W2 := ((Below.refl _ W).alloc (by omega) _).trans hb2
    have hI2 : Kept0 w6 W2 := hI1.thenBelow hbW (Nat.le_refl _)
    have y9 := kcell hI2 hbx
    have hGW := hG6.kept hI2 (fun e => e) (fun e => e)
    clear hk2 hb2 hbW
    gi_wp2_with fail
    refine round_call0 ((at_in g t cap R C f _ _ _ hGW HTH.out).mono ?_)
    rw [HID.out]
    rintro e W3 ⟨rfl, hk3⟩
    replace b0 := kcell hk3 b0
    replace b1 := kcell hk3 b1
    have hI3 : Kept0 w6 W3 := hI2.trans hk3
    have hT3 := hT6.kept0 hI3
    have hB3 := hB6.kept hI3 (fun e => e)
    have l1 := hT3.lt
    have l2 := hB3.lt
    have lW : W.heap.size < W3.heap.size := World.block_lt_of_cell? W3 _ b0
    obtain ⟨t0, t1, t2, t3⟩ := hT3
    obtain ⟨u0, u1⟩ := hB3
    have hK3 := Lib.hid hk3
    clear hI2 hk3 hGW y9 hG6 hT6 hB6
    have HI0 := Lib.hid hI0.out
    clear hI0
    obtain ⟨y, hy⟩ : ∃ y, y = f x := ⟨_, rfl⟩
    rw [← hy] at HOP ⊢
    clear hy
    obtain ⟨m, hm⟩ : ∃ m, R * C - k = m + 1 := ⟨R * C - k - 1, by omega⟩
    obtain ⟨yg, ya, yb, ym⟩ := y
    cases yb
    · have HF : Hid (freeK (R * C) b k0 f = some (stp (R * C) b k0 k)) := by
        show freeK (R * C) b k0 f = some (stp (R * C) b k0 k)
        unfold freeK
        rw [HI0.out, hm, seekN_yes HOP.out]
        rfl
      gi_wp2_with fail
      refine ⟨?_, rfl, HF, ?_, ?_, ?_, ?_⟩
      · exact (((hK3.out.to.setCell _ (Or.inr (by simp; omega)) _).setCell _ (Or.inr (by simp; omega)) _).setCell _ (Or.inr (by simp; omega)) _).alloc _
      · rw [← HXE.out]; refine kcell ((Kept.refl _ _).alloc _) ?_; simp [go_sem, t0]
      · rw [← HXE.out]; refine kcell ((Kept.refl _ _).alloc _) ?_; simp [go_sem, t1]
      · refine kcell ((Kept.refl _ _).alloc _) ?_; simp [go_sem, u0]
      · exact (((hI3.to.setCell _ (Or.inr (Or.inl rfl)) _).setCell _ (Or.inr (Or.inl rfl)) _).setCell _ (Or.inr (Or.inr rfl)) _).alloc _
    · have HF : Hid (seekN (openP (R * C) b k0 f) (R * C) 0 = seekN (openP (R * C) b k0 f) (R * C - (k + 1)) (k + 1)) := by
        show seekN (openP (R * C) b k0 f) (R * C) 0 = seekN (openP (R * C) b k0 f) (R * C - (k + 1)) (k + 1)
        rw [HI0.out, hm, seekN_no HOP.out, show R * C - (k + 1) = m by omega]
      gi_wp2_with fail
      exact ⟨hK3.out.to.alloc _, HF, hI3.alloc _⟩
  · rintro D W hD ⟨hI0, hI1⟩ hDc
    have hfr : freeK (R * C) b k0 f = none := by
      unfold freeK
      rw [hI0.out, Nat.sub_self]
      rfl
    have ho : o = none := HO.out.trans hfr
    subst ho
    have hT := hT6.kept0 hI1
    have hB := hB6.kept hI1 (fun e => e)
    have l1 := hT.lt
    have l2 := hB.lt
    obtain ⟨t0, t1, t2, t3⟩ := hT
    obtain ⟨u0, u1⟩ := hB
    have HD := Lib.hid hDc
    have hI1' := Lib.hid hI1
    clear hDc hI0 hfr HO hit HST hG6 hr6 hT6 hB6 hbx
    go_wp2_with fail
    obtain ⟨W4, hW4⟩ : ∃ W4, W4 = ((W.setCell ⟨w.heap.size + 1, 0, none⟩ (.int .i64 0)).setCell ⟨w.heap.size + 1, 1, none⟩ (.int .i64 0)).setCell ⟨w.heap.size + 1 + 1, 0, none⟩ (.bool false) := ⟨_, rfl⟩
    have q0 : W4.cell? ⟨w.heap.size + 1, 0, none⟩ = some (.int .i64 0) := by rw [hW4]; simp [go_sem, t0]
    have q1 : W4.cell? ⟨w.heap.size + 1, 1, none⟩ = some (.int .i64 0) := by rw [hW4]; simp [go_sem, t1]
    have q2 : W4.cell? ⟨w.heap.size + 1 + 1, 0, none⟩ = some (.bool false) := by rw [hW4]; simp [go_sem, u0]
    have hk4 : Kept0 w W4 := by rw [hW4]; exact (((k06.trans hI1'.out).setCell _ (Or.inl (by simp)) _).setCell _ (Or.inl (by simp)) _).setCell _ (Or.inl (by simp; omega)) _
    have hDl : D < W.heap.size := (Array.getElem?_eq_some_iff.1 HD.out).1
    have hD4 : W4.heap[D]? = some (.deferred (some [])) := by
      rw [hW4]
      exact (Below.heap_setCell _ _ _ _ (by simp; omega)).trans ((Below.heap_setCell _ _ _ _ (by simp; omega)).trans ((Below.heap_setCell _ _ _ _ (by simp; omega)).trans HD.out))
    rw [← hW4]
    clear hW4
    have r0 : (W4.putObj D (.deferred none)).cell? ⟨w.heap.size + 1, 0, none⟩ = some (.int .i64 0) := (World.cell?_of_block (World.putObj_heap_other (by simp; omega))).trans q0
    have r1 : (W4.putObj D (.deferred none)).cell? ⟨w.heap.size + 1, 1, none⟩ = some (.int .i64 0) := (World.cell?_of_block (World.putObj_heap_other (by simp; omega))).trans q1
    have r2 : (W4.putObj D (.deferred none)).cell? ⟨w.heap.size + 1 + 1, 0, none⟩ = some (.bool false) := (World.cell?_of_block (World.putObj_heap_other (by simp; omega))).trans q2
    refine ⟨by simp, .inl ⟨_, _, rfl, run_takeDeferred hD4, ?_⟩⟩
    refine ⟨.tuple #[pos 0 0, .bool false], by simp [results, Try.results43, go_sem, r0, r1, r2], rfl, ?_⟩
    exact hk4.thenBelow (below_putObj _ hD) (by omega)
  · rintro D c k W hD hk ⟨rfl, hF, c0, c1, c2, hI1⟩ hDc
    have ho : o = some (stp (R * C) b k0 k) := HO.out.trans hF.out
    have HD := Lib.hid hDc
    have hsW := hI1.size
    clear hDc HO hit HST hG6 hr6 hT6 hB6 hbx hF
    gi_wp2_with fail
    have hk4 : Kept0 w W := k06.later hI1 (fun i hi e => by omega)
    have hDl : D < W.heap.size := (Array.getElem?_eq_some_iff.1 HD.out).1
    have hD4 := HD.out
    have r0 : (W.putObj D (.deferred none)).cell? ⟨w.heap.size + 1, 0, none⟩ = some (.int .i64 (rowOf C (stp (R * C) b k0 k) : Int)) := (World.cell?_of_block (World.putObj_heap_other (by simp; omega))).trans c0
    have r1 : (W.putObj D (.deferred none)).cell? ⟨w.heap.size + 1, 1, none⟩ = some (.int .i64 (colOf C (stp (R * C) b k0 k) : Int)) := (World.cell?_of_block (World.putObj_heap_other (by simp; omega))).trans c1
    have r2 : (W.putObj D (.deferred none)).cell? ⟨w.heap.size + 1 + 1, 0, none⟩ = some (.bool true) := (World.cell?_of_block (World.putObj_heap_other (by simp; omega))).trans c2
    refine ⟨by simp, .inl ⟨_, _, rfl, run_takeDeferred hD4, ?_⟩⟩
    refine ⟨.tuple #[pos (rowOf C (stp (R * C) b k0 k) : Int) (colOf C (stp (R * C) b k0 k) : Int), .bool true], by simp [results, Try.results43, go_sem, r0, r1, r2], by rw [ho]; rfl, ?_⟩
    exact hk4.thenBelow (below_putObj _ hD) (by omega)
end Go.Proofs.Ytkdnjkcebfckiaa
