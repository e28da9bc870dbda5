/-
  What Back and Turn answer, and that awake answers true.
-/
import Derived.Test.YtlhajbcabpfbkaaDoorGlTell
import Derived.Test.YtlhajbcabpfbkaaDoorGlRef
namespace Go.Proofs.YtlhajbcabpfbkaaDoor.Gl
open Go.RowKit

attribute [local go_sem] Oper.semAt_some

theorem Kept.set1 (w : World) (b o : Nat) (v : Value) : Kept (· = b) w (w.setCell ⟨b, o, none⟩ v) :=
  ⟨rfl, rfl, rfl, by simp [World.setCell], fun k _ hs => Below.heap_setCell _ _ _ _ (fun e => hs e)⟩

def bkB (o : Option Nat) : Int := ((o.getD 0 : Nat) : Int)

set_option maxRecDepth 100000 in
set_option maxHeartbeats 4000000 in
theorem back_any (set r : Int) (w : World) : Calls Tryd.prog 20 #[.int .i64 set, .int .i32 r] w fun e w' => e = .returned (.tuple #[.int .u8 (bkB (bk set r)), .bool (bk set r).isSome]) ∧ Kept0 w w' := by
  refine calls_marks Tryd.func20 rfl ?_
  simp only [Tryd.ntmps20, List.size_toArray, List.length_cons, List.length_nil, Nat.reduceAdd, Nat.reduceSub, Array.replicate_succ, Array.replicate_zero, List.push_toArray, List.append_toArray, List.nil_append, List.cons_append]
  go_wp2_with fail
  obtain ⟨w1, hw1⟩ : ∃ w1, w1 = ((w.alloc (.cells #[.int .i32 r] 21)).alloc (.cells #[.int .u8 0] 5)).alloc (.cells #[.bool false] 4) := ⟨_, rfl⟩
  have hk1 : Kept0 w w1 := by rw [hw1]; exact (((Kept.refl _ w).alloc _).alloc _).alloc _
  have hh0 : w1.heap[w.heap.size]? = some (.cells #[.int .i32 r] 21 (0, 0)) := by
    rw [hw1]; exact (Below.heap_alloc _ _ _ (by simp; omega)).trans ((Below.heap_alloc _ _ _ (by simp)).trans (heap_new w _))
  have hh1 : w1.heap[w.heap.size + 1]? = some (.cells #[.int .u8 0] 5 (0, 0)) := by
    rw [hw1]; exact (Below.heap_alloc _ _ _ (by simp)).trans (heap_new2 w _ _)
  have hh2 : w1.heap[w.heap.size + 2]? = some (.cells #[.bool false] 4 (0, 0)) := by
    rw [hw1]; exact heap_new3 w _ _ _
  have hs1 : w.heap.size + 3 = w1.heap.size := by rw [hw1]; simp
  rw [← hw1]
  clear hw1
  refine (all_any _ _).mono ?_
  rintro e w9 ⟨rfl, rfl⟩
  go_wp2_with fail
  obtain ⟨w6, hw6⟩ : ∃ w6, w6 = w1.alloc (.cells #[.int .i64 set] 3) := ⟨_, rfl⟩
  have hbx : w6.cell? ⟨w1.heap.size, 0, none⟩ = some (.int .i64 set) := by rw [hw6]; simp [go_sem]
  have hk6 : Kept0 w1 w6 := by rw [hw6]; exact (Kept.refl _ w1).alloc _
  have hs6 : w1.heap.size + 1 = w6.heap.size := by rw [hw6]; simp
  rw [← hw6]
  clear hw6
  have k06 : Kept0 w w6 := hk1.trans hk6
  replace hh0 := (hk6.block _ (by omega) (fun e => e)).trans hh0
  replace hh1 := (hk6.block _ (by omega) (fun e => e)).trans hh1
  replace hh2 := (hk6.block _ (by omega) (fun e => e)).trans hh2
  have hl1 : w.heap.size + 1 < w6.heap.size := by omega
  have hl2 : w.heap.size + 2 < w6.heap.size := by omega
  refine wpIn_wide.1 (wp_range (n := 0) (gf := 42) (lb := #[.pointer (some ⟨w1.heap.size, 0, none⟩)]) rfl (enters_of Tryd.func42 (by kernel_rfl) rfl) (all_iter w1.heap.size set) (fun _ => rfl)
    (fun k W => Hid (∀ j q, j < k → (allL set)[j]? = some q → (q.2 : Int) ≠ r) ∧ Kept0 w6 W)
    (fun c k W => c = .ret ∧ ∃ p, (allL set)[k]? = some p ∧ (p.2 : Int) = r ∧ Hid (∀ j q, j < k → (allL set)[j]? = some q → (q.2 : Int) ≠ r) ∧ W.cell? ⟨w.heap.size + 1, 0, none⟩ = some (.int .u8 (p.1 : Int)) ∧ W.cell? ⟨w.heap.size + 2, 0, none⟩ = some (.bool true) ∧ Kept (fun b => b = w.heap.size + 1 ∨ b = w.heap.size + 2) w6 W)
    (fun _ _ _ h b => ⟨h.1, h.2.thenBelow b (Nat.le_refl _)⟩)
    (fun _ _ _ _ h b => ?_)
    (fun _ W h => kcell h.2 hbx)
    ⟨fun _ _ hj => absurd hj (by omega), Kept.refl _ _⟩ ?_ ?_ ?_)
  · obtain ⟨h1, p, h2, h3, h4, h5, h6, h7⟩ := h
    exact ⟨h1, p, h2, h3, h4, (b.cell (p := ⟨w.heap.size + 1, 0, none⟩) hl1).trans h5, (b.cell (p := ⟨w.heap.size + 2, 0, none⟩) hl2).trans h6, h7.thenBelow b (Nat.le_refl _)⟩
  · rintro l9 k W hl3 hl4 hk ⟨hI0, hI1⟩
    have hsW := hI1.size
    obtain ⟨p, hp⟩ : ∃ p, (allL set)[k]? = some p := ⟨_, List.getElem?_eq_getElem hk⟩
    have hpm := allL_mem hp
    rw [allArgs_of hp]
    unfold pairArgs
    have HP := Lib.hid hp
    clear hp hpm
    gi_wp2_with fail
    refine ⟨Kept.refl _ W, fun W2 hk2 hb2 => ?_⟩
    have hI2 : Kept0 w6 W2 := hI1.thenBelow hb2 (Nat.le_refl _)
    have hsW2 := hI2.size
    have g0 := (hI2.block w.heap.size (by omega) (fun e => e)).trans hh0
    have g1 := (hI2.block (w.heap.size + 1) (by omega) (fun e => e)).trans hh1
    have g2 := (hI2.block (w.heap.size + 2) (by omega) (fun e => e)).trans hh2
    have c0 : W2.cell? ⟨w.heap.size, 0, none⟩ = some (.int .i32 r) := by simp [World.cell?, g0]
    have c1 : W2.cell? ⟨w.heap.size + 1, 0, none⟩ = some (.int .u8 0) := by simp [World.cell?, g1]
    have c2 : W2.cell? ⟨w.heap.size + 2, 0, none⟩ = some (.bool false) := by simp [World.cell?, g2]
    have f1 : W2.frozen? ⟨w.heap.size + 1, 0, none⟩ = false := by simp [World.frozen?, g1]
    have f2 : W2.frozen? ⟨w.heap.size + 2, 0, none⟩ = false := by simp [World.frozen?, g2]
    clear g0 g1 g2 hh0 hh1 hh2 hk2 hb2
    by_cases hr : (p.2 : Int) = r
    · gi_wp2_with fail
      refine ⟨?_, rfl, p, HP.out, hr, hI0, ?_, ?_, ?_⟩
      · exact ((Kept.set1 W2 _ 0 _).mono (fun _ _ e => by omega)).trans ((Kept.set1 _ _ 0 _).mono (fun _ _ e => by omega))
      · simp [go_sem, c1]
      · simp [go_sem, c2]
      · exact (hI2.to.trans ((Kept.set1 W2 _ 0 _).mono (fun _ _ e => Or.inl e))).trans ((Kept.set1 _ _ 0 _).mono (fun _ _ e => Or.inr e))
    · have hr2 : ((p.2 : Int) == r) = false := by simpa using hr
      gi_wp2_with fail
      refine ⟨Kept.refl _ W2, fun j q hj hq => ?_, hI2⟩
      rcases Nat.lt_succ_iff_lt_or_eq.1 hj with h1 | h1
      · exact hI0.out j q h1 hq
      · subst h1
        rw [HP.out] at hq
        cases hq
        exact hr
  · rintro D W hD ⟨hI0, hI1⟩ hDc
    have hbk : bk set r = none := bk_miss fun j q hq => hI0.out j q (List.getElem?_eq_some_iff.1 hq).1 hq
    have HB := Lib.hid hbk
    have hsW := hI1.size
    have g1 := (hI1.block (w.heap.size + 1) (by omega) (fun e => e)).trans hh1
    have g2 := (hI1.block (w.heap.size + 2) (by omega) (fun e => e)).trans hh2
    have c1 : W.cell? ⟨w.heap.size + 1, 0, none⟩ = some (.int .u8 0) := by simp [World.cell?, g1]
    have c2 : W.cell? ⟨w.heap.size + 2, 0, none⟩ = some (.bool false) := by simp [World.cell?, g2]
    have f1 : W.frozen? ⟨w.heap.size + 1, 0, none⟩ = false := by simp [World.frozen?, g1]
    have f2 : W.frozen? ⟨w.heap.size + 2, 0, none⟩ = false := by simp [World.frozen?, g2]
    have HD := Lib.hid hDc
    clear hDc hI0 hbk g1 g2 hh0 hh1 hh2
    go_wp2_with fail
    obtain ⟨W4, hW4⟩ : ∃ W4, W4 = (W.setCell ⟨w.heap.size + 1, 0, none⟩ (.int .u8 0)).setCell ⟨w.heap.size + 2, 0, none⟩ (.bool false) := ⟨_, rfl⟩
    have q1 : W4.cell? ⟨w.heap.size + 1, 0, none⟩ = some (.int .u8 0) := by rw [hW4]; simp [go_sem, c1]
    have q2 : W4.cell? ⟨w.heap.size + 2, 0, none⟩ = some (.bool false) := by rw [hW4]; simp [go_sem, c2]
    have hk4 : Kept0 w W4 := by rw [hW4]; exact ((k06.trans hI1).setCell _ (Or.inl (by simp)) _).setCell _ (Or.inl (by simp)) _
    have hDl : D < W.heap.size := (Array.getElem?_eq_some_iff.1 HD.out).1
    have hD4 : W4.heap[D]? = some (.deferred (some [])) := by
      rw [hW4]
      exact (Below.heap_setCell _ _ _ _ (by simp; omega)).trans ((Below.heap_setCell _ _ _ _ (by simp; omega)).trans HD.out)
    rw [← hW4]
    clear hW4
    have q3 : (W4.putObj D (.deferred none)).cell? ⟨w.heap.size + 1, 0, none⟩ = some (.int .u8 0) := (World.cell?_of_block (World.putObj_heap_other (by simp; omega))).trans q1
    have q4 : (W4.putObj D (.deferred none)).cell? ⟨w.heap.size + 2, 0, none⟩ = some (.bool false) := (World.cell?_of_block (World.putObj_heap_other (by simp; omega))).trans q2
    refine ⟨by simp, .inl ⟨_, _, rfl, run_takeDeferred hD4, ?_⟩⟩
    refine ⟨.tuple #[.int .u8 0, .bool false], by simp [results, Tryd.results20, go_sem, q3, q4], by rw [HB.out]; rfl, ?_⟩
    exact hk4.thenBelow (below_putObj _ hD) (by omega)
  · rintro D c k W hD hk ⟨rfl, p, hp, hpr, hI0, c1, c2, hI1⟩ hDc
    have hbk : bk set r = some p.1 := bk_hit hp hpr fun j q hj hq => hI0.out j q hj hq
    have HB := Lib.hid hbk
    have hsW := hI1.size
    have HD := Lib.hid hDc
    clear hDc hI0 hbk
    gi_wp2_with fail
    have hk4 : Kept0 w W := k06.later hI1 (fun i hi e => by omega)
    have hDl : D < W.heap.size := (Array.getElem?_eq_some_iff.1 HD.out).1
    have hD4 := HD.out
    have q3 : (W.putObj D (.deferred none)).cell? ⟨w.heap.size + 1, 0, none⟩ = some (.int .u8 (p.1 : Int)) := (World.cell?_of_block (World.putObj_heap_other (by simp; omega))).trans c1
    have q4 : (W.putObj D (.deferred none)).cell? ⟨w.heap.size + 2, 0, none⟩ = some (.bool true) := (World.cell?_of_block (World.putObj_heap_other (by simp; omega))).trans c2
    refine ⟨by simp, .inl ⟨_, _, rfl, run_takeDeferred hD4, ?_⟩⟩
    refine ⟨.tuple #[.int .u8 (p.1 : Int), .bool true], by simp [results, Tryd.results20, go_sem, q3, q4], by rw [HB.out]; rfl, ?_⟩
    exact hk4.thenBelow (below_putObj _ hD) (by omega)


theorem bk_awake : bk 2 9608 = some 219 := by decide +kernel
theorem ref_awake : refN 3 97 = 9608 ∧ refN 2 219 = 9608 ∧ refN 5 225 = 65 := by decide +kernel


def bkI (o : Option Nat) : Int := match o with | some b => (b : Int) | none => -1


end Go.Proofs.YtlhajbcabpfbkaaDoor.Gl
