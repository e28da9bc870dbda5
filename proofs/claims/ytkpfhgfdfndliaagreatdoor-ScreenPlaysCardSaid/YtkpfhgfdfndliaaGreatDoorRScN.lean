/-
  The document's screen: New.
-/
import Derived.Test.YtkpfhgfdfndliaaGreatDoorRScB
import Derived.Test.YtkpfhgfdfndliaaGreatDoorOf
import Derived.Deep.AppendLies
namespace Go.Proofs.YtkpfhgfdfndliaaGreatDoor
open Go.RowKit

/-- A call in a region: its contract, handed to the walk as a law. -/
theorem step_call {P : Program} {ops : Array Oper} {o : Oper} {a : Act} {w : World} {K : Act → World → Prop} {Q : Exit → Act → World → Prop} {E : Prop} (hgd : o.guard = none) (f : Nat) (args : Array Value)
    (hr : (execOp a.eval o).run P w = .ok (.enter f args) w) (V : Value) (C : World → Prop) (hc : Calls P f args w fun e w' => e = .returned V ∧ C w') (h : ∀ w', C w' → K (a.put o.dst V) w') :
    if Region.wanted o (yielded ops a.tmps) = true then Oper.wp P o a w K Q else E := by
  have hw : Region.wanted o (yielded ops a.tmps) = true := by simp [Region.wanted, hgd]
  rw [if_pos hw]
  unfold Oper.wp
  rw [hr]
  refine Calls.mono hc ?_
  rintro e w' ⟨rfl, hC⟩
  exact h _ hC

/-- The document's grid while blanks are put behind each other. -/
structure NewP (w wr : World) (R C i : Nat) (v : Value) : Prop where
  head : wr.heap[w.heap.size + 1]? = some (.cells #[.int .i64 R, .int .i64 C, v] 78 (0, 0))
  own : wr.ownsRow (w.heap.size + 2) 36 4 v i (parts (fun _ => blk) 0 i)
  size : Two wr w.heap.size R C
  kept : Kept0 w wr

set_option maxRecDepth 100000 in
set_option maxHeartbeats 4000000 in
theorem rnew_any (R C : Nat) (w : World) (h1 : 1 ≤ R ∧ R ≤ 255 ∧ 1 ≤ C ∧ C ≤ 255) :
    Calls Tryz.prog 12 #[pos R C] w fun e w' => ∃ s g t cap tb m, e = .returned (ptr s) ∧ (∀ i, Own s g t tb m i → w.heap.size ≤ i) ∧ RIn w' s g t cap tb m R C (fun _ => blk) (fun _ => false) 0 0 false ∧ Kept0 w w' := by
  have hRC : R * C ≤ 65025 := Nat.mul_le_mul h1.2.1 h1.2.2.2
  have HB := Lib.hid h1
  have hwm : IntKind.i64.wrap ((R : Int) * (C : Int)) = ((R * C : Nat) : Int) := by rw [show (R : Int) * (C : Int) = ((R * C : Nat) : Int) by simp]; exact IntWalk.i64_in _ ⟨by omega, by omega⟩
  obtain ⟨i0, hi0, hz0, hz1, hz2⟩ := info_parts Tryz.info36
  obtain ⟨N, hN⟩ : ∃ N, N = R * C := ⟨_, rfl⟩
  have HN := Lib.hid hN
  rw [← hN] at hwm hRC
  clear hN h1
  go_enter Tryz.func12, Tryz.ntmps12
  go_wp2_with fail
  obtain ⟨w1, hw1⟩ : ∃ w1, w1 = (w.alloc (.cells #[.int .i64 R, .int .i64 C] 23)).alloc (.cells #[.int .i64 R, .int .i64 C, .slice none 0 0] 78) := ⟨_, rfl⟩
  have HP : Hid (NewP w w1 R C 0 (.slice none 0 0)) := by
    rw [hw1]
    exact ⟨heap_new2 _ _ _, World.ownsRow_nil _ _ _ _, (Two.of (heap_new w _)).kept0 ((Kept.refl _ _).alloc _), ((Kept.refl _ w).alloc _).alloc _⟩
  rw [← hw1]
  clear hw1
  go_loopw [4] (fun s4 wr => ∃ (i : Nat) (v : Value), i ≤ N ∧ s4 = .int .i64 (i : Int) ∧ Hid (NewP w wr R C i v)) (fun s4 _ => N - (intOf s4).toNat)
  case atStart => exact ⟨0, _, by omega, rfl, HP⟩
  case round =>
    clear HP
    obtain ⟨i, v, hiR, rfl, HP⟩ := hrel
    obtain ⟨p0, p1, _, _⟩ := HP.out.size
    by_cases hlt : i < N
    · have hdt : decide ((i : Int) < (N : Int)) = true := by simp; omega
      have HSZ := Lib.hid HP.out.size
      obtain ⟨hh, hown, _, hk⟩ := HP.out
      have hgl : w.heap.size + 1 < wr.heap.size := (Array.getElem?_eq_some_iff.1 hh).1
      have HH := Lib.hid hh
      have HO := Lib.hid hown
      have HK := Lib.hid hk
      have q2 : wr.cell? ⟨w.heap.size + 1, 2, none⟩ = some v := by simp [World.cell?, hh]
      have q3 : wr.frozen? ⟨w.heap.size + 1, 2, none⟩ = false := by simp [World.frozen?, hh]
      clear hh hown hk HP
      have n1 : ¬ w.heap.size + 1 = wr.heap.size := by omega
      have HNV : Hid (some (w.heap.size + 1) ≠ v.ownBlock) := fun e => by have := (HO.out.lt _ e.symm).1; omega
      have HLV : Hid (∀ k, v.ownBlock = some k → w.heap.size + 2 ≤ k) := fun k e => (HO.out.lt _ e).1
      have hiN : (i + 1) * 32 ≤ 140737488355328 := by omega
      have hiM : i + 1 ≤ maxLen := by unfold maxLen; omega
      go_wp2_with fail
      go_region_law
        (first
          | (refine step_call rfl 30 #[] (by go_simp) blk.v (fun w' => Kept0 wr w') ((blankR _).mono (by rintro e w3 ⟨rfl, hk3⟩; exact ⟨rfl, (Kept.refl _ wr).drew.trans hk3⟩)) ?_; intro w3 hk3; have kn : Hid (Kept0 wr w3) := hk3; have z2 := kcell kn.out q2; have z3 := kfrozen kn.out q2 q3; have hz3 := kn.out.size
             have HQ2 : Hid ((w3.alloc (.cells #[.int .i32 32, .int .i64 0, .bool false, .int .i64 0] 36)).cell? ⟨w.heap.size + 1, 2, none⟩ = some v) := kcell ((Kept.refl (fun _ => False) w3).alloc _) z2
             have HQ3 : Hid ((w3.alloc (.cells #[.int .i32 32, .int .i64 0, .bool false, .int .i64 0] 36)).frozen? ⟨w.heap.size + 1, 2, none⟩ = false) := kfrozen ((Kept.refl (fun _ => False) w3).alloc _) z2 z3
             have z5 : (w3.alloc (.cells #[.int .i32 blk.g, .int .i64 blk.a, .bool blk.b, .int .i64 blk.m] 36)).cell? ⟨w.heap.size + 1, 2, none⟩ = some v := kcell ((Kept.refl (fun _ => False) w3).alloc _) z2
             have HLT : Hid (w.heap.size + 1 < (w3.alloc (.cells #[.int .i32 32, .int .i64 0, .bool false, .int .i64 0] 36)).heap.size) := by rw [World.size_alloc]; exact Nat.lt_succ_of_lt (by omega)
             have HO3 : Hid ((w3.alloc (.cells #[.int .i32 32, .int .i64 0, .bool false, .int .i64 0] 36)).ownsRow (w.heap.size + 2) 36 4 v i (parts (fun _ => blk) 0 i)) := by
               refine World.ownsRow.alloc ?_ _
               exact HO.out.kept (row := none) ⟨kn.out.os, kn.out.tape, kn.out.output, kn.out.size, fun k hk _ => kn.out.block k hk (fun e => e)⟩ (by by_cases e : v.ownBlock = none <;> simp [e])
             have HNW : Hid (∀ q u, [Value.int .i32 32, .int .i64 0, .bool false, .int .i64 0][q]? = some u → (w3.alloc (.cells #[.int .i32 32, .int .i64 0, .bool false, .int .i64 0] 36)).cell? ((⟨w3.heap.size, 0, none⟩ : Addr).add q) = some u) := fun q u hq => by
               rw [addr_add]
               have hq4 : q < 4 := by have := (List.getElem?_eq_some_iff.1 hq).1; simpa using this
               obtain ⟨n0, n1, n2, n3⟩ := CelAt.new w3 blk 36
               rcases (show q = 0 ∨ q = 1 ∨ q = 2 ∨ q = 3 by omega) with rfl | rfl | rfl | rfl
               · simp only [List.getElem?_cons_zero, Option.some.injEq] at hq; rw [← hq]; exact n0
               · simp only [List.getElem?_cons_succ, List.getElem?_cons_zero, Option.some.injEq] at hq; rw [← hq]; exact n1
               · simp only [List.getElem?_cons_succ, List.getElem?_cons_zero, Option.some.injEq] at hq; rw [← hq]; exact n2
               · simp only [List.getElem?_cons_succ, List.getElem?_cons_zero, Option.some.injEq] at hq; rw [← hq]; exact n3)
          | (refine step_append_lies _ rfl (.tmp 24) (.tmp 26) 76 rfl (w.heap.size + 2) 36 i0 (.agg #[.int .i32 0, .int .i64 0, .bool false, .int .i64 0]) 4 32 Tryz.underlying76 hi0 hz0 hz1 hz2 rfl (by decide) v i (parts (fun _ => blk) 0 i) rfl HO3.out ⟨w3.heap.size, 0, none⟩ 1 1 [.int .i32 32, .int .i64 0, .bool false, .int .i64 0] rfl (by simp) HNW.out (by simp [Value.oneCell']) (by omega) hiM hiN (by rw [World.size_alloc]; omega) (w3.heap.size + 1) (World.size_alloc _ _) ?_; intro g' cap' w7 hown' hgrow _ _; have HOWN := Lib.hid hown'; have HGR := Lib.hid hgrow; have q27 : w7.cell? ⟨w.heap.size + 1, 2, none⟩ = some v := (World.cell?_of_block (hgrow.block _ HLT.out HNV.out)).trans HQ2.out; have q37 : w7.frozen? ⟨w.heap.size + 1, 2, none⟩ = false := (World.frozen?_of_block (hgrow.block _ HLT.out HNV.out)).trans HQ3.out; clear hown' hgrow))
      all_goals
        have hh7 : w7.heap[w.heap.size + 1]? = some (.cells #[.int .i64 R, .int .i64 C, v] 78 (0, 0)) := (HGR.out.block _ HLT.out HNV.out).trans ((Below.heap_alloc _ _ _ (by have := kn.out.size; omega)).trans ((kn.out.block _ hgl (fun e => e)).trans HH.out))
        have hfin : NewP w (w7.setCell ⟨w.heap.size + 1, 2, none⟩ (.slice (some ⟨g', 0, none⟩) (i + 1) cap')) R C (i + 1) (.slice (some ⟨g', 0, none⟩) (i + 1) cap') := by
          have k7 : Kept0 w w7 := (((HK.out.trans kn.out).alloc _).later (Kept.ofGrown HGR.out) (fun j hj e => by have := HLV.out _ e.symm; omega))
          refine ⟨by simp [World.setCell, Array.getElem?_modify, hh7], ?_, ?_, k7.setCell _ (Or.inl (Nat.le_add_right _ 1)) _⟩
          · have e4 := parts_succ (fun _ => blk) i
            rw [e4]
            exact ownsRow_setCell_below HOWN.out (by simp) _
          · have k8 := (Kept0.to (kn.out.alloc (.cells #[.int .i32 32, .int .i64 0, .bool false, .int .i64 0] 36))).trans (Kept.ofGrown HGR.out)
            exact (HSZ.out.kept k8 (fun e => by have := HLV.out _ e.symm; omega)).kept (Kept.set1 _ _ _ _) (by show ¬ w.heap.size = w.heap.size + 1; omega)
        have HP' := Lib.hid hfin
        clear hfin hh7
        go_wp2_with fail
        go_roundw
        case rel => exact ⟨i + 1, _, by omega, by go_num, HP'⟩
        case measure => simp [intOf]; omega
    · obtain rfl : i = N := by omega
      have hdt : decide ((i : Int) < (i : Int)) = false := by simp
      go_wp2_with fail
      refine (Tb.refNew_any C _ HB.out.2.2.1 HB.out.2.2.2).mono ?_
      rintro e w3 ⟨tb, m, rfl, htb, hm, hT, hk3⟩
      have HT := Lib.hid hT
      have HK3 := Lib.hid hk3
      clear hT hk3
      go_wp2_with fail
      go_ret
      obtain ⟨t, cap, hv, ht', hcap, hI⟩ := cells_of_owned (n := i) (f := fun _ => blk) HP.out.own (fun j hj => by have := parts_get (fun _ => blk) 0 i j hj; simpa using this) (by rw [HN.out]; exact Nat.mul_pos HB.out.1 HB.out.2.2.1)
      have hz := HP.out.kept.size
      have hgl : w.heap.size + 1 < wr.heap.size := (Array.getElem?_eq_some_iff.1 HP.out.head).1
      have hz3 := HK3.out.size
      have hr3 := HT.out.lt
      have hr4 := HT.out.ltb
      refine ⟨w3.heap.size, w.heap.size + 1, t, cap, tb, m, rfl, ?_, ⟨heap_new _ _, ?_, ?_, ⟨by omega, by have := HB.out.1; omega, by omega, by have := HB.out.2.2.1; omega⟩⟩, (HP.out.kept.trans HK3.out).alloc _⟩
      · rintro k (rfl | rfl | rfl | rfl | rfl) <;> omega
      · have h5 : RefAt wr (w.heap.size + 1) t cap R C (fun _ => blk) := by
          have h6 := HP.out.head
          rw [hv, HN.out] at h6
          rw [HN.out] at hI hcap
          exact ⟨h6, hI, hcap, HB.out.1, HB.out.2.1, HB.out.2.2.1, HB.out.2.2.2⟩
        exact h5.kept (HK3.out.alloc _) (fun e => e) (fun e => e)
      · exact HT.out.kept0 ((Kept.refl _ _).alloc _)
end Go.Proofs.YtkpfhgfdfndliaaGreatDoor
