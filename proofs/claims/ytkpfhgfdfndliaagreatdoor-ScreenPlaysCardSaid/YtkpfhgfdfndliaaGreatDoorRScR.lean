/-
  The document's screen: Resize.
-/
import Derived.Test.YtkpfhgfdfndliaaGreatDoorRScN
namespace Go.Proofs.YtkpfhgfdfndliaaGreatDoor
open Go.RowKit

/-- The cells of a new grid, where those of i rows and j columns more have been put. -/
def rzF (F : Nat → Cel) (R C C' i j : Nat) : Nat → Cel := fun k => if rowOf C' k < R ∧ colOf C' k < C ∧ (rowOf C' k < i ∨ rowOf C' k = i ∧ colOf C' k < j) then F (rowOf C' k * C + colOf C' k) else blk
theorem rzF_zero (F : Nat → Cel) (R C C' : Nat) : rzF F R C C' 0 0 = fun _ => blk := by
  funext k
  unfold rzF
  rw [if_neg (by omega)]
theorem rzF_put {F : Nat → Cel} {R C C' i j : Nat} (hi : i < R) (hj : j < C) (hj' : j < C') (k : Nat) : upd (rzF F R C C' i j) (i * C' + j) (F (i * C + j)) k = rzF F R C C' i (j + 1) k := by
  unfold upd
  by_cases e : k = i * C' + j
  · rw [if_pos e]
    obtain ⟨e1, e2⟩ := idx_unique hj' e.symm
    unfold rzF
    rw [← e1, ← e2, if_pos ⟨hi, hj, by omega⟩]
  · rw [if_neg e]
    have hne : ¬ (rowOf C' k = i ∧ colOf C' k = j) := fun h => e (by have := row_col_eq (C := C') (j := k); rw [h.1, h.2] at this; exact this.symm)
    unfold rzF
    by_cases c : rowOf C' k < R ∧ colOf C' k < C ∧ (rowOf C' k < i ∨ rowOf C' k = i ∧ colOf C' k < j)
    · rw [if_pos c, if_pos ⟨c.1, c.2.1, by omega⟩]
    · rw [if_neg c, if_neg (by omega)]
theorem rzF_row {F : Nat → Cel} {R C C' i j : Nat} (hC' : 1 ≤ C') (hj : C ≤ j ∨ C' ≤ j) (k : Nat) : rzF F R C C' i j k = rzF F R C C' (i + 1) 0 k := by
  have := colOf_lt (k := k) hC'
  unfold rzF
  by_cases c : rowOf C' k < R ∧ colOf C' k < C ∧ (rowOf C' k < i ∨ rowOf C' k = i ∧ colOf C' k < j)
  · rw [if_pos c, if_pos ⟨c.1, c.2.1, by omega⟩]
  · rw [if_neg c, if_neg (by omega)]
theorem rzF_all {F : Nat → Cel} {R C R' C' i : Nat} (hi : R ≤ i ∨ R' ≤ i) (k : Nat) (hk : k < R' * C') : rzF F R C C' i 0 k = resF F R C C' blk (R * C) k := by
  have h1 := rowOf_lt hk
  unfold rzF resF
  by_cases c : rowOf C' k < R ∧ colOf C' k < C
  · rw [if_pos ⟨c.1, c.2, by omega⟩, if_pos ⟨c.1, c.2, place_lt c.1 c.2⟩]
  · rw [if_neg (by omega), if_neg (fun h => c ⟨h.1, h.2.1⟩)]
/-- Other stops. -/
theorem RIn.onStops {w : World} {s g t cap tb m R C tb2 m2 : Nat} {F : Nat → Cel} {S S2 : Nat → Bool} {r c : Int} {b : Bool} (h : RIn w s g t cap tb m R C F S r c b) (hT : Tb.RefAt w tb2 m2 C S2) (n1 : tb2 ≠ s) (n2 : m2 ≠ s) :
    RIn (w.setCell ⟨s, 4, none⟩ (ptr tb2)) s g t cap tb2 m2 R C F S2 r c b := by
  obtain ⟨⟨a1, a2, a3, a4⟩, _⟩ := h.apart
  have k : Kept (· = s) w (w.setCell ⟨s, 4, none⟩ (ptr tb2)) := (Kept.refl (· = s) w).setCell _ (Or.inr rfl) _
  refine ⟨?_, h.grid.kept k (fun e => a1 e.symm) (fun e => a2 e.symm), hT.kept k n1 n2, h.there⟩
  have hs := h.head
  simp [World.setCell, Array.getElem?_modify, hs]

set_option maxRecDepth 100000 in
set_option maxHeartbeats 8000000 in
theorem rresize_any {s g t cap tb m R C : Nat} {F : Nat → Cel} {S : Nat → Bool} {r c : Int} {b : Bool} (R' C' : Nat) (w : World) (h : RIn w s g t cap tb m R C F S r c b) (h1 : 1 ≤ R' ∧ R' ≤ 255 ∧ 1 ≤ C' ∧ C' ≤ 255) :
    Calls Tryz.prog 51 #[ptr s, pos R' C'] w fun e w' => ∃ s' g' t' cap' tb' m', e = .returned (ptr s') ∧ (∀ i, Own s' g' t' tb' m' i → w.heap.size ≤ i) ∧ RIn w' s' g' t' cap' tb' m' R' C' (resF F R C C' blk (R * C)) (Tb.resF C S) (nr r R') (nr c C') false ∧ Kept0 w w' := by
  have HB := Lib.hid h1
  have H := Lib.hid h
  obtain ⟨B1, B2, B3, B4⟩ := h1
  have q1 := h.grid.R2
  have q2 := h.grid.C2
  have hl := h.lt
  clear h
  go_enter Tryz.func51, Tryz.ntmps51
  go_wp2_with fail
  obtain ⟨w1, hw1⟩ : ∃ w1, w1 = w.alloc (.cells #[.int .i64 R', .int .i64 C'] 23) := ⟨_, rfl⟩
  have k1 : Kept0 w w1 := by rw [hw1]; exact (Kept.refl _ w).alloc _
  have HZ : Hid (Two w1 w.heap.size R' C') := by rw [hw1]; exact Two.of (heap_new w _)
  rw [← hw1]
  clear hw1
  refine (rnew_any R' C' w1 HB.out).mono ?_
  rintro e w2 ⟨s', g', t', cap', tb', m', rfl, hnew, hr2, k2⟩
  have HK1 := Lib.hid k1
  have HK := Lib.hid k2
  have HNEW := Lib.hid hnew
  have HR : Hid (RIn w2 s' g' t' cap' tb' m' R' C' (rzF F R C C' 0 0) (fun _ => false) 0 0 false) := by rw [rzF_zero]; exact hr2
  clear k1 k2 hr2 hnew
  go_wp2_with fail
  go_loopw [6] (fun s6 wr => ∃ i : Nat, i ≤ R' ∧ i ≤ R ∧ s6 = .int .i64 (i : Int) ∧ Hid (RIn wr s' g' t' cap' tb' m' R' C' (rzF F R C C' i 0) (fun _ => false) 0 0 false) ∧ Hid (Kept0 w1 wr)) (fun s6 _ => R' - (intOf s6).toNat)
  case atStart => exact ⟨0, by omega, by omega, rfl, HR, HK⟩
  case round =>
    clear HR HK
    obtain ⟨i, hi1, hi2, rfl, HR, HK⟩ := hrel
    obtain ⟨z0, z1, _, _⟩ := HZ.out.kept0 HK.out
    have hS0 := (H.out.kept0 HK1.out).kept0 HK.out
    have c0 := hS0.c0
    have g0 := hS0.grid.c0
    clear hS0
    by_cases hlt : i < R' ∧ i < R
    · have d1 : decide ((i : Int) < (R' : Int)) = true := by simp; omega
      have d2 : decide ((i : Int) < (R : Int)) = true := by simp; omega
      go_wp2_with fail
      go_loopw [7] (fun s7 wr => ∃ j : Nat, j ≤ C' ∧ j ≤ C ∧ s7 = .int .i64 (j : Int) ∧ Hid (RIn wr s' g' t' cap' tb' m' R' C' (rzF F R C C' i j) (fun _ => false) 0 0 false) ∧ Hid (Kept0 w1 wr)) (fun s7 _ => C' - (intOf s7).toNat)
      case atStart => exact ⟨0, by omega, by omega, rfl, HR, HK⟩
      case round =>
        clear HR HK z0 z1 c0 g0
        obtain ⟨j, hj1, hj2, rfl, HR, HK⟩ := hrel
        obtain ⟨z0, z1, _, _⟩ := HZ.out.kept0 HK.out
        have hS0 := (H.out.kept0 HK1.out).kept0 HK.out
        have c0 := hS0.c0
        have g1 := hS0.grid.c1
        by_cases hjt : j < C' ∧ j < C
        · have e1 : decide ((j : Int) < (C' : Int)) = true := by simp; omega
          have e2 : decide ((j : Int) < (C : Int)) = true := by simp; omega
          have hth : There R' C' (i : Int) (j : Int) := ⟨by omega, by omega, by omega, by omega⟩
          have hix := wrap_idx hth B2 B4
          have hli := idx_lt hth
          have hRC : R' * C' ≤ 65025 := Nat.mul_le_mul B2 B4
          have hne1 : ¬ s' = t' := HR.out.apart.1.2.1
          have hne2 : ¬ g' = t' := HR.out.apart.2.1.1
          have hnt := HNEW.out t' (by simp [Own])
          have hk1s := HK1.out.size
          have hgl := H.out.grid.lt
          have htl := H.out.grid.row.lt
          have hw1s : w.heap.size < w1.heap.size := World.block_lt_of_cell? w1 _ HZ.out.c0
          have HG := Lib.hid (fun w' (k : Kept0 wr w') => getR g t cap R C F (i : Int) (j : Int) w' (((H.out.kept0 HK1.out).kept0 (HK.out.trans k)).grid) ⟨by omega, by omega, by omega, by omega⟩)
          have HX : Hid (idx C (i : Int) (j : Int) = i * C + j) := by unfold Hid idx; simp
          have HI : Hid (idx C' (i : Int) (j : Int) = i * C' + j) := by unfold Hid idx; simp
          obtain ⟨x, hx⟩ : ∃ x, x = F (idx C (i : Int) (j : Int)) := ⟨_, rfl⟩
          rw [← hx] at HG
          have HXX := Lib.hid hx
          obtain ⟨ix, hixd⟩ : ∃ ix, ix = idx C' (i : Int) (j : Int) := ⟨_, rfl⟩
          rw [← hixd] at hix hli HI
          obtain ⟨N, hN⟩ : ∃ N, N = R' * C' := ⟨_, rfl⟩
          have HN := Lib.hid hN
          have a0 := fun w' (k : Kept (· = t') wr w') => kcellS k HR.out.c0 hne1
          have a1 := fun w' (k : Kept (· = t') wr w') => kcellS k HR.out.grid.c2 hne2
          have a2 := fun w' (k : Kept (· = t') wr w') => kcellS k z1 (by omega)
          have a3 := fun w' (k : Kept (· = t') wr w') => kcellS k c0 (by omega)
          rw [← hN] at a1 hli hRC
          clear hx hixd hN hth
          have HRR := Lib.hid (fun w' (k : Kept0 wr w') => (HR.out.kept0 k).grid.row)
          go_upto_region 8 with fail
          clear hS0 z0 z1 c0 g1
          go_region_held3 (fun w' => Kept (· = t') wr w') (repeat (first | assumption | exact Kept.refl _ _ | refine Kept.drew ?_ | exact ka.setCel t' (ix * 4) (Or.inr rfl) x))
            (first
              | (go_at_call 53; refine (HG.out _ (Kept.refl _ wr).drew).mono ?_; rintro e w5 ⟨rfl, hk5⟩; have kn : Kept0 wr w5 := (Kept.refl _ wr).drew.trans hk5; have ka : Kept (· = t') wr w5 := Kept0.to kn; have hrow := HRR.out w5 kn; obtain ⟨u0, u1, u2, u3⟩ := hrow.cell (by rw [← HN.out]; exact hli); have f0 := hrow.frozen (ix * 4); have f1 := hrow.frozen (ix * 4 + 1); have f2 := hrow.frozen (ix * 4 + 2); have f3 := hrow.frozen (ix * 4 + 3); clear hrow))
          obtain ⟨V, hV⟩ : ∃ V, V = ((((w5.setCell ⟨t', ix * 4, none⟩ (.int .i32 x.g)).setCell ⟨t', ix * 4 + 1, none⟩ (.int .i64 x.a)).setCell ⟨t', ix * 4 + 2, none⟩ (.bool x.b)).setCell ⟨t', ix * 4 + 3, none⟩ (.int .i64 x.m)) := ⟨_, rfl⟩
          have kV : Kept (· = t') w5 V := by rw [hV]; exact (Kept.refl (· = t') w5).setCel t' (ix * 4) (Or.inr rfl) x
          have hR5 := HR.out.kept0 kn
          have hgV : RefAt V g' t' cap' R' C' (upd (rzF F R C C' i j) ix x) := hR5.grid.withRow kV (by rw [hV]; exact hR5.grid.row.set ix x)
          have HRV : Hid (RIn V s' g' t' cap' tb' m' R' C' (rzF F R C C' i (j + 1)) (fun _ => false) 0 0 false) := (hR5.onGrid kV hgV).congrF (fun k _ => by rw [HI.out, HXX.out, HX.out]; exact rzF_put hlt.2 hjt.2 hjt.1 k)
          have HKV : Hid (Kept0 w1 V) := (HK.out.trans kn).later kV (fun q hq e => by omega)
          rw [← hV]
          clear hV kV hR5 hgV a0 a1 a2 a3 u0 u1 u2 u3 f0 f1 f2 f3 HRR HR HK kn ka hk5 HG hix hli
          go_wp2_with fail
          go_roundw
          case rel => exact ⟨j + 1, by omega, by omega, by go_num, HRV, HKV⟩
          case measure => simp [intOf]; omega
        · have HR2 : Hid (RIn wr s' g' t' cap' tb' m' R' C' (rzF F R C C' (i + 1) 0) (fun _ => false) 0 0 false) := HR.out.congrF (fun k _ => rzF_row B3 (by omega) k)
          clear HR hS0
          have hor : (j < C' ∧ ¬ j < C) ∨ ¬ j < C' := by omega
          clear hjt
          rcases hor with ⟨o1, o2⟩ | o1
          all_goals
            go_wp2_with fail
            go_roundw
            case rel => exact ⟨i + 1, by omega, by omega, by go_num, HR2, HK⟩
            case measure => simp [intOf]; omega
    · have HR2 : Hid (RIn wr s' g' t' cap' tb' m' R' C' (resF F R C C' blk (R * C)) (fun _ => false) 0 0 false) := HR.out.congrF (fun k hk => rzF_all (by omega) k hk)
      have hS0 := (H.out.kept0 HK1.out).kept0 HK.out
      have HS0 := Lib.hid hS0
      have hns := HNEW.out s' (by simp [Own])
      have hk1s := HK1.out.size
      have hkks := HK.out.size
      have htbl := H.out.tabs.lt
      have hsl' := HR2.out.lt
      have a0 := fun w' (k : Kept (· = s') wr w') => kcellS k hS0.c4 (by omega)
      have hw1s : w.heap.size < w1.heap.size := World.block_lt_of_cell? w1 _ HZ.out.c0
      have a1 := fun w' (k : Kept (· = s') wr w') => kcellS k z1 (by omega)
      have HT := Lib.hid (fun w' (k : Kept0 wr w') => Tb.refResize_any tb m C S C' w' (hS0.tabs.kept0 k) B3 B4)
      clear HR hS0
      have hor : (i < R' ∧ ¬ i < R) ∨ ¬ i < R' := by omega
      clear hlt
      rcases hor with ⟨o1, o2⟩ | o1
      all_goals
        go_upto_region 9 with fail
        clear c0 g0 z0 z1
        go_region_held3 (fun w' => Kept (· = s') wr w') (repeat (first | assumption | exact Kept.refl _ _ | refine Kept.drew ?_ | exact Kept.setCell (S := (· = s')) ka ⟨s', 4, none⟩ (Or.inr rfl) _))
          (first
            | (go_at_call 92; refine (HT.out _ (Kept.refl _ wr).drew).mono ?_; rintro e w5 ⟨tb2, m2, rfl, hb1, hb2, hT2, hk5⟩; have kn : Kept0 wr w5 := (Kept.refl _ wr).drew.trans hk5; have ka : Kept (· = s') wr w5 := Kept0.to kn; have HT2 := Lib.hid hT2; have HR5 := Lib.hid (HR2.out.kept0 kn); have u4 := HR5.out.c4; have f4 := HR5.out.fz 4; clear hT2))
        obtain ⟨V, hV⟩ : ∃ V, V = w5.setCell ⟨s', 4, none⟩ (.pointer (some ⟨tb2, 0, none⟩)) := ⟨_, rfl⟩
        have hb1' : wr.heap.size ≤ tb2 := hb1
        have hb2' : wr.heap.size ≤ m2 := hb2
        have kV : Kept (· = s') w5 V := by rw [hV]; exact Kept.setCell (S := (· = s')) (Kept.refl _ w5) ⟨s', 4, none⟩ (Or.inr rfl) _
        have HRV : Hid (RIn V s' g' t' cap' tb2 m2 R' C' (resF F R C C' blk (R * C)) (Tb.resF C S) 0 0 false) := by
          rw [hV]
          exact HR5.out.onStops HT2.out (by omega) (by omega)
        have HKV : Hid (Kept0 w1 V) := (HK.out.trans kn).later kV (fun q hq e => by omega)
        have hS1 := (H.out.kept0 HK1.out).kept0 HKV.out
        have d1 := hS1.c1
        have d2 := hS1.c2
        rw [← hV]
        clear hV kV hS1 a0 a1 u4 f4 HR2 HK HT HS0 kn ka hk5 HR5 hb1 hb2
        go_wp2_with fail
        refine (rmove_any _ _ _ HRV.out).mono ?_
        rintro e w6 ⟨rfl, h6, k6⟩
        have H6 := Lib.hid h6
        have K6 := Lib.hid k6
        clear h6 k6 d1 d2
        go_wp2_with fail
        go_ret
        refine ⟨s', g', t', cap', tb2, m2, rfl, fun q hq => ?_, H6.out, (HK1.out.trans HKV.out).later K6.out (fun q hq e => by omega)⟩
        have n1 := HNEW.out s' (by simp [Own])
        have n2 := HNEW.out g' (by simp [Own])
        have n3 := HNEW.out t' (by simp [Own])
        rcases hq with rfl | rfl | rfl | rfl | rfl <;> omega
end Go.Proofs.YtkpfhgfdfndliaaGreatDoor
