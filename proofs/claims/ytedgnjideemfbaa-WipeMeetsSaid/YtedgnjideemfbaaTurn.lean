/-
  What turn does to the cells from one place to another one.
-/
import Derived.Test.YtedgnjideemfbaaVisit
namespace Go.Proofs.Ytedgnjideemfbaa
open Go.RowKit

/-- What stands when d cells from the i-th on were visited, and the last one is the j-th. -/
structure Trn (w wr : World) (gb tb bb fb nb cb g t cap R C : Nat) (b : Bool) (fv : Nat) (ob : Obj) (f : Nat → Cel) (o : Cel → Cel) (i j d : Nat) : Prop where
  told : Told wr gb bb fb nb cb g b fv ob (cntT f o i d)
  grid : GridAt wr g t cap R C (partT f o i d)
  to0 : wr.cell? ⟨tb, 0, none⟩ = some (.int .i64 (rowOf C j : Int))
  to1 : wr.cell? ⟨tb, 1, none⟩ = some (.int .i64 (colOf C j : Int))
  kept : Kept (· = t) w wr

theorem Trn.keep {w wr w' : World} {gb tb bb fb nb cb g t cap R C : Nat} {b : Bool} {fv : Nat} {ob : Obj} {f : Nat → Cel} {o : Cel → Cel} {i j d : Nat} (h : Trn w wr gb tb bb fb nb cb g t cap R C b fv ob f o i j d) (k : Kept0 wr w') : Trn w w' gb tb bb fb nb cb g t cap R C b fv ob f o i j d :=
  ⟨h.told.keep k, h.grid.kept k (fun e => e) (fun e => e), kcell k h.to0, kcell k h.to1, h.kept.trans k.to⟩

theorem Trn.step {w wr w' : World} {gb tb bb fb nb cb g t cap R C : Nat} {b : Bool} {fv : Nat} {ob : Obj} {f : Nat → Cel} {h : Cel → Cel} {i j d : Nat} (H : Trn w wr gb tb bb fb nb cb g t cap R C b fv ob f (one b h) i j d)
    (hg : GridAt w' g t cap R C (upd (partT f (one b h) i d) (i + d) (one b h (f (i + d))))) (hn : w'.cell? ⟨nb, 0, none⟩ = some (.int .i64 ((cntT f (one b h) i d + (if one b h (f (i + d)) = f (i + d) then 0 else 1) : Nat) : Int))) (hz : w'.frozen? ⟨nb, 0, none⟩ = false) (k : Kept (fun q => q = t ∨ q = nb) wr w')
    (n1 : gb ≠ t ∧ bb ≠ t ∧ fb ≠ t ∧ cb ≠ t ∧ tb ≠ t) (n2 : gb ≠ nb ∧ bb ≠ nb ∧ fb ≠ nb ∧ cb ≠ nb ∧ tb ≠ nb) (hnb : w.heap.size ≤ nb) : Trn w w' gb tb bb fb nb cb g t cap R C b fv ob f (one b h) i j (d + 1) :=
  ⟨⟨kcellS k H.told.hg (fun e => e.elim n1.1 n2.1), kcellS k H.told.hb (fun e => e.elim n1.2.1 n2.2.1), kcellS k H.told.hf (fun e => e.elim n1.2.2.1 n2.2.2.1),
    (k.block _ (Array.getElem?_eq_some_iff.1 H.told.ho).1 (fun e => e.elim n1.2.2.2.1 n2.2.2.2.1)).trans H.told.ho, hn, hz⟩,
    hg.congr (fun q _ => partT_step f (one b h) i d q), kcellS k H.to0 (fun e => e.elim n1.2.2.2.2 n2.2.2.2.2), kcellS k H.to1 (fun e => e.elim n1.2.2.2.2 n2.2.2.2.2),
    H.kept.later k (fun q hq e => e.elim id (fun e => by omega))⟩

theorem Trn.apart {w wr w' : World} {gb tb bb fb nb cb g t cap R C : Nat} {b : Bool} {fv : Nat} {ob : Obj} {f : Nat → Cel} {o : Cel → Cel} {i j d q : Nat} (h : Trn w wr gb tb bb fb nb cb g t cap R C b fv ob f o i j d) (k : Kept (· = q) wr w')
    (hq : gb ≠ q ∧ tb ≠ q ∧ bb ≠ q ∧ fb ≠ q ∧ nb ≠ q ∧ cb ≠ q ∧ g ≠ q ∧ t ≠ q) (hw : w.heap.size ≤ q) : Trn w w' gb tb bb fb nb cb g t cap R C b fv ob f o i j d := by
  obtain ⟨q1, q2, q3, q4, q5, q6, q7, q8⟩ := hq
  exact ⟨⟨kcellS k h.told.hg q1, kcellS k h.told.hb q3, kcellS k h.told.hf q4, (k.block _ (Array.getElem?_eq_some_iff.1 h.told.ho).1 q6).trans h.told.ho, kcellS k h.told.hn q5, (k.frozen (World.block_lt_of_cell? wr _ h.told.hn) q5).trans h.told.hz⟩,
    h.grid.kept k q7 q8, kcellS k h.to0 q2, kcellS k h.to1 q2, h.kept.later k (fun i hi e => by omega)⟩

/-- Which place a pointer tells. -/
def placeAt (C : Nat) (v : Value) (w : World) : Nat := match v with
  | .pointer (some a) => placeOf C a.block w
  | _ => 0

theorem partT_at (f : Nat → Cel) (o : Cel → Cel) (i d : Nat) : partT f o i d (i + d) = f (i + d) := if_neg (by omega)

theorem field_cols (R C : Nat) (w : World) : (Instr.field 45 (.agg #[.int .i64 (R : Int), .int .i64 (C : Int)]) 1).run Try.prog w = .ok (.int .i64 (C : Int)) w := by kernel_rfl

set_option maxHeartbeats 2000000 in
set_option maxRecDepth 100000 in
theorem turn_ok (g t cap R C : Nat) (f : Nat → Cel) (b : Bool) (fv cb : Nat) (ob : Obj) (h : Cel → Cel) (i m : Nat) (w : World) (hg : GridAt w g t cap R C f) (hB : Becomes fv cb ob h) (ho : w.heap[cb]? = some ob) (hct : cb ≠ t) (him : i + m < R * C) :
    Calls Try.prog 36 #[.pointer (some ⟨g, 0, none⟩), .agg #[.int .i64 (rowOf C i : Int), .int .i64 (colOf C i : Int)], .agg #[.int .i64 (rowOf C (i + m) : Int), .int .i64 (colOf C (i + m) : Int)], .bool b, .func (.func fv) #[] #[.pointer (some ⟨cb, 0, none⟩)]] w fun e w' =>
      e = .returned (.tuple #[.int .i64 (cntT f (one b h) i (m + 1) : Int), .int .i64 0]) ∧ GridAt w' g t cap R C (partT f (one b h) i (m + 1)) ∧ Kept (· = t) w w' := by
  have hC1 := hg.C1
  have hC2 := hg.C2
  have hRC : R * C ≤ 65025 := Nat.mul_le_mul hg.R2 hg.C2
  have hE : Hid (wipeE R C (rowOf C i) (colOf C i) (rowOf C (i + m)) (colOf C (i + m)) = 0) := by
    show _ = _
    have h1 := there_row_col (R := R) (C := C) (k := i) (by omega) hC1
    have h2 := there_row_col (R := R) (C := C) (k := i + m) him hC1
    unfold wipeE
    rw [if_pos ⟨h1, h2⟩, idx_row_col, idx_row_col, if_neg (by omega)]
  have hmf : ∀ (fn : Fn) (first cap : Array Value) (w : World), (Instr.makeFunc fn first cap).run Try.prog w = .ok (.func fn first cap) w := fun _ _ _ _ => rfl
  have HG := Lib.hid hg
  have HB := Lib.hid hB
  have HO := Lib.hid ho
  have hgl := hg.lt
  have htl := hg.row.lt
  have hcl : cb < w.heap.size := (Array.getElem?_eq_some_iff.1 ho).1
  have HM := Lib.hid him
  clear hg hB ho him
  go_enter Try.func36, Try.ntmps36
  go_wp2_with fail
  obtain ⟨w0, hw0⟩ : ∃ w0, w0 = ((((w.alloc (.cells #[.pointer (some ⟨g, 0, none⟩)] 28)).alloc (.cells #[.int .i64 (rowOf C i : Int), .int .i64 (colOf C i : Int)] 36)).alloc (.cells #[.int .i64 (rowOf C (i + m) : Int), .int .i64 (colOf C (i + m) : Int)] 36)).alloc (.cells #[.bool b] 4)).alloc (.cells #[.func (.func fv) #[] #[.pointer (some ⟨cb, 0, none⟩)]] 86) := ⟨_, rfl⟩
  have k0 : Kept0 w w0 := by rw [hw0]; exact (((((Kept.refl _ w).alloc _).alloc _).alloc _).alloc _).alloc _
  have a0 : w0.cell? ⟨w.heap.size, 0, none⟩ = some (.pointer (some ⟨g, 0, none⟩)) := by rw [hw0]; simp [go_sem]
  have a1 : w0.cell? ⟨w.heap.size + 1, 0, none⟩ = some (.int .i64 (rowOf C i : Int)) := by rw [hw0]; simp [go_sem]
  have a2 : w0.cell? ⟨w.heap.size + 1, 1, none⟩ = some (.int .i64 (colOf C i : Int)) := by rw [hw0]; simp [go_sem]
  have a3 : w0.cell? ⟨w.heap.size + 1 + 1, 0, none⟩ = some (.int .i64 (rowOf C (i + m) : Int)) := by rw [hw0]; simp [go_sem]
  have a4 : w0.cell? ⟨w.heap.size + 1 + 1, 1, none⟩ = some (.int .i64 (colOf C (i + m) : Int)) := by rw [hw0]; simp [go_sem]
  have a5 : w0.cell? ⟨w.heap.size + 1 + 1 + 1, 0, none⟩ = some (.bool b) := by rw [hw0]; simp [go_sem]
  have a6 : w0.cell? ⟨w.heap.size + 1 + 1 + 1 + 1, 0, none⟩ = some (.func (.func fv) #[] #[.pointer (some ⟨cb, 0, none⟩)]) := by rw [hw0]; simp [go_sem]
  rw [← hw0]
  clear hw0
  refine (check_grid g t cap R C f _ _ _ _ w0 (HG.out.kept k0 (fun e => e) (fun e => e))).mono ?_
  rw [hE.out]
  rintro e w1 ⟨rfl, hk1⟩
  replace a0 := kcell hk1 a0
  replace a1 := kcell hk1 a1
  replace a2 := kcell hk1 a2
  replace a3 := kcell hk1 a3
  replace a4 := kcell hk1 a4
  replace a5 := kcell hk1 a5
  replace a6 := kcell hk1 a6
  have s1 : w.heap.size + 1 + 1 + 1 + 1 < w1.heap.size := World.block_lt_of_cell? w1 _ a6
  have s2 : w.heap.size + 1 + 1 + 1 < w1.heap.size := by omega
  have s3 : w.heap.size + 1 + 1 < w1.heap.size := by omega
  have s4 : w.heap.size + 1 < w1.heap.size := by omega
  have s5 : w.heap.size < w1.heap.size := by omega
  have kk := k0.trans hk1
  clear k0 hk1
  go_wp2_with fail
  obtain ⟨W, hW⟩ : ∃ W, W = w1.alloc (.cells #[.int .i64 0] 3) := ⟨_, rfl⟩
  have kW : Kept0 w1 W := by rw [hW]; exact (Kept.refl _ w1).alloc _
  have a7 : W.cell? ⟨w1.heap.size, 0, none⟩ = some (.int .i64 0) := by rw [hW]; simp [go_sem]
  have a8 : W.frozen? ⟨w1.heap.size, 0, none⟩ = false := by rw [hW]; simp [go_sem]
  rw [← hW]
  clear hW
  have hG1 := HG.out.kept (kk.trans kW) (fun e => e) (fun e => e)
  refine (size_any g R C W hG1.c0 hG1.c1).mono ?_
  rintro e w2 ⟨rfl, hk2⟩
  have k2 := kW.trans hk2
  replace a0 := kcell k2 a0
  replace a1 := kcell k2 a1
  replace a2 := kcell k2 a2
  replace a3 := kcell k2 a3
  replace a4 := kcell k2 a4
  replace a5 := kcell k2 a5
  replace a6 := kcell k2 a6
  replace a8 := kfrozen hk2 a7 a8
  replace a7 := kcell hk2 a7
  replace kk := kk.trans k2
  have s6 : w1.heap.size < w2.heap.size := World.block_lt_of_cell? w2 _ a7
  have HT : Hid (Trn w w2 w.heap.size (w.heap.size + 1 + 1) (w.heap.size + 1 + 1 + 1) (w.heap.size + 1 + 1 + 1 + 1) w1.heap.size cb g t cap R C b fv ob f (one b h) i (i + m) 0) :=
    ⟨⟨a0, a5, a6, (kk.block _ hcl (fun e => e)).trans HO.out, a7, a8⟩, (HG.out.kept kk (fun e => e) (fun e => e)).congr (fun k _ => (if_neg (by omega)).symm), a3, a4, kk.mono (fun _ _ e => e.elim)⟩
  clear hk2 k2 kW hG1 a0 a3 a4 a5 a6 a7 a8
  replace s5 : w.heap.size + 1 < w2.heap.size := by omega
  have fm := field_cols R C
  go_wp2_with fail
  obtain ⟨W3, hW3⟩ : ∃ W3, W3 = w2.alloc (.cells #[.int .i64 (rowOf C i : Int), .int .i64 (colOf C i : Int)] 36) := ⟨_, rfl⟩
  have kW3 : Kept0 w2 W3 := by rw [hW3]; exact (Kept.refl _ w2).alloc _
  have hTw : TwoAt W3 w2.heap.size (rowOf C i : Int) (colOf C i : Int) := by rw [hW3]; exact ⟨by simp [go_sem], by simp [go_sem], by simp [go_sem], by simp [go_sem]⟩
  have HT3 := Lib.hid (HT.out.keep kW3)
  have hs3 : w2.heap.size < W3.heap.size := hTw.lt
  rw [← hW3]
  clear hW3 kW3 HT a1 a2 kk
  go_loopw [16] (fun s16 wr => ∃ (d pb : Nat), d ≤ m + 1 ∧ s16 = .pointer (some ⟨pb, 0, none⟩) ∧ w2.heap.size ≤ pb ∧ TwoAt wr pb (rowOf C (i + d) : Int) (colOf C (i + d) : Int) ∧ Hid (Trn w wr w.heap.size (w.heap.size + 1 + 1) (w.heap.size + 1 + 1 + 1) (w.heap.size + 1 + 1 + 1 + 1) w1.heap.size cb g t cap R C b fv ob f (one b h) i (i + m) d)) (fun s16 wr => i + m + 1 - placeAt C s16 wr)
  case atStart => exact ⟨0, _, by omega, rfl, Nat.le_refl _, hTw, HT3⟩
  case round =>
    clear hTw HT3 hs3
    obtain ⟨d, pb, hd, rfl, hpb, hTr, HTr⟩ := hrel
    have t0 := HTr.out.to0
    have t1 := HTr.out.to1
    have p0 := hTr.c0
    have p1 := hTr.c1
    have HPL : Hid (placeOf C pb wr = i + d) := by
      show placeOf C pb wr = i + d
      rw [placeOf_eq hTr.c0 hTr.c1, idx_row_col]
    go_wp2_with fail
    refine (ahead_any _ _ _ _ _).mono ?_
    rw [ahead_row_col hC1]
    rintro e wa ⟨rfl, hka⟩
    have HTa := Lib.hid (HTr.out.keep hka)
    have hTa := hTr.kept hka (fun e => e)
    clear HTr hTr p0 p1 t0 t1
    by_cases hlt : d ≤ m
    · rw [show decide (i + m < i + d) = false from decide_eq_false (by omega)]
      have p0 := hTa.c0
      have p1 := hTa.c1
      go_wp2_with fail
      have hle := cntT_le f (one b h) i d
      have hmm := HM.out
      refine (visit_any w.heap.size (w.heap.size + 1 + 1 + 1) (w.heap.size + 1 + 1 + 1 + 1) w1.heap.size cb g t cap R C b fv ob (cntT f (one b h) i d) h _ _ _ wa HTa.out.told HB.out HTa.out.grid (there_row_col (R := R) (C := C) (k := i + d) (by omega) hC1) (by omega) (by omega) (by omega)).mono ?_
      rw [idx_row_col, partT_at]
      rintro e wb ⟨rfl, hgb, hnb, hzb, hkb⟩
      have HTb := Lib.hid (HTa.out.step hgb hnb hzb hkb ⟨by omega, by omega, by omega, by omega, by omega⟩ ⟨by omega, by omega, by omega, by omega, by omega⟩ (by omega))
      have hTb := hTa.kept hkb (by omega)
      clear hgb hnb hzb hkb HTa hTa p0 p1 hle hmm hka
      have p0 := hTb.c0
      have p1 := hTb.c1
      have hpl := hTb.lt
      have hsb : w2.heap.size ≤ wb.heap.size := by omega
      go_wp2_with fail
      obtain ⟨V, hV⟩ : ∃ V, V = wb.alloc (.cells #[.int .i64 (rowOf C (i + d) : Int), .int .i64 (colOf C (i + d) : Int)] 36) := ⟨_, rfl⟩
      have kV : Kept0 wb V := by rw [hV]; exact (Kept.refl _ wb).alloc _
      have hTV : TwoAt V wb.heap.size (rowOf C (i + d) : Int) (colOf C (i + d) : Int) := by rw [hV]; exact ⟨by simp [go_sem], by simp [go_sem], by simp [go_sem], by simp [go_sem]⟩
      rw [← hV]
      clear hV
      refine (next_any C (i + d) V hC1 hC2 (by have := HM.out; omega)).mono ?_
      rintro e wc ⟨rfl, hkc⟩
      have HTc := Lib.hid ((HTb.out.keep kV).keep hkc)
      have hTc := hTV.kept hkc (fun e => e)
      clear HTb hTb p0 p1 hTV kV
      have p0 := hTc.c0
      have p1 := hTc.c1
      have p2 := hTc.f0
      have p3 := hTc.f1
      have hsc := hTc.lt
      go_wp2_with fail
      have hk9 : Kept (· = wb.heap.size) wc ((wc.setCell { block := wb.heap.size, off := 0 } (Value.int IntKind.i64 ↑(rowOf C (i + d + 1)))).setCell { block := wb.heap.size, off := 1 } (Value.int IntKind.i64 ↑(colOf C (i + d + 1)))) := (Kept.set1 _ _ _ _).trans (Kept.set1 _ _ _ _)
      have hT9 := (hTc.set0 (rowOf C (i + d + 1) : Int)).set1 (colOf C (i + d + 1) : Int)
      refine ⟨⟨d + 1, wb.heap.size, by omega, rfl, hsb, hT9, HTc.out.apart hk9 ⟨by omega, by omega, by omega, by omega, by omega, by omega, by omega, by omega⟩ (by omega)⟩, ?_⟩
      have e1 := placeOf_eq (C := C) hT9.c0 hT9.c1
      rw [idx_row_col] at e1
      have e2 := HPL.out
      simp only [placeAt]
      rw [e1, e2]
      omega
    · obtain rfl : d = m + 1 := by omega
      rw [show decide (i + m < i + (m + 1)) = true from decide_eq_true (by omega)]
      have hnn := HTa.out.told.hn
      go_wp2_with fail
      go_ret2
      exact ⟨rfl, HTa.out.grid, HTa.out.kept⟩
end Go.Proofs.Ytedgnjideemfbaa
