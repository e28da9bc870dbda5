/-
  What a grid's Resize and Rows do.
-/
import Derived.Test.YtkpfhgfdfndliaaGreatDoorMFr
import Derived.Test.YtkpfhgfdfndliaaGreatDoorMLo
import Derived.Test.YtkpfhgfdfndliaaGreatDoorMWk
namespace Go.Proofs.YtkpfhgfdfndliaaGreatDoor
open Go.RowKit

attribute [local go_sem] Oper.semAt_some

/-- What a grid has that is given another size, when k places have come. -/
def resF (f : Nat → Cel) (R C C' : Nat) (x : Cel) (k : Nat) : Nat → Cel := fun j =>
  if rowOf C' j < R ∧ colOf C' j < C ∧ rowOf C' j * C + colOf C' j < k then f (rowOf C' j * C + colOf C' j) else x

theorem resF_zero (f : Nat → Cel) (R C C' : Nat) (x : Cel) (j : Nat) : resF f R C C' x 0 j = x := by simp [resF]

theorem idx_unique {C a b k : Nat} (hb : b < C) (h : a * C + b = k) : a = rowOf C k ∧ b = colOf C k := by
  unfold rowOf colOf
  subst h
  constructor
  · rw [Nat.add_comm, Nat.add_mul_div_right _ _ (by omega), Nat.div_eq_of_lt hb]; omega
  · rw [Nat.add_comm, Nat.add_mul_mod_self_right, Nat.mod_eq_of_lt hb]

theorem row_col_eq {C j : Nat} : rowOf C j * C + colOf C j = j := by
  have := idx_row_col C j
  simpa [idx] using this

/-- One place more has come, and is put there. -/
theorem resF_put {f : Nat → Cel} {R C R' C' k : Nat} {x : Cel} (hk : k < R * C) (hC : 1 ≤ C) (hth : There R' C' (rowOf C k) (colOf C k)) (j : Nat) :
    upd (resF f R C C' x k) (idx C' (rowOf C k) (colOf C k)) (f k) j = resF f R C C' x (k + 1) j := by
  have h1 := rowOf_lt hk
  have h2 := colOf_lt (k := k) hC
  have h3 := row_col_eq (C := C) (j := k)
  obtain ⟨_, _, _, h4⟩ := hth
  unfold upd
  by_cases e : j = idx C' (rowOf C k) (colOf C k)
  · rw [if_pos e]
    have e' : rowOf C k * C' + colOf C k = j := by rw [e]; simp [idx]
    obtain ⟨e1, e2⟩ := idx_unique (by omega) e'
    unfold resF
    rw [← e1, ← e2, if_pos ⟨h1, h2, by omega⟩, h3]
  · rw [if_neg e]
    unfold resF
    by_cases c : rowOf C' j < R ∧ colOf C' j < C ∧ rowOf C' j * C + colOf C' j < k
    · rw [if_pos c, if_pos ⟨c.1, c.2.1, by omega⟩]
    · rw [if_neg c]
      by_cases c2 : rowOf C' j < R ∧ colOf C' j < C ∧ rowOf C' j * C + colOf C' j < k + 1
      · exfalso
        apply e
        have h5 : rowOf C' j * C + colOf C' j = k := by
          have : ¬ rowOf C' j * C + colOf C' j < k := fun h => c ⟨c2.1, c2.2.1, h⟩
          omega
        obtain ⟨e1, e2⟩ := idx_unique c2.2.1 h5
        have h6 := row_col_eq (C := C') (j := j)
        simp only [idx, Int.toNat_natCast]
        rw [← e1, ← e2, h6]
      · rw [if_neg c2]

theorem resF_skip {f : Nat → Cel} {R C R' C' k : Nat} {x : Cel} (hth : ¬ There R' C' (rowOf C k) (colOf C k)) (j : Nat) (hj : j < R' * C') (hC' : 1 ≤ C') :
    resF f R C C' x k j = resF f R C C' x (k + 1) j := by
  unfold resF
  by_cases c : rowOf C' j < R ∧ colOf C' j < C ∧ rowOf C' j * C + colOf C' j < k
  · rw [if_pos c, if_pos ⟨c.1, c.2.1, by omega⟩]
  · rw [if_neg c]
    by_cases c2 : rowOf C' j < R ∧ colOf C' j < C ∧ rowOf C' j * C + colOf C' j < k + 1
    · exfalso
      apply hth
      have h5 : rowOf C' j * C + colOf C' j = k := by
        have : ¬ rowOf C' j * C + colOf C' j < k := fun h => c ⟨c2.1, c2.2.1, h⟩
        omega
      obtain ⟨e1, e2⟩ := idx_unique c2.2.1 h5
      rw [← e1, ← e2]
      exact there_row_col hj hC'
    · rw [if_neg c2]

theorem grid_over {w : World} {g : Nat} {a b c a' b' c' : Value} {ty : TypeId} (h : w.heap[g]? = some (.cells #[a, b, c] ty (0, 0))) :
    (((w.setCell ⟨g, 0, none⟩ a').setCell ⟨g, 1, none⟩ b').setCell ⟨g, 2, none⟩ c').heap[g]? = some (.cells #[a', b', c'] ty (0, 0)) := by
  simp [World.setCell, Array.getElem?_modify, h]
theorem CellsAt.below {w w' : World} {t N B : Nat} {f : Nat → Cel} (h : CellsAt w t N f) (b : Below B w w') (ht : t < B) : CellsAt w' t N f := by
  obtain ⟨cur, h1, h2⟩ := h
  exact ⟨cur, (b.block t ht).trans h1, h2⟩
theorem GridAt.below {w w' : World} {g t cap R C B : Nat} {f : Nat → Cel} (h : GridAt w g t cap R C f) (b : Below B w w') (hg : g < B) (ht : t < B) : GridAt w' g t cap R C f :=
  ⟨(b.block g hg).trans h.head, h.row.below b ht, h.cap, h.R1, h.R2, h.C1, h.C2⟩

set_option maxRecDepth 100000 in
set_option maxHeartbeats 2000000 in
theorem resize_yes (g t cap R C R' C' : Nat) (f : Nat → Cel) (x : Cel) (w : World) (hg : GridAt w g t cap R C f) (h : 1 ≤ R' ∧ R' ≤ 255 ∧ 1 ≤ C' ∧ C' ≤ 255) :
    Calls Tryz.prog 64 #[.pointer (some ⟨g, 0, none⟩), .agg #[.int .i64 (R' : Int), .int .i64 (C' : Int)], x.v] w fun e w' =>
      ∃ t', e = .returned (.int .i64 0) ∧ w.heap.size ≤ t' ∧ GridAt w' g t' (R' * C') R' C' (resF f R C C' x (R * C)) ∧ Kept (· = g) w w' := by
  have H := Lib.hid h
  clear h
  refine calls_marks Tryz.func64 rfl ?_
  simp only [Tryz.ntmps64, List.size_toArray, List.length_cons, List.length_nil, Nat.reduceAdd, Nat.reduceSub, Array.replicate_succ, Array.replicate_zero, List.push_toArray, List.append_toArray, List.nil_append, List.cons_append]
  go_wp2_with fail
  refine (new_yes R' C' x _ H.out.1 H.out.2.1 H.out.2.2.1 H.out.2.2.2).mono ?_
  rintro e w1 ⟨g2, t2, rfl, hg2, ht2, hG2, hk1⟩
  rw [World.size_alloc, World.size_alloc] at hg2 ht2
  have kk1 : Kept0 w w1 := (((Kept.refl _ w).alloc _).alloc _).later hk1 (fun _ _ e => e)
  have hG := hg.kept kk1 (fun e => e) (fun e => e)
  clear hk1
  go_wp2_with fail
  refine (all_any _ _).mono ?_
  rintro e w3 ⟨rfl, rfl⟩
  rw [World.size_alloc]
  go_wp2_with fail
  have hG2l := hG2.lt
  have ht2l := hG2.row.lt
  obtain ⟨w4, hw4⟩ : ∃ w4, w4 = (w1.alloc (.cells #[.pointer (some ⟨g2, 0, none⟩)] 65)).alloc (.cells #[.pointer (some ⟨g, 0, none⟩)] 65) := ⟨_, rfl⟩
  have hs4 : w1.heap.size + 2 ≤ w4.heap.size := by rw [hw4]; simp
  have hnb : w4.cell? ⟨w1.heap.size, 0, none⟩ = some (.pointer (some ⟨g2, 0, none⟩)) := by rw [hw4]; simp [go_sem]
  have hbx : w4.cell? ⟨w1.heap.size + 1, 0, none⟩ = some (.pointer (some ⟨g, 0, none⟩)) := by rw [hw4]; simp [go_sem]
  have hk4 : Kept0 w1 w4 := by rw [hw4]; exact ((Kept.refl _ w1).alloc _).alloc _
  rw [← hw4]
  clear hw4
  replace hG := hG.kept hk4 (fun e => e) (fun e => e)
  replace hG2 := hG2.kept hk4 (fun e => e) (fun e => e)
  replace kk1 := kk1.trans hk4
  have hgl := hg.lt
  have htl := hg.row.lt
  have hwl : w.heap.size ≤ w4.heap.size := kk1.size
  clear hk4
  refine wpIn_wide.1 (wp_range (n := 0) (gf := 137) (lb := #[.pointer (some ⟨w1.heap.size + 1, 0, none⟩)]) rfl (enters_of Tryz.func137 (by kernel_rfl) rfl) (all1_grid (w1.heap.size + 1) g t cap R C f) (fun _ => rfl)
      (fun k W => GridAt W g2 t2 (R' * C') R' C' (resF f R C C' x k) ∧ Kept (· = t2) w4 W) (fun _ _ _ => False)
      (fun _ _ _ h b => ⟨h.1.below b (by omega) (by omega), h.2.thenBelow b (Nat.le_refl _)⟩) (fun _ _ _ _ h _ => h)
      (fun _ W h => ⟨(h.2.cell (by omega) (by omega)).trans hbx, hG.kept h.2 (by omega) (by omega)⟩)
      ⟨hG2.congr (fun j _ => (resF_zero f R C C' x j).symm), Kept.refl _ _⟩ ?_ ?_ ?_)
  · rintro l k W hl1 hl2 hk ⟨hI1, hI2⟩
    have hnbW := (hI2.cell (b := w1.heap.size) (o := 0) (by omega) (by omega)).trans hnb
    have hsW := hI2.size
    unfold allArgs
    gi_wp2_with fail
    refine ⟨((Kept.refl _ W).alloc _).alloc _, fun W2 hk2 hb2 => ?_⟩
    obtain ⟨y, hy⟩ : ∃ y, y = f k := ⟨_, rfl⟩
    have HY := Lib.hid hy
    rw [← hy] at hk2 hb2 ⊢
    clear hy
    obtain ⟨W3, hW3⟩ : ∃ W3, W3 = (W.alloc (.cells #[.int .i64 (rowOf C k : Int), .int .i64 (colOf C k : Int)] 40)).alloc (.cells #[.int .i32 y.g, .int .i64 y.a, .bool y.b, .int .i64 y.m] 36) := ⟨_, rfl⟩
    have hW3s : W3.heap.size = W.heap.size + 1 + 1 := by rw [hW3]; simp
    have b0 : W2.cell? ⟨W.heap.size, 0, none⟩ = some (.int .i64 (rowOf C k : Int)) := (hk2.cell (by simp; omega) (by omega)).trans (by simp [go_sem])
    have b1 : W2.cell? ⟨W.heap.size, 1, none⟩ = some (.int .i64 (colOf C k : Int)) := (hk2.cell (by simp; omega) (by omega)).trans (by simp [go_sem])
    have e0 : W2.cell? ⟨W.heap.size + 1, 0, none⟩ = some (.int .i32 y.g) := (hk2.cell (by simp) (by omega)).trans (by simp [go_sem])
    have e1 : W2.cell? ⟨W.heap.size + 1, 1, none⟩ = some (.int .i64 y.a) := (hk2.cell (by simp) (by omega)).trans (by simp [go_sem])
    have e2 : W2.cell? ⟨W.heap.size + 1, 2, none⟩ = some (.bool y.b) := (hk2.cell (by simp) (by omega)).trans (by simp [go_sem])
    have e3 : W2.cell? ⟨W.heap.size + 1, 3, none⟩ = some (.int .i64 y.m) := (hk2.cell (by simp) (by omega)).trans (by simp [go_sem])
    have hbW : Below w4.heap.size W W2 := (((Below.refl _ W).alloc (by omega) _).alloc (by simp; omega) _).trans hb2
    have hnb2 := (hbW.cell (p := ⟨w1.heap.size, 0, none⟩) (by simp; omega)).trans hnbW
    have hG2W := hI1.below hbW (by omega) (by omega)
    have hk4W := hI2.thenBelow hbW (Nat.le_refl _)
    clear hk2 hb2 hI1 hI2 hnbW hW3 hW3s
    gi_wp2_with fail
    by_cases hth : There R' C' (rowOf C k) (colOf C k)
    · refine round_call0 ((set_in g2 t2 _ R' C' _ _ _ y _ hG2W hth).mono ?_)
      rintro e W5 ⟨rfl, hG5, hk5⟩
      gi_wp2_with fail
      have hk45 : Kept (· = t2) w4 W5 := hk4W.trans hk5
      exact ⟨hk5.mono (fun _ _ e => by omega), hG5.congr (fun j _ => by rw [HY.out]; exact resF_put hk hg.C1 hth j), hk45⟩
    · refine round_call0 ((set_out g2 R' C' _ _ y _ hG2W.c0 hG2W.c1 hth).mono ?_)
      rintro e W5 ⟨rfl, hk5⟩
      gi_wp2_with fail
      have hk45 : Kept (· = t2) w4 W5 := hk4W.later hk5 (fun _ _ e => e.elim)
      exact ⟨hk5.to, (hG2W.kept hk5 (fun e => e) (fun e => e)).congr (fun j hj => resF_skip hth j hj hG2W.C1), hk45⟩
  · rintro D W hD ⟨hI1, hI2⟩ hDc
    have hnbW := (hI2.cell (b := w1.heap.size) (o := 0) (by omega) (by omega)).trans hnb
    have hGW := hG.kept hI2 (by omega) (by omega)
    have q0 := hI1.c0
    have q1 := hI1.c1
    have q2 := hI1.c2
    have r0 := hGW.c0
    have r1 := hGW.c1
    have r2 := hGW.c2
    have z0 := hGW.fz 0
    have z1 := hGW.fz 1
    have z2 := hGW.fz 2
    have m1 : ¬ g = g2 := by omega
    have m2 : ¬ g2 = g := by omega
    have HD := Lib.hid hDc
    clear hDc
    go_wp2_with fail
    obtain ⟨W5, hW5⟩ : ∃ W5, W5 = ((W.setCell ⟨g, 0, none⟩ (.int .i64 R')).setCell ⟨g, 1, none⟩ (.int .i64 C')).setCell ⟨g, 2, none⟩ (.slice (some ⟨t2, 0, none⟩) (R' * C') (R' * C')) := ⟨_, rfl⟩
    have hk5 : Kept (· = g) W W5 := by rw [hW5]; exact ((Kept.set1 W _ _ _).trans (Kept.set1 _ _ _ _)).trans (Kept.set1 _ _ _ _)
    have hh5 : W5.heap[g]? = some (.cells #[.int .i64 R', .int .i64 C', .slice (some ⟨t2, 0, none⟩) (R' * C') (R' * C')] 109 (0, 0)) := by rw [hW5]; exact grid_over hGW.head
    have hD5 : W5.heap[D]? = some (.deferred (some [])) := (hk5.block D (Array.getElem?_eq_some_iff.1 HD.out).1 (by omega)).trans HD.out
    rw [← hW5]
    clear hW5
    refine ⟨by simp, .inl ⟨_, _, rfl, run_takeDeferred hD5, ?_⟩⟩
    have hb6 : Below w4.heap.size W5 (W5.putObj D (.deferred none)) := below_putObj _ hD
    have hI3 : Kept (fun k => k = t2 ∨ k = g) w4 W := hI2.mono (fun _ _ e => Or.inl e)
    have hI4 : Kept (fun k => k = t2 ∨ k = g) w4 W5 := hI3.later hk5 (fun _ _ e => Or.inr e)
    have hkw : Kept (· = g) w W5 := (Kept0.to kk1).later hI4 (fun i hi e => by omega)
    refine ⟨_, results_tmp rfl _ _ _, t2, rfl, by omega, ?_, hkw.thenBelow hb6 (by omega)⟩
    exact ⟨(hb6.block g (by omega)).trans hh5, (hI1.row.kept hk5 (by omega)).below hb6 (by omega), Nat.le_refl _, hI1.R1, hI1.R2, hI1.C1, hI1.C2⟩
  · intro D c k W _ _ h
    exact h.elim

/-- A list of rows, each a row of cells of its own. -/
structure RowsAt (w : World) (B l R C : Nat) (f : Nat → Nat → Cel) : Prop where
  len : ∀ i, i < R → ∃ t cap, w.cell? ⟨l, i, none⟩ = some (.slice (some ⟨t, 0, none⟩) C cap) ∧ C ≤ cap ∧ B ≤ t ∧ t ≠ l ∧ CellsAt w t C (f i)

theorem Tryz.info76 : (Tryz.prog.info? 76).map (fun i => (i.zero, i.size, i.bytes)) = some (some (.slice none 0 0), 1, 24) := by kernel_rfl

theorem rows_nil (w : World) : Calls Tryz.prog 61 #[.pointer none] w fun e w' => e = .returned (.slice none 0 0) ∧ Kept0 w w' := by
  go_enter Tryz.func61, Tryz.ntmps61
  go_wp2
  go_ret
  exact ⟨rfl, Kept.refl _ w⟩

theorem RowsAt.kept {w w' : World} {B l R C : Nat} {f : Nat → Nat → Cel} (h : RowsAt w B l R C f) {S : Nat → Prop} (k : Kept S w w') (hl : l < w.heap.size) (hS : ∀ b, B ≤ b → ¬ S b) (hBl : B ≤ l) : RowsAt w' B l R C f :=
  ⟨fun i hi => by
    obtain ⟨t, cap, h1, h1c, h2, h3, h4⟩ := h.len i hi
    exact ⟨t, cap, (k.cell hl (hS l hBl)).trans h1, h1c, h2, h3, h4.kept k (hS t h2)⟩⟩

theorem rows_step {w w2 : World} {B l k C t2 cap2 : Nat} {F : Nat → Nat → Cel} {cur : Array Value} {R : Nat} (h : RowsAt w B l k C F) (hk : Kept0 w w2) (hcur : w.heap[l]? = some (.cells cur 76 (0, 0))) (hcs : cur.size = R) (hkR : k < R) (ht : w.heap.size ≤ t2) (hB : B ≤ l) (hcap : C ≤ cap2) (hI : CellsAt w2 t2 C (F k)) :
    RowsAt (w2.setCell ⟨l, k, none⟩ (.slice (some ⟨t2, 0, none⟩) C cap2)) B l (k + 1) C F ∧ ∃ cur', (w2.setCell ⟨l, k, none⟩ (.slice (some ⟨t2, 0, none⟩) C cap2)).heap[l]? = some (.cells cur' 76 (0, 0)) ∧ cur'.size = R := by
  have hl : l < w.heap.size := (Array.getElem?_eq_some_iff.1 hcur).1
  have hc2 : w2.heap[l]? = some (.cells cur 76 (0, 0)) := (hk.block l hl (fun e => e)).trans hcur
  have ks := Kept.set1 w2 l k (.slice (some ⟨t2, 0, none⟩) C cap2)
  have hb : (w2.setCell ⟨l, k, none⟩ (.slice (some ⟨t2, 0, none⟩) C cap2)).heap[l]? = some (.cells (cur.setIfInBounds k (.slice (some ⟨t2, 0, none⟩) C cap2)) 76 (0, 0)) := by
    simp [World.setCell, Array.getElem?_modify, hc2]
  refine ⟨⟨fun i hi => ?_⟩, _, hb, by simpa using hcs⟩
  by_cases e : i = k
  · subst e
    refine ⟨t2, cap2, ?_, hcap, by omega, by omega, hI.kept ks (by omega)⟩
    have hlt : i < cur.size := by omega
    simp only [World.cell?, hb]
    simp [hlt]
  · obtain ⟨t, cap, h1, h1c, h2, h3, h4⟩ := h.len i (by omega)
    refine ⟨t, cap, ?_, h1c, h2, h3, (h4.kept hk (fun e => e)).kept ks h3⟩
    have := kcell hk h1
    simp only [World.cell?, hc2] at this
    simp only [World.cell?, hb]
    simp at this ⊢
    rw [Array.getElem?_setIfInBounds_ne (by omega)]
    exact this

set_option maxHeartbeats 400000 in
theorem rows_any (g t cap R C : Nat) (f : Nat → Cel) (w : World) (hg : GridAt w g t cap R C f) :
    Calls Tryz.prog 61 #[.pointer (some ⟨g, 0, none⟩)] w fun e w' => ∃ l, e = .returned (.slice (some ⟨l, 0, none⟩) R R) ∧ w.heap.size ≤ l ∧ RowsAt w' w.heap.size l R C (fun i k => f (i * C + k)) ∧ Kept0 w w' := by
  have hC1 := hg.C1
  have hC2 := hg.C2
  have hR2 := hg.R2
  have c0 := hg.c0
  have hgl := hg.lt
  have hcap := hg.cap
  have hRC : R * C ≤ 65025 := Nat.mul_le_mul hR2 hC2
  obtain ⟨N, hN⟩ : ∃ N, N = R * C := ⟨_, rfl⟩
  have hrow := hg.row
  have hmk := run_make_row' (P := Tryz.prog) 57 76 (.slice none 0 0) 24 Tryz.underlying57 Tryz.info76 rfl .i64 .i64 R (by omega) (by omega)
  have HN := Lib.hid hN
  rw [← hN] at hcap hRC hrow
  clear hN
  go_enter Tryz.func61, Tryz.ntmps61
  go_wp2
  go_loopw [4, 5, 16] (fun s4 s5 i wr => ∃ k : Nat, k ≤ R ∧ i = .int .i64 k ∧ (∃ cur, wr.heap[w.heap.size]? = some (.cells cur 76 (0, 0)) ∧ cur.size = R) ∧ RowsAt wr w.heap.size w.heap.size k C (fun i k => f (i * C + k)) ∧ Kept0 w wr) (fun _ _ i _ => R - (intOf i).toNat)
  case atStart => exact ⟨0, by omega, rfl, ⟨_, heap_new w _, by simp [size_madeCells]⟩, ⟨fun i hi => by omega⟩, (Kept.refl _ w).alloc _⟩
  case round =>
    obtain ⟨k, hk, rfl, ⟨cur, hcur, hcs⟩, hro, hkp⟩ := hrel
    have hlw : w.heap.size < wr.heap.size := (Array.getElem?_eq_some_iff.1 hcur).1
    by_cases hlt : k < R
    · have hth : There R C (k : Int) 0 := ⟨by omega, by omega, by omega, by omega⟩
      have hgr := hg.kept hkp (fun e => e) (fun e => e)
      have hil : idx C (k : Int) 0 + C ≤ N := by
        have := place_lt (a := k) (b := C - 1) (R := R) (C := C) hlt (by omega)
        have hn := HN.out
        simp [idx]; omega
      have hie : Hid (idx C (k : Int) 0 = k * C) := by simp [Hid, idx]
      clear hmk c0 hth
      go_wp2_with fail
      refine (index_any g _ _ C _ hgr.c1 (by omega) (by omega) (by omega) (by omega) hC2).mono ?_
      generalize hi : idx C (k : Int) 0 = i at *
      rintro e w1 ⟨rfl, hk1⟩
      clear hi
      have hg1 := hgr.kept hk1 (fun e => e) (fun e => e)
      have c1 := hg1.c1
      have c2 := hg1.c2
      rw [← HN.out] at c2
      have hs : IntKind.i64.wrap ((i : Int) + (C : Int)) = (i : Int) + (C : Int) := by rw [IntWalk.i64_left]; exact w64 (by omega) (by omega)
      have hne : ¬ cap = i := by omega
      have htl : ((i : Int) + (C : Int)).toNat = i + C := by omega
      obtain ⟨v0, hv0⟩ : ∃ v0, w1.cell? ⟨w.heap.size, k, none⟩ = some v0 := by
        refine ⟨cur[k]'(by omega), ?_⟩
        have := hk1.cell (b := w.heap.size) (o := k) hlw (fun e => e)
        rw [this]
        simp [World.cell?, hcur]
      have hf0 : w1.frozen? ⟨w.heap.size, k, none⟩ = false := by
        rw [hk1.frozen (b := w.heap.size) (o := k) hlw (fun e => e)]
        simp [World.frozen?, hcur]
      have hlw1 : w.heap.size < w1.heap.size := by have := hk1.size; omega
      have hkp1 : Kept0 w w1 := hkp.trans hk1
      have hgn1 : ¬ g = w.heap.size := by omega
      have hgn2 : ¬ w.heap.size = g := by omega
      have bi1 : (0 : Int) ≤ (i : Int) := by omega
      have bi2 : (0 : Int) ≤ (i : Int) + (C : Int) := by omega
      have bi3 : (i : Int) + (C : Int) ≤ (cap : Int) := by omega
      have bi4 : (i : Int) ≤ (i : Int) + (C : Int) := by omega
      have bi5 : i ≤ i + C := by omega
      go_wp2_with fail
      go_region_held3 (fun w' => w'.cell? ⟨g, 1, none⟩ = some (.int .i64 C) ∧ w'.cell? ⟨g, 2, none⟩ = some (.slice (some ⟨t, 0, none⟩) N cap)) (go_keep)
        (first
          | (go_at_call 93; refine (clone_any t i C _ N f _ (hrow.kept (Kept.drew (S := fun _ => False) hkp1) (fun e => e)) hil hC1 (by omega)).mono ?_; rintro e w2 ⟨t2, cap2, rfl, h1, h2, h3, h4⟩; have hcp : C ≤ cap2 := h2; have z1 := kcell h4 c1; have z2 := kcell h4 c2; have z3 := kcell h4 hv0; have z4 := (h4.frozen (b := w.heap.size) (o := k) hlw1 (fun e => e)).trans hf0))
      have hst := rows_step (cap2 := cap2) hro (hk1.trans (Kept.later (Kept.refl (fun _ => False) w1).drew h4 (fun _ _ e => e))) hcur hcs hlt (by have := hk1.size; have h9 : w1.heap.size ≤ t2 := h1; omega) (Nat.le_refl _) hcp (h3.congr (fun j _ => by rw [hie.out]))
      have hkf : Kept0 w (w2.setCell ⟨w.heap.size, k, none⟩ (.slice (some ⟨t2, 0, none⟩) C cap2)) := (hkp1.drew.later h4 (fun _ _ e => e)).setCell _ (Or.inl (Nat.le_refl _)) _
      have HST := Lib.hid hst
      clear hst hro
      go_wp2
      go_roundw
      case rel => exact ⟨k + 1, by omega, by go_num, HST.out.2, HST.out.1, hkf⟩
      case measure => simp [intOf]; omega
    · go_wp2
      go_ret
      obtain rfl : k = R := by omega
      exact ⟨_, rfl, Nat.le_refl _, hro, hkp⟩
end Go.Proofs.YtkpfhgfdfndliaaGreatDoor
