/-
  What a grid's Resize and Rows do.
-/
import Derived.Test.YtlhajbcabpfbkaaGreatDoorMFr
import Derived.Test.YtlhajbcabpfbkaaGreatDoorMLo
import Derived.Test.YtlhajbcabpfbkaaGreatDoorMWk
namespace Go.Proofs.YtlhajbcabpfbkaaGreatDoor
open Go.RowKit

attribute [local go_sem] Oper.semAt_some

/-- What a grid has that is given another size, when k places have come. -/
def resF (f : Nat → Cel) (R C C' : Nat) (x : Cel) (k : Nat) : Nat → Cel := fun j =>
  if rowOf C' j < R ∧ colOf C' j < C ∧ rowOf C' j * C + colOf C' j < k then f (rowOf C' j * C + colOf C' j) else x

theorem resF_zero (f : Nat → Cel) (R C C' : Nat) (x : Cel) (j : Nat) : resF f R C C' x 0 j = x := by simp [resF]

theorem idx_unique {C a b k : Nat} (hb : b < C) (h : a * C + b = k) : a = rowOf C k ∧ b = colOf C k := by
  unfold rowOf colOf
  subst h
  constructor
  · rw [Nat.add_comm, Nat.add_mul_div_right _ _ (by omega), Nat.div_eq_of_lt hb]; omega
  · rw [Nat.add_comm, Nat.add_mul_mod_self_right, Nat.mod_eq_of_lt hb]

theorem row_col_eq {C j : Nat} : rowOf C j * C + colOf C j = j := by
  have := idx_row_col C j
  simpa [idx] using this

/-- One place more has come, and is put there. -/
theorem resF_put {f : Nat → Cel} {R C R' C' k : Nat} {x : Cel} (hk : k < R * C) (hC : 1 ≤ C) (hth : There R' C' (rowOf C k) (colOf C k)) (j : Nat) :
    upd (resF f R C C' x k) (idx C' (rowOf C k) (colOf C k)) (f k) j = resF f R C C' x (k + 1) j := by
  have h1 := rowOf_lt hk
  have h2 := colOf_lt (k := k) hC
  have h3 := row_col_eq (C := C) (j := k)
  obtain ⟨_, _, _, h4⟩ := hth
  unfold upd
  by_cases e : j = idx C' (rowOf C k) (colOf C k)
  · rw [if_pos e]
    have e' : rowOf C k * C' + colOf C k = j := by rw [e]; simp [idx]
    obtain ⟨e1, e2⟩ := idx_unique (by omega) e'
    unfold resF
    rw [← e1, ← e2, if_pos ⟨h1, h2, by omega⟩, h3]
  · rw [if_neg e]
    unfold resF
    by_cases c : rowOf C' j < R ∧ colOf C' j < C ∧ rowOf C' j * C + colOf C' j < k
    · rw [if_pos c, if_pos ⟨c.1, c.2.1, by omega⟩]
    · rw [if_neg c]
      by_cases c2 : rowOf C' j < R ∧ colOf C' j < C ∧ rowOf C' j * C + colOf C' j < k + 1
      · exfalso
        apply e
        have h5 : rowOf C' j * C + colOf C' j = k := by
          have : ¬ rowOf C' j * C + colOf C' j < k := fun h => c ⟨c2.1, c2.2.1, h⟩
          omega
        obtain ⟨e1, e2⟩ := idx_unique c2.2.1 h5
        have h6 := row_col_eq (C := C') (j := j)
        simp only [idx, Int.toNat_natCast]
        rw [← e1, ← e2, h6]
      · rw [if_neg c2]

theorem resF_skip {f : Nat → Cel} {R C R' C' k : Nat} {x : Cel} (hth : ¬ There R' C' (rowOf C k) (colOf C k)) (j : Nat) (hj : j < R' * C') (hC' : 1 ≤ C') :
    resF f R C C' x k j = resF f R C C' x (k + 1) j := by
  unfold resF
  by_cases c : rowOf C' j < R ∧ colOf C' j < C ∧ rowOf C' j * C + colOf C' j < k
  · rw [if_pos c, if_pos ⟨c.1, c.2.1, by omega⟩]
  · rw [if_neg c]
    by_cases c2 : rowOf C' j < R ∧ colOf C' j < C ∧ rowOf C' j * C + colOf C' j < k + 1
    · exfalso
      apply hth
      have h5 : rowOf C' j * C + colOf C' j = k := by
        have : ¬ rowOf C' j * C + colOf C' j < k := fun h => c ⟨c2.1, c2.2.1, h⟩
        omega
      obtain ⟨e1, e2⟩ := idx_unique c2.2.1 h5
      rw [← e1, ← e2]
      exact there_row_col hj hC'
    · rw [if_neg c2]

theorem grid_over {w : World} {g : Nat} {a b c a' b' c' : Value} {ty : TypeId} (h : w.heap[g]? = some (.cells #[a, b, c] ty (0, 0))) :
    (((w.setCell ⟨g, 0, none⟩ a').setCell ⟨g, 1, none⟩ b').setCell ⟨g, 2, none⟩ c').heap[g]? = some (.cells #[a', b', c'] ty (0, 0)) := by
  simp [World.setCell, Array.getElem?_modify, h]
theorem CellsAt.below {w w' : World} {t N B : Nat} {f : Nat → Cel} (h : CellsAt w t N f) (b : Below B w w') (ht : t < B) : CellsAt w' t N f := by
  obtain ⟨cur, h1, h2⟩ := h
  exact ⟨cur, (b.block t ht).trans h1, h2⟩
theorem GridAt.below {w w' : World} {g t cap R C B : Nat} {f : Nat → Cel} (h : GridAt w g t cap R C f) (b : Below B w w') (hg : g < B) (ht : t < B) : GridAt w' g t cap R C f :=
  ⟨(b.block g hg).trans h.head, h.row.below b ht, h.cap, h.R1, h.R2, h.C1, h.C2⟩


/-- A list of rows, each a row of cells of its own. -/
structure RowsAt (w : World) (B l R C : Nat) (f : Nat → Nat → Cel) : Prop where
  len : ∀ i, i < R → ∃ t cap, w.cell? ⟨l, i, none⟩ = some (.slice (some ⟨t, 0, none⟩) C cap) ∧ C ≤ cap ∧ B ≤ t ∧ t ≠ l ∧ CellsAt w t C (f i)

theorem Tryz.info50 : (Tryz.prog.info? 50).map (fun i => (i.zero, i.size, i.bytes)) = some (some (.slice none 0 0), 1, 24) := by kernel_rfl

theorem rows_nil (w : World) : Calls Tryz.prog 34 #[.pointer none] w fun e w' => e = .returned (.slice none 0 0) ∧ Kept0 w w' := by
  go_enter Tryz.func34, Tryz.ntmps34
  go_wp2
  go_ret
  exact ⟨rfl, Kept.refl _ w⟩

theorem RowsAt.kept {w w' : World} {B l R C : Nat} {f : Nat → Nat → Cel} (h : RowsAt w B l R C f) {S : Nat → Prop} (k : Kept S w w') (hl : l < w.heap.size) (hS : ∀ b, B ≤ b → ¬ S b) (hBl : B ≤ l) : RowsAt w' B l R C f :=
  ⟨fun i hi => by
    obtain ⟨t, cap, h1, h1c, h2, h3, h4⟩ := h.len i hi
    exact ⟨t, cap, (k.cell hl (hS l hBl)).trans h1, h1c, h2, h3, h4.kept k (hS t h2)⟩⟩

theorem rows_step {w w2 : World} {B l k C t2 cap2 : Nat} {F : Nat → Nat → Cel} {cur : Array Value} {R : Nat} (h : RowsAt w B l k C F) (hk : Kept0 w w2) (hcur : w.heap[l]? = some (.cells cur 50 (0, 0))) (hcs : cur.size = R) (hkR : k < R) (ht : w.heap.size ≤ t2) (hB : B ≤ l) (hcap : C ≤ cap2) (hI : CellsAt w2 t2 C (F k)) :
    RowsAt (w2.setCell ⟨l, k, none⟩ (.slice (some ⟨t2, 0, none⟩) C cap2)) B l (k + 1) C F ∧ ∃ cur', (w2.setCell ⟨l, k, none⟩ (.slice (some ⟨t2, 0, none⟩) C cap2)).heap[l]? = some (.cells cur' 50 (0, 0)) ∧ cur'.size = R := by
  have hl : l < w.heap.size := (Array.getElem?_eq_some_iff.1 hcur).1
  have hc2 : w2.heap[l]? = some (.cells cur 50 (0, 0)) := (hk.block l hl (fun e => e)).trans hcur
  have ks := Kept.set1 w2 l k (.slice (some ⟨t2, 0, none⟩) C cap2)
  have hb : (w2.setCell ⟨l, k, none⟩ (.slice (some ⟨t2, 0, none⟩) C cap2)).heap[l]? = some (.cells (cur.setIfInBounds k (.slice (some ⟨t2, 0, none⟩) C cap2)) 50 (0, 0)) := by
    simp [World.setCell, Array.getElem?_modify, hc2]
  refine ⟨⟨fun i hi => ?_⟩, _, hb, by simpa using hcs⟩
  by_cases e : i = k
  · subst e
    refine ⟨t2, cap2, ?_, hcap, by omega, by omega, hI.kept ks (by omega)⟩
    have hlt : i < cur.size := by omega
    simp only [World.cell?, hb]
    simp [hlt]
  · obtain ⟨t, cap, h1, h1c, h2, h3, h4⟩ := h.len i (by omega)
    refine ⟨t, cap, ?_, h1c, h2, h3, (h4.kept hk (fun e => e)).kept ks h3⟩
    have := kcell hk h1
    simp only [World.cell?, hc2] at this
    simp only [World.cell?, hb]
    simp at this ⊢
    rw [Array.getElem?_setIfInBounds_ne (by omega)]
    exact this

set_option maxHeartbeats 400000 in
theorem rows_any (g t cap R C : Nat) (f : Nat → Cel) (w : World) (hg : GridAt w g t cap R C f) :
    Calls Tryz.prog 34 #[.pointer (some ⟨g, 0, none⟩)] w fun e w' => ∃ l, e = .returned (.slice (some ⟨l, 0, none⟩) R R) ∧ w.heap.size ≤ l ∧ RowsAt w' w.heap.size l R C (fun i k => f (i * C + k)) ∧ Kept0 w w' := by
  have hC1 := hg.C1
  have hC2 := hg.C2
  have hR2 := hg.R2
  have c0 := hg.c0
  have hgl := hg.lt
  have hcap := hg.cap
  have hRC : R * C ≤ 65025 := Nat.mul_le_mul hR2 hC2
  obtain ⟨N, hN⟩ : ∃ N, N = R * C := ⟨_, rfl⟩
  have hrow := hg.row
  have hmk := run_make_row' (P := Tryz.prog) 48 50 (.slice none 0 0) 24 Tryz.underlying48 Tryz.info50 rfl .i64 .i64 R (by omega) (by omega)
  have HN := Lib.hid hN
  rw [← hN] at hcap hRC hrow
  clear hN
  go_enter Tryz.func34, Tryz.ntmps34
  go_wp2
  go_loopw [4, 5, 16] (fun s4 s5 i wr => ∃ k : Nat, k ≤ R ∧ i = .int .i64 k ∧ (∃ cur, wr.heap[w.heap.size]? = some (.cells cur 50 (0, 0)) ∧ cur.size = R) ∧ RowsAt wr w.heap.size w.heap.size k C (fun i k => f (i * C + k)) ∧ Kept0 w wr) (fun _ _ i _ => R - (intOf i).toNat)
  case atStart => exact ⟨0, by omega, rfl, ⟨_, heap_new w _, by simp [size_madeCells]⟩, ⟨fun i hi => by omega⟩, (Kept.refl _ w).alloc _⟩
  case round =>
    obtain ⟨k, hk, rfl, ⟨cur, hcur, hcs⟩, hro, hkp⟩ := hrel
    have hlw : w.heap.size < wr.heap.size := (Array.getElem?_eq_some_iff.1 hcur).1
    by_cases hlt : k < R
    · have hth : There R C (k : Int) 0 := ⟨by omega, by omega, by omega, by omega⟩
      have hgr := hg.kept hkp (fun e => e) (fun e => e)
      have hil : idx C (k : Int) 0 + C ≤ N := by
        have := place_lt (a := k) (b := C - 1) (R := R) (C := C) hlt (by omega)
        have hn := HN.out
        simp [idx]; omega
      have hie : Hid (idx C (k : Int) 0 = k * C) := by simp [Hid, idx]
      clear hmk c0 hth
      go_wp2_with fail
      refine (index_any g _ _ C _ hgr.c1 (by omega) (by omega) (by omega) (by omega) hC2).mono ?_
      generalize hi : idx C (k : Int) 0 = i at *
      rintro e w1 ⟨rfl, hk1⟩
      clear hi
      have hg1 := hgr.kept hk1 (fun e => e) (fun e => e)
      have c1 := hg1.c1
      have c2 := hg1.c2
      rw [← HN.out] at c2
      have hs : IntKind.i64.wrap ((i : Int) + (C : Int)) = (i : Int) + (C : Int) := by rw [IntWalk.i64_left]; exact w64 (by omega) (by omega)
      have hne : ¬ cap = i := by omega
      have htl : ((i : Int) + (C : Int)).toNat = i + C := by omega
      obtain ⟨v0, hv0⟩ : ∃ v0, w1.cell? ⟨w.heap.size, k, none⟩ = some v0 := by
        refine ⟨cur[k]'(by omega), ?_⟩
        have := hk1.cell (b := w.heap.size) (o := k) hlw (fun e => e)
        rw [this]
        simp [World.cell?, hcur]
      have hf0 : w1.frozen? ⟨w.heap.size, k, none⟩ = false := by
        rw [hk1.frozen (b := w.heap.size) (o := k) hlw (fun e => e)]
        simp [World.frozen?, hcur]
      have hlw1 : w.heap.size < w1.heap.size := by have := hk1.size; omega
      have hkp1 : Kept0 w w1 := hkp.trans hk1
      have hgn1 : ¬ g = w.heap.size := by omega
      have hgn2 : ¬ w.heap.size = g := by omega
      have bi1 : (0 : Int) ≤ (i : Int) := by omega
      have bi2 : (0 : Int) ≤ (i : Int) + (C : Int) := by omega
      have bi3 : (i : Int) + (C : Int) ≤ (cap : Int) := by omega
      have bi4 : (i : Int) ≤ (i : Int) + (C : Int) := by omega
      have bi5 : i ≤ i + C := by omega
      go_wp2_with fail
      go_region_held3 (fun w' => w'.cell? ⟨g, 1, none⟩ = some (.int .i64 C) ∧ w'.cell? ⟨g, 2, none⟩ = some (.slice (some ⟨t, 0, none⟩) N cap)) (go_keep)
        (first
          | (go_at_call 50; refine (clone_any t i C _ N f _ (hrow.kept (Kept.drew (S := fun _ => False) hkp1) (fun e => e)) hil hC1 (by omega)).mono ?_; rintro e w2 ⟨t2, cap2, rfl, h1, h2, h3, h4⟩; have hcp : C ≤ cap2 := h2; have z1 := kcell h4 c1; have z2 := kcell h4 c2; have z3 := kcell h4 hv0; have z4 := (h4.frozen (b := w.heap.size) (o := k) hlw1 (fun e => e)).trans hf0))
      have hst := rows_step (cap2 := cap2) hro (hk1.trans (Kept.later (Kept.refl (fun _ => False) w1).drew h4 (fun _ _ e => e))) hcur hcs hlt (by have := hk1.size; have h9 : w1.heap.size ≤ t2 := h1; omega) (Nat.le_refl _) hcp (h3.congr (fun j _ => by rw [hie.out]))
      have hkf : Kept0 w (w2.setCell ⟨w.heap.size, k, none⟩ (.slice (some ⟨t2, 0, none⟩) C cap2)) := (hkp1.drew.later h4 (fun _ _ e => e)).setCell _ (Or.inl (Nat.le_refl _)) _
      have HST := Lib.hid hst
      clear hst hro
      go_wp2
      go_roundw
      case rel => exact ⟨k + 1, by omega, by go_num, HST.out.2, HST.out.1, hkf⟩
      case measure => simp [intOf]; omega
    · go_wp2
      go_ret
      obtain rfl : k = R := by omega
      exact ⟨_, rfl, Nat.le_refl _, hro, hkp⟩
end Go.Proofs.YtlhajbcabpfbkaaGreatDoor
