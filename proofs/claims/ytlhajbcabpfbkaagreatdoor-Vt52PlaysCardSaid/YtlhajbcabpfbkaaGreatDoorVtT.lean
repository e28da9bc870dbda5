/-
  Rows of function values; the tables of vt52: what each byte does, by how many bytes are pending.
-/
import Derived.Test.YtlhajbcabpfbkaaGreatDoorVtG
import Derived.Laws.EntriesVeiled
namespace Go.Proofs.YtlhajbcabpfbkaaGreatDoor
open Go.RowKit

def rowA (n : Nat) (f : Nat → Value) : Array Value := ((List.range n).map f).toArray
theorem rowA_size (n : Nat) (f : Nat → Value) : (rowA n f).size = n := by simp [rowA]
theorem rowA_get {n : Nat} (f : Nat → Value) {i : Nat} (h : i < n) : (rowA n f)[i]? = some (f i) := by simp [rowA, h]
theorem rowA_congr {n : Nat} {f g : Nat → Value} (h : ∀ i, i < n → f i = g i) : rowA n f = rowA n g := by
  unfold rowA
  congr 1
  exact List.map_congr_left fun i hi => h i (List.mem_range.1 hi)
theorem rowA_of {n : Nat} {f : Nat → Value} {xs : Array Value} (hs : xs.size = n) (h : ∀ i, i < n → xs[i]? = some (f i)) : xs = rowA n f := by
  apply Array.ext_getElem?
  intro i
  by_cases hi : i < n
  · rw [h i hi, rowA_get f hi]
  · rw [Array.getElem?_eq_none (by omega), Array.getElem?_eq_none (by rw [rowA_size]; omega)]
theorem rowA_set (n : Nat) (f : Nat → Value) (i : Nat) (x : Value) : (rowA n f).setIfInBounds i x = rowA n (fun j => if j = i then x else f j) := by
  refine rowA_of (by simp [rowA_size]) fun k hk => ?_
  rw [Array.getElem?_setIfInBounds]
  by_cases e : i = k
  · subst e; simp [rowA_size, hk]
  · rw [if_neg e, rowA_get f hk, if_neg (fun h => e h.symm)]
theorem rowA_one {n : Nat} {f : Nat → Value} (h : ∀ i, i < n → (f i).oneCell' = true) : (rowA n f).all (·.oneCell') = true := by
  rw [Array.all_eq_true_iff_forall_mem]
  intro v hv
  simp only [rowA, List.mem_toArray, List.mem_map, List.mem_range] at hv
  obtain ⟨i, hi, rfl⟩ := hv
  exact h i hi

/-- Block b is a row of n values. -/
def TabG (W : World) (b : Nat) (t : TypeId) (n : Nat) (f : Nat → Value) : Prop := W.heap[b]? = some (.cells (rowA n f) t (0, 0))
namespace TabG
variable {W W' : World} {b n : Nat} {t : TypeId} {f : Nat → Value}
theorem lt (h : TabG W b t n f) : b < W.heap.size := (Array.getElem?_eq_some_iff.1 h).1
theorem cell (h : TabG W b t n f) {i : Nat} (hi : i < n) : W.cell? ⟨b, i, none⟩ = some (f i) := by
  unfold World.cell?
  simp only [TabG] at h
  rw [h]
  exact rowA_get f hi
theorem frozen (h : TabG W b t n f) (i : Nat) : W.frozen? ⟨b, i, none⟩ = false := by simp only [TabG] at h; simp [World.frozen?, h]
theorem kept (h : TabG W b t n f) {S : Nat → Prop} (k : Kept S W W') (hs : ¬ S b) : TabG W' b t n f := (k.block b h.lt hs).trans h
theorem kept0 (h : TabG W b t n f) (k : Kept0 W W') : TabG W' b t n f := h.kept k (fun e => e)
theorem below (h : TabG W b t n f) {B : Nat} (k : Below B W W') (hs : b < B) : TabG W' b t n f := (k.block b hs).trans h
theorem set (h : TabG W b t n f) (i : Nat) (x : Value) : TabG (W.setCell ⟨b, i, none⟩ x) b t n (fun j => if j = i then x else f j) := by
  show _ = _
  rw [heap_setCell_same W b i _ t _ h, rowA_set]
theorem congr (h : TabG W b t n f) {g : Nat → Value} (e : ∀ i, i < n → f i = g i) : TabG W b t n g := by
  show _ = _
  rw [← rowA_congr e]
  exact h
end TabG

theorem zero100 (w : World) : (zeroValue 100).run Tryz.prog w = .ok (.agg (rowA 256 fun _ => .nilFunc)) w := by kernel_rfl
theorem info100 (f : Nat → Value) : (Tryz.prog.info? 100).map (·.size) = some (rowA 256 f).size := by
  rw [rowA_size]
  kernel_rfl
theorem keptRow (w : World) (b : Nat) (cs : Array Value) : Kept (· = b) w (w.setRow b cs) :=
  ⟨rfl, rfl, rfl, by rw [setRow_size]; exact Nat.le_refl _, fun k _ hs => setRow_other _ _ k _ hs⟩
theorem TabG.row {W : World} {b n : Nat} {t : TypeId} {f : Nat → Value} (h : TabG W b t n f) (g : Nat → Value) : TabG (W.setRow b (rowA n g)) b t n g := setRow_heap _ _ _ _ _ _ h

attribute [local go_sem] Oper.semAt_some

set_option maxRecDepth 100000 in
set_option maxHeartbeats 4000000 in
theorem same_any (fn : Nat) (w : World) : Calls Tryz.prog 60 #[.func (.func fn) #[] #[]] w fun e w' => e = .returned (.agg (rowA 256 fun _ => .func (.func fn) #[] #[])) ∧ Kept0 w w' := by
  have hz := zero100
  go_enter Tryz.func60, Tryz.ntmps60
  go_upto_region 2 with fail
  obtain ⟨w1, hw1⟩ : ∃ w1, w1 = (w.alloc (.cells (rowA 256 fun _ => .nilFunc) 100)).alloc (.cells (rowA 256 fun _ => .nilFunc) 100) := ⟨_, rfl⟩
  have hk1 : Kept0 w w1 := by rw [hw1]; exact ((Kept.refl _ w).alloc _).alloc _
  have hR1 : TabG w1 w.heap.size 100 256 (fun _ => .nilFunc) := by
    rw [hw1]; exact (Below.heap_alloc _ _ _ (by simp)).trans (heap_new w _)
  have hT1 : TabG w1 (w.heap.size + 1) 100 256 (fun _ => .nilFunc) := by rw [hw1]; exact heap_new2 w _ _
  have hs1 : w.heap.size + 2 = w1.heap.size := by rw [hw1]; simp
  rw [← hw1]
  clear hw1 hz
  go_wp2_with fail
  obtain ⟨V, hV⟩ : ∃ V : Value, V = .func (.func fn) #[] #[] := ⟨_, rfl⟩
  have hV1 : Hid (V.oneCell' = true) := by rw [hV]; rfl
  go_loopw [5] (fun s5 wr => ∃ k : Nat, k ≤ 256 ∧ s5 = .int .i64 (k : Int) ∧ TabG wr (w.heap.size + 1) 100 256 (fun j => if j < k then V else .nilFunc) ∧ Kept (fun b => b = w.heap.size + 1) w1 wr) (fun s5 _ => 256 - (Qu.num s5).toNat)
  case atStart => exact ⟨0, by omega, rfl, hT1.congr (fun i _ => by simp), Kept.refl _ w1⟩
  case round =>
    obtain ⟨k, hk, rfl, hT, hkr⟩ := hrel
    by_cases hlt : k < 256
    · have c0 := hT.cell hlt
      have c1 := hT.frozen k
      simp only [Nat.lt_irrefl, if_false] at c0
      go_wp2_with fail
      go_roundw
      case rel =>
        refine ⟨k + 1, by omega, by go_num, (hT.set k _).congr (fun j _ => ?_), hkr.trans (Kept.set1 _ _ _ _)⟩
        rw [hV]
        by_cases h1 : j = k
        · simp [h1]
        · by_cases h2 : j < k
          · simp [h1, h2, Nat.lt_succ_of_lt h2]
          · have h3 : ¬ j < k + 1 := by omega
            simp [h1, h2, h3]
      case measure => simp [Qu.num]; omega
    · obtain rfl : k = 256 := by omega
      have hT2 : TabG wr (w.heap.size + 1) 100 256 (fun _ => V) := hT.congr (fun j hj => by simp [hj])
      have hR2 := hR1.kept hkr (by omega)
      have k0r : Kept0 w wr := hk1.later hkr (fun i hi e => by omega)
      have hRT := Lib.hid hT2
      have hRR := Lib.hid hR2
      have hsr := Nat.lt_of_lt_of_le (show w.heap.size < w1.heap.size by omega) hkr.size
      clear hT hR1 hT1 hkr hk1 hT2 hR2
      go_upto_region 7 with fail
      refine wp_region_lit ?_
      refine wpList_load_row rfl 100 _ rfl (w.heap.size + 1) rfl 100 _ (0, 0) _ hRT.out Tryz.underlying100 rfl (info100 _) ?_
      refine wpList_store_row rfl 100 _ _ rfl w.heap.size (rowA 256 fun _ => V) rfl rfl 100 _ hRR.out (info100 _) (by rw [rowA_size, rowA_size]) (rowA_one (fun _ _ => hV1.out)) ?_
      refine wpList_nil ?_
      have hRow := hRR.out.row (fun _ => V)
      have hk4 : Kept0 w (wr.setRow w.heap.size (rowA 256 fun _ => V)) := k0r.later (keptRow _ _ _) (fun i hi e => by omega)
      obtain ⟨W4, hW4⟩ : ∃ W4, W4 = wr.setRow w.heap.size (rowA 256 fun _ => V) := ⟨_, rfl⟩
      rw [← hW4] at hRow hk4 ⊢
      clear hW4
      have HR := Lib.hid hRow
      clear hRow
      go_wp2_with fail
      rw [← hV]
      exact bodyPost_ret (results_cell_row Tryz.results60 _ _ w.heap.size 100 _ (0, 0) _ rfl HR.out Tryz.underlying100 rfl (info100 _)) rfl ⟨rfl, hk4⟩
end Go.Proofs.YtlhajbcabpfbkaaGreatDoor
