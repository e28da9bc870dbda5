/-
  What tabled answers: the glyph of each byte.
-/
import Derived.Test.YtnnhkejflmjnhaaOfs
import Derived.Laws.Rows
namespace Go.Proofs.Ytnnhkejflmjnhaa
open Go.RowKit

attribute [local go_sem] Oper.semAt_some

def tabArr (f : Nat → Nat) : Array Value := listCells ((List.range 256).map f)
theorem tabArr_get (f : Nat → Nat) {i : Nat} (h : i < 256) : (tabArr f)[i]? = some (.int .i32 (f i : Int)) := by
  unfold tabArr
  rw [listCells_get (by simpa using h)]
  simp [List.getD, h]
theorem tabArr_size (f : Nat → Nat) : (tabArr f).size = 256 := by simp [tabArr, listCells]
theorem tabArr_one (f : Nat → Nat) : (tabArr f).all (·.oneCell') = true := by
  rw [Array.all_eq_true_iff_forall_mem]
  intro v hv
  simp only [tabArr, listCells, List.mem_toArray, List.mem_map] at hv
  obtain ⟨n, _, rfl⟩ := hv
  rfl
theorem tabArr_congr {f g : Nat → Nat} (h : ∀ i, i < 256 → f i = g i) : tabArr f = tabArr g := by
  unfold tabArr
  congr 1
  apply List.map_congr_left
  intro i hi
  exact h i (List.mem_range.1 hi)
theorem tabArr_set (f : Nat → Nat) (i x : Nat) : (tabArr f).setIfInBounds i (.int .i32 (x : Int)) = tabArr (fun j => if j = i then x else f j) := by
  apply Array.ext
  · simp [tabArr_size]
  · intro k h1 h2
    have hk : k < 256 := by simpa [tabArr_size] using h2
    have e2 := tabArr_get (fun j => if j = i then x else f j) hk
    have e1 := tabArr_get f hk
    rw [Array.getElem?_eq_getElem h2] at e2
    rw [Option.some.inj e2, Array.getElem_setIfInBounds (by simpa using h1)]
    by_cases hi : i = k
    · subst hi; simp
    · rw [if_neg hi, if_neg (fun e => hi e.symm)]
      rw [Array.getElem?_eq_getElem (by simpa using h1)] at e1
      exact Option.some.inj e1

/-- Block b is a table of 256 glyphs. -/
def TabAt (W : World) (b : Nat) (f : Nat → Nat) : Prop := W.heap[b]? = some (.cells (tabArr f) 45 (0, 0))
namespace TabAt
variable {W W' : World} {b : Nat} {f : Nat → Nat}
theorem lt (h : TabAt W b f) : b < W.heap.size := (Array.getElem?_eq_some_iff.1 h).1
theorem cell (h : TabAt W b f) {i : Nat} (hi : i < 256) : W.cell? ⟨b, i, none⟩ = some (.int .i32 (f i : Int)) := by
  unfold World.cell?
  simp only [TabAt] at h
  rw [h]
  exact tabArr_get f hi
theorem frozen (h : TabAt W b f) (i : Nat) : W.frozen? ⟨b, i, none⟩ = false := by simp only [TabAt] at h; simp [World.frozen?, h]
theorem kept (h : TabAt W b f) {S : Nat → Prop} (k : Kept S W W') (hs : ¬ S b) : TabAt W' b f := (k.block b h.lt hs).trans h
theorem below (h : TabAt W b f) {B : Nat} (k : Below B W W') (hs : b < B) : TabAt W' b f := (k.block b hs).trans h
theorem set (h : TabAt W b f) (i x : Nat) : TabAt (W.setCell ⟨b, i, none⟩ (.int .i32 (x : Int))) b (fun j => if j = i then x else f j) := by
  show _ = _
  rw [heap_setCell_same W b i _ 45 _ h, tabArr_set]
theorem congr (h : TabAt W b f) {g : Nat → Nat} (e : ∀ i, i < 256 → f i = g i) : TabAt W b g := by
  show _ = _
  rw [← tabArr_congr e]
  exact h
end TabAt

theorem zero45 (w : World) : (zeroValue 45).run Try.prog w = .ok (.agg (tabArr fun _ => 0)) w := by kernel_rfl
theorem info45 (f : Nat → Nat) : (Try.prog.info? 45).map (·.size) = some (tabArr f).size := by
  rw [tabArr_size]
  kernel_rfl

/-- The table when k pairs of All have come. -/
def upTo (set : Int) : Nat → Nat → Nat
  | 0 => fun _ => 65533
  | k + 1 => fun j => if j = ((allL set).getD k (0, 0)).1 then ((allL set).getD k (0, 0)).2 else upTo set k j
theorem upTo_next {set : Int} {k : Nat} {p : Nat × Nat} (h : (allL set)[k]? = some p) : upTo set (k + 1) = fun j => if j = p.1 then p.2 else upTo set k j := by
  have : (allL set).getD k (0, 0) = p := by rw [List.getD, h]; rfl
  simp only [upTo, this]
theorem upTo_hit {set : Int} : ∀ {k : Nat}, k ≤ (allL set).length → ∀ {i : Nat} {p : Nat × Nat}, i < k → (allL set)[i]? = some p → upTo set k p.1 = p.2
  | 0, _, i, _, hi, _ => absurd hi (by omega)
  | k + 1, hk, i, p, hi, hp => by
    have hq : (allL set)[k]? = some ((allL set)[k]'(by omega)) := List.getElem?_eq_getElem (by omega)
    rw [upTo_next hq]
    by_cases e : p.1 = ((allL set)[k]'(by omega)).1
    · simp only [e, if_true]
      have h1 := (allL_mem hp).2.1
      have h2 := (allL_mem hq).2.1
      rw [h1, h2, e]
    · simp only [e, if_false]
      have : i ≠ k := by
        rintro rfl
        rw [hp] at hq
        exact e (congrArg Prod.fst (Option.some.inj hq))
      exact upTo_hit (by omega) (by omega) hp
theorem upTo_miss {set : Int} : ∀ {k : Nat}, k ≤ (allL set).length → ∀ {j : Nat}, refN set j = 65533 → upTo set k j = 65533
  | 0, _, _, _ => rfl
  | k + 1, hk, j, hj => by
    have hq : (allL set)[k]? = some ((allL set)[k]'(by omega)) := List.getElem?_eq_getElem (by omega)
    rw [upTo_next hq]
    by_cases e : j = ((allL set)[k]'(by omega)).1
    · have h2 := allL_mem hq
      exact absurd (h2.2.1.trans (by rw [← e]; exact hj)) h2.2.2
    · simp only [e, if_false]
      exact upTo_miss (by omega) hj
theorem upTo_all (set : Int) {j : Nat} (hj : j < 256) : upTo set (allL set).length j = refN set j := by
  by_cases h : refN set j = 65533
  · rw [h]; exact upTo_miss (Nat.le_refl _) h
  · have hm : (j, refN set j) ∈ allL set := by
      rw [all_ref]
      simp only [refAll, List.mem_map, List.mem_filter, List.mem_range, told]
      exact ⟨j, ⟨hj, by simpa using h⟩, rfl⟩
    obtain ⟨i, hi⟩ := List.getElem?_of_mem hm
    exact upTo_hit (Nat.le_refl _) (List.getElem?_eq_some_iff.1 hi).1 hi

set_option maxRecDepth 100000 in
set_option maxHeartbeats 4000000 in
theorem tabled_any (set : Int) (w : World) : Calls Try.prog 24 #[.int .i64 set] w fun e w' => e = .returned (.agg (tabArr (refN set))) ∧ Kept0 w w' := by
  have hz := zero45
  refine calls_marks Try.func24 rfl ?_
  simp only [Try.ntmps24, List.size_toArray, List.length_cons, List.length_nil, Nat.reduceAdd, Nat.reduceSub, Array.replicate_succ, Array.replicate_zero, List.push_toArray, List.append_toArray, List.nil_append, List.cons_append]
  go_upto_region 2 with fail
  obtain ⟨w1, hw1⟩ : ∃ w1, w1 = (w.alloc (.cells (tabArr fun _ => 0) 45)).alloc (.cells (tabArr fun _ => 0) 45) := ⟨_, rfl⟩
  have hk1 : Kept0 w w1 := by rw [hw1]; exact ((Kept.refl _ w).alloc _).alloc _
  have hR1 : TabAt w1 w.heap.size (fun _ => 0) := by
    rw [hw1]; exact (Below.heap_alloc _ _ _ (by simp)).trans (heap_new w _)
  have hT1 : TabAt w1 (w.heap.size + 1) (fun _ => 0) := by rw [hw1]; exact heap_new2 w _ _
  have hs1 : w.heap.size + 2 = w1.heap.size := by rw [hw1]; simp
  rw [← hw1]
  clear hw1 hz
  go_wp2_with fail
  go_loopw [7] (fun s7 wr => ∃ k : Nat, k ≤ 256 ∧ s7 = .int .i64 (k : Int) ∧ TabAt wr (w.heap.size + 1) (fun j => if j < k then 65533 else 0) ∧ Kept (fun b => b = w.heap.size + 1) w1 wr) (fun s7 _ => 256 - (intOf s7).toNat)
  case atStart => exact ⟨0, by omega, rfl, hT1.congr (fun i _ => by simp), Kept.refl _ w1⟩
  case round =>
    obtain ⟨k, hk, rfl, hT, hkr⟩ := hrel
    by_cases hlt : k < 256
    · have c0 := hT.cell hlt
      have c1 := hT.frozen k
      simp only [Nat.lt_irrefl, if_false] at c0
      go_wp2_with fail
      go_roundw
      case rel =>
        refine ⟨k + 1, by omega, by go_num, (hT.set k 65533).congr (fun j _ => ?_), hkr.trans (Kept.set1 _ _ _ _)⟩
        by_cases h1 : j = k
        · simp [h1]
        · by_cases h2 : j < k
          · simp [h1, h2, Nat.lt_succ_of_lt h2]
          · have h3 : ¬ j < k + 1 := by omega
            simp [h1, h2, h3]
      case measure => simp [intOf]; omega
    · obtain rfl : k = 256 := by omega
      have hT2 : TabAt wr (w.heap.size + 1) (upTo set 0) := hT.congr (fun j hj => by simp [hj, upTo])
      have hR2 := hR1.kept hkr (by omega)
      have hsr := hkr.size
      have k0r : Kept0 w wr := hk1.later hkr (fun i hi e => by omega)
      clear hT hR1 hT1 hkr hk1
      go_wp2_with fail
      refine (all_any _ _).mono ?_
      rintro e w9 ⟨rfl, rfl⟩
      go_wp2_with fail
      obtain ⟨w6, hw6⟩ : ∃ w6, w6 = wr.alloc (.cells #[.int .i64 set] 3) := ⟨_, rfl⟩
      have hbx : w6.cell? ⟨wr.heap.size, 0, none⟩ = some (.int .i64 set) := by rw [hw6]; simp [go_sem]
      have hk6 : Kept0 wr w6 := by rw [hw6]; exact (Kept.refl _ wr).alloc _
      have hs6 : wr.heap.size + 1 = w6.heap.size := by rw [hw6]; simp
      rw [← hw6]
      clear hw6
      replace k0r := k0r.trans hk6
      replace hT2 := hT2.kept hk6 (fun e => e)
      replace hR2 := hR2.kept hk6 (fun e => e)
      have hl1 : w.heap.size + 1 < w6.heap.size := by omega
      refine wpIn_wide.1 (wp_range (n := 0) (gf := 17) (lb := #[.pointer (some ⟨wr.heap.size, 0, none⟩)]) rfl (enters_of Try.func17 (by kernel_rfl) rfl) (all_iter wr.heap.size set) (fun _ => rfl)
        (fun k W => TabAt W (w.heap.size + 1) (upTo set k) ∧ Kept (fun b => b = w.heap.size + 1) w6 W)
        (fun _ _ _ => False)
        (fun _ _ _ h b => ⟨h.1.below b hl1, h.2.thenBelow b (Nat.le_refl _)⟩)
        (fun _ _ _ _ h _ => h)
        (fun _ W h => (h.2.cell (by omega) (by omega)).trans hbx)
        ⟨hT2, Kept.refl _ _⟩ ?_ ?_ ?_)
      · rintro l9 k W hl3 hl4 hk ⟨hI0, hI1⟩
        have hsW := hI1.size
        obtain ⟨p, hp⟩ : ∃ p, (allL set)[k]? = some p := ⟨_, List.getElem?_eq_getElem hk⟩
        obtain ⟨hp1, hp2, hp3⟩ := allL_mem hp
        have HN := Lib.hid (upTo_next hp)
        rw [allArgs_of hp]
        obtain ⟨c, r⟩ := p
        simp only at hp1 hp2 hp3 HN
        unfold pairArgs
        clear hp hp2 hp3
        gi_wp2_with fail
        refine ⟨Kept.refl _ W, fun W2 hk2 hb2 => ?_⟩
        replace hI0 := hI0.below hb2 (by omega)
        replace hI1 := hI1.thenBelow hb2 (Nat.le_refl _)
        have c0 := hI0.cell hp1
        have c1 := hI0.frozen c
        have hsW2 := hI1.size
        clear hk2 hb2
        gi_wp2_with fail
        refine ⟨(Kept.set1 _ _ _ _).mono (fun _ _ e => by omega), ?_, hI1.trans (Kept.set1 _ _ _ _)⟩
        rw [HN.out]
        exact hI0.set c r
      · rintro D W hD ⟨hI0, hI1⟩ hDc
        have hsW := hI1.size
        have HD := Lib.hid hDc
        have hT3 : TabAt W (w.heap.size + 1) (refN set) := hI0.congr (fun j hj => upTo_all set hj)
        have hR3 := hR2.kept hI1 (by omega)
        have hk0W : Kept0 w W := k0r.later hI1 (fun i hi e => by omega)
        have hDl : D < W.heap.size := (Array.getElem?_eq_some_iff.1 hDc).1
        have hRT := Lib.hid hT3
        have hRR := Lib.hid hR3
        clear hDc hI0 hI1 hT2 hR2 k0r hbx hk6 hT3 hR3
        go_upto_region 11 with fail
        refine wp_region_lit ?_
        refine wpList_load_row rfl 45 _ rfl (w.heap.size + 1) rfl 45 _ (0, 0) _ hRT.out Try.underlying45 rfl (info45 _) ?_
        refine wpList_store_row rfl 45 _ _ rfl w.heap.size (tabArr (refN set)) rfl rfl 45 _ hRR.out (info45 _) (by rw [tabArr_size, tabArr_size]) (tabArr_one _) ?_
        refine wpList_nil ?_
        have hRow := setRow_heap W w.heap.size _ (tabArr (refN set)) 45 _ hRR.out
        have hOth := fun k (h : k ≠ w.heap.size) => setRow_other W w.heap.size k (tabArr (refN set)) h
        obtain ⟨W4, hW4⟩ : ∃ W4, W4 = W.setRow w.heap.size (tabArr (refN set)) := ⟨_, rfl⟩
        have hk4 : Kept0 w W4 := by
          rw [hW4]
          exact ⟨hk0W.os, hk0W.tape, hk0W.output, by rw [setRow_size]; exact hk0W.size, fun k hk hs => (hOth k (by omega)).trans (hk0W.block k hk hs)⟩
        have hD4 : W4.heap[D]? = some (.deferred (some [])) := by rw [hW4]; exact (hOth D (by omega)).trans HD.out
        rw [← hW4] at hRow ⊢
        clear hOth hW4
        have HR := Lib.hid hRow
        clear hRow
        go_wp2_with fail
        have hR5 : (W4.putObj D (.deferred none)).heap[w.heap.size]? = some (.cells (tabArr (refN set)) 45 (0, 0)) := (World.putObj_heap_other (by omega)).trans HR.out
        refine ⟨by simp, .inl ⟨_, _, rfl, run_takeDeferred hD4, ?_⟩⟩
        refine ⟨.agg (tabArr (refN set)), results_cell_row Try.results24 _ _ w.heap.size 45 _ (0, 0) _ rfl hR5 Try.underlying45 rfl (info45 _), rfl, ?_⟩
        exact hk4.thenBelow (below_putObj _ hD) (by omega)
      · intro D c k W _ _ h
        exact h.elim

#print axioms tabled_any
end Go.Proofs.Ytnnhkejflmjnhaa
