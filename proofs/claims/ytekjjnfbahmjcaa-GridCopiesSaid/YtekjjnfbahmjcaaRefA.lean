/-
  The answer of the document: There, Get, Set and New.
-/
import Derived.Test.YtekjjnfbahmjcaaResize
namespace Go.Proofs.Ytekjjnfbahmjcaa
open Go.RowKit

/-- The document's answer's grid at block g, its numbers at block t. -/
structure RefAt (w : World) (g t cap R C : Nat) (f : Nat → Int) : Prop where
  head : w.heap[g]? = some (.cells #[.int .i64 R, .int .i64 C, .slice (some ⟨t, 0, none⟩) (R * C) cap] 52 (0, 0))
  row : IntsAt w t (R * C) f
  cap : R * C ≤ cap
  R1 : 1 ≤ R
  R2 : R ≤ 255
  C1 : 1 ≤ C
  C2 : C ≤ 255

namespace RefAt
variable {w : World} {g t cap R C : Nat} {f : Nat → Int}
theorem lt (h : RefAt w g t cap R C f) : g < w.heap.size := (Array.getElem?_eq_some_iff.1 h.head).1
theorem ne (h : RefAt w g t cap R C f) : g ≠ t := by
  rintro rfl
  obtain ⟨cur, h1, _⟩ := h.row
  have := h.head.symm.trans h1
  simp at this
theorem c0 (h : RefAt w g t cap R C f) : w.cell? ⟨g, 0, none⟩ = some (.int .i64 R) := by simp [World.cell?, h.head]
theorem c1 (h : RefAt w g t cap R C f) : w.cell? ⟨g, 1, none⟩ = some (.int .i64 C) := by simp [World.cell?, h.head]
theorem c2 (h : RefAt w g t cap R C f) : w.cell? ⟨g, 2, none⟩ = some (.slice (some ⟨t, 0, none⟩) (R * C) cap) := by simp [World.cell?, h.head]
theorem fz (h : RefAt w g t cap R C f) (k : Nat) : w.frozen? ⟨g, k, none⟩ = false := by simp [World.frozen?, h.head]
theorem kept (h : RefAt w g t cap R C f) {S : Nat → Prop} {w' : World} (k : Kept S w w') (hg : ¬ S g) (ht : ¬ S t) : RefAt w' g t cap R C f :=
  ⟨(k.block g h.lt hg).trans h.head, h.row.kept k ht, h.cap, h.R1, h.R2, h.C1, h.C2⟩
theorem withRow (h : RefAt w g t cap R C f) {w' : World} {f' : Nat → Int} (k : Kept (· = t) w w') (hr : IntsAt w' t (R * C) f') : RefAt w' g t cap R C f' :=
  ⟨(k.block g h.lt h.ne).trans h.head, hr, h.cap, h.R1, h.R2, h.C1, h.C2⟩
theorem congr (h : RefAt w g t cap R C f) {f' : Nat → Int} (e : ∀ k, k < R * C → f k = f' k) : RefAt w g t cap R C f' :=
  ⟨h.head, h.row.congr e, h.cap, h.R1, h.R2, h.C1, h.C2⟩
end RefAt

def thereB (R C : Nat) (r c : Int) : Bool := decide (0 ≤ r ∧ r < R ∧ 0 ≤ c ∧ c < C)
theorem thereB_yes {R C : Nat} {r c : Int} (h : There R C r c) : thereB R C r c = true := decide_eq_true h
theorem thereB_no {R C : Nat} {r c : Int} (h : ¬ There R C r c) : thereB R C r c = false := decide_eq_false h

set_option maxHeartbeats 400000 in
theorem thereR (g : Nat) (R C : Nat) (r c : Int) (w : World) (c0 : w.cell? ⟨g, 0, none⟩ = some (.int .i64 R)) (c1 : w.cell? ⟨g, 1, none⟩ = some (.int .i64 C)) :
    Calls Try.prog 40 #[.pointer (some ⟨g, 0, none⟩), .int .i64 r, .int .i64 c] w fun e w' => e = .returned (.bool (thereB R C r c)) ∧ w = w' := by
  go_enter Try.func40, Try.ntmps40
  go_wp2
  all_goals
    go_ret
    refine ⟨ret_bool ?_, rfl⟩
    unfold thereB
    rw [Bool.eq_iff_iff]
    simp
    try omega

theorem wrap_idx {R C : Nat} {r c : Int} (h : There R C r c) (hR : R ≤ 255) (hC : C ≤ 255) : IntKind.i64.wrap (IntKind.i64.wrap (r * (C : Int)) + c) = (idx C r c : Int) := by
  obtain ⟨h1, h2, h3, h4⟩ := h
  obtain ⟨a, rfl⟩ := Int.eq_ofNat_of_zero_le h1
  obtain ⟨b, rfl⟩ := Int.eq_ofNat_of_zero_le h3
  have hm : a * C ≤ 255 * 255 := Nat.mul_le_mul (by omega) (by omega)
  have hm0 : (a : Int) * (C : Int) = ((a * C : Nat) : Int) := by simp
  rw [IntWalk.i64_left, IntWalk.i64_left, hm0, w64 (n := ((a * C : Nat) : Int)) (by omega) (by omega), w64 (by omega) (by omega)]
  simp [idx]

set_option maxHeartbeats 400000 in
theorem getR (g t cap R C : Nat) (f : Nat → Int) (r c : Int) (w : World) (hg : RefAt w g t cap R C f) (h : There R C r c) :
    Calls Try.prog 34 #[.pointer (some ⟨g, 0, none⟩), .int .i64 r, .int .i64 c] w fun e w' => e = .returned (.int .i64 (f (idx C r c))) ∧ Kept0 w w' := by
  have hl := idx_lt h
  have hRC : R * C ≤ 65025 := Nat.mul_le_mul hg.R2 hg.C2
  have hR2 := hg.R2
  have hC2 := hg.C2
  obtain ⟨N, hN⟩ : ∃ N, N = R * C := ⟨_, rfl⟩
  obtain ⟨h1, h2, h3, h4⟩ := h
  have hw1 := wrap_idx (R := R) (C := C) (r := r) (c := c) ⟨h1, h2, h3, h4⟩ hR2 hC2
  have c1 := hg.c1
  have c2 := hg.c2
  have hx := hg.row.cell hl
  rw [← hN] at hl hRC c2
  clear hN
  go_enter Try.func34, Try.ntmps34
  go_wp2
  go_quiet (fail)
  go_wp2
  go_ret
  exact ⟨rfl, (Kept.refl _ w).drewN _⟩

set_option maxHeartbeats 400000 in
theorem setR_in (g t cap R C : Nat) (f : Nat → Int) (r c x : Int) (w : World) (hg : RefAt w g t cap R C f) (h : There R C r c) :
    Calls Try.prog 35 #[.pointer (some ⟨g, 0, none⟩), .int .i64 r, .int .i64 c, .int .i64 x] w fun e w' => e = .returned (.int .i64 0) ∧ RefAt w' g t cap R C (upd f (idx C r c) x) ∧ Kept (· = t) w w' := by
  have hl := idx_lt h
  have hRC : R * C ≤ 65025 := Nat.mul_le_mul hg.R2 hg.C2
  have hR2 := hg.R2
  have hC2 := hg.C2
  obtain ⟨N, hN⟩ : ∃ N, N = R * C := ⟨_, rfl⟩
  have hb := thereB_yes h
  have hw1 := wrap_idx h hR2 hC2
  have HW := Lib.hid hw1
  have HB := Lib.hid hb
  clear hw1 hb
  obtain ⟨h1, h2, h3, h4⟩ := h
  have c0 := hg.c0
  have c1 := hg.c1
  have c2 := hg.c2
  have hx := hg.row.cell hl
  have hf := hg.row.frozen (idx C r c)
  have m1 : ¬ g = t := hg.ne
  have m2 : ¬ t = g := fun e => hg.ne e.symm
  rw [← hN] at hl hRC c2
  clear hN
  go_enter Try.func35, Try.ntmps35
  go_wp2_with fail
  refine (thereR g R C _ _ _ c0 c1).mono ?_
  rw [HB.out]
  rintro e w1 ⟨rfl, rfl⟩
  go_wp2_with fail
  have hw1 := HW.out
  go_region
  all_goals
   go_wp2
   go_ret
   have kt : Kept (· = t) w ((w.setCell ⟨t, idx C r c, none⟩ (.int .i64 x)).drew) := (Kept.set1 w t (idx C r c) (.int .i64 x)).drew
   exact ⟨rfl, hg.withRow kt (hg.row.set (idx C r c) x), kt⟩

theorem setR_out (g t cap R C : Nat) (f : Nat → Int) (r c x : Int) (w : World) (hg : RefAt w g t cap R C f) (h : ¬ There R C r c) :
    Calls Try.prog 35 #[.pointer (some ⟨g, 0, none⟩), .int .i64 r, .int .i64 c, .int .i64 x] w fun e w' => e = .returned (.int .i64 11) ∧ Kept0 w w' := by
  have HB := Lib.hid (thereB_no h)
  clear h
  go_enter Try.func35, Try.ntmps35
  go_wp2_with fail
  refine (thereR g R C _ _ _ hg.c0 hg.c1).mono ?_
  rw [HB.out]
  rintro e w1 ⟨rfl, rfl⟩
  go_wp2
  go_ret
  exact ⟨rfl, Kept.refl _ _⟩

set_option maxHeartbeats 400000 in
theorem newR (R C : Nat) (x : Int) (w : World) (h1 : 1 ≤ R) (h2 : R ≤ 255) (h3 : 1 ≤ C) (h4 : C ≤ 255) :
    Calls Try.prog 15 #[.int .i64 R, .int .i64 C, .int .i64 x] w fun e w' => ∃ g t cap, e = .returned (.pointer (some ⟨g, 0, none⟩)) ∧ w.heap.size ≤ g ∧ w.heap.size ≤ t ∧ RefAt w' g t cap R C (fun _ => x) ∧ Kept0 w w' := by
  obtain ⟨N, hN⟩ : ∃ N, N = R * C := ⟨_, rfl⟩
  have hRC : N ≤ 65025 := by rw [hN]; exact Nat.mul_le_mul h2 h4
  have hN1 : 1 ≤ N := by rw [hN]; exact Nat.mul_pos h1 h3
  have hw1 : IntKind.i64.wrap ((R : Int) * (C : Int)) = (N : Int) := by
    rw [IntWalk.i64_left, hN]
    have := w64 (n := ((R * C : Nat) : Int)) (by omega) (by omega)
    simpa using this
  have hw2 : wrap64 ((R : Int) * (C : Int)) = (N : Int) := by rw [← IntWalk.i64_left]; exact hw1
  have HN := Lib.hid hN
  clear hN
  obtain ⟨i0, hi, hz0, hz1, hz2⟩ := info_parts Try.info3
  go_enter Try.func15, Try.ntmps15
  go_wp2_with fail
  go_loopw [8] (fun i wr => ∃ k : Nat, k ≤ N ∧ i = .int .i64 k ∧ (∃ v, wr.heap[w.heap.size]? = some (.cells #[.int .i64 R, .int .i64 C, v] 52 (0, 0)) ∧ wr.ownsRow (w.heap.size + 1) 3 1 v k (List.replicate k (.int .i64 x))) ∧ Kept0 w wr) (fun i _ => N - (intOf i).toNat)
  case atStart => exact ⟨0, by omega, rfl, ⟨_, heap_new w _, World.ownsRow_nil _ _ _ _⟩, (Kept.refl _ w).alloc _⟩
  case round =>
    obtain ⟨k, hk, rfl, ⟨v, hh, hown⟩, hkp⟩ := hrel
    by_cases hlt : k < N
    · have hc2 : wr.cell? ⟨w.heap.size, 2, none⟩ = some v := by simp [World.cell?, hh]
      have hf2 : wr.frozen? ⟨w.heap.size, 2, none⟩ = false := by simp [World.frozen?, hh]
      have hlw : w.heap.size < wr.heap.size := (Array.getElem?_eq_some_iff.1 hh).1
      go_wp2_with (at_builtin; refine wpList_append_own _ rfl _ _ 48 rfl (w.heap.size + 1) 3 i0 (.int .i64 0) 1 8 Try.underlying48 hi hz0 hz1 hz2 rfl (by decide) _ _ _ rfl (hown.alloc _) ⟨wr.heap.size, 0, none⟩ 1 1 [.int .i64 x] rfl rfl (cell_one_new _ _ _) (by simp [Value.oneCell']) (by unfold maxLen; omega) (by omega) (by simp; omega) ?_)
      intro v' w1 hown' hgrow _
      have hfrm : ∃ g' cap', v' = .slice (some ⟨g', 0, none⟩) (k + 1) cap' ∧ w.heap.size + 1 ≤ g' ∧ k + 1 ≤ cap' ∧ IntsAt w1 g' (k + 1) (fun _ => x) :=
        ints_of_owned (f := fun _ => x) hown' (fun j hj => by rw [← List.replicate_succ']; simp [hj]) (by omega)
      obtain ⟨g', cap', hv', hg', hcap', _⟩ := hfrm
      have hkw : Kept (fun j => some j = v.ownBlock) wr w1 := ((Kept.refl _ wr).alloc _).trans (Kept.ofGrown hgrow)
      have hnv : ¬ some w.heap.size = v.ownBlock := fun e => by have := (hown.lt _ e.symm).1; omega
      have hh1 : w1.heap[w.heap.size]? = some (.cells #[.int .i64 R, .int .i64 C, v] 52 (0, 0)) := (hkw.block _ hlw hnv).trans hh
      have hd2 : w1.cell? ⟨w.heap.size, 2, none⟩ = some v := by simp [World.cell?, hh1]
      have hg2 : w1.frozen? ⟨w.heap.size, 2, none⟩ = false := by simp [World.frozen?, hh1]
      have hkw0 : Kept0 w w1 := hkp.later hkw (fun i hi e => by have := (hown.lt _ e.symm).1; omega)
      have hh2 : (w1.setCell ⟨w.heap.size, 2, none⟩ v').heap[w.heap.size]? = some (.cells #[.int .i64 R, .int .i64 C, v'] 52 (0, 0)) := by
        simp [World.setCell, Array.getElem?_modify, hh1]
      have hown2 : (w1.setCell ⟨w.heap.size, 2, none⟩ v').ownsRow (w.heap.size + 1) 3 1 v' (k + 1) (List.replicate (k + 1) (.int .i64 x)) := by
        rw [List.replicate_succ']
        exact ownsRow_setCell_below hown' (by simp) _
      have HH := Lib.hid hh2
      have HO := Lib.hid hown2
      clear hh2 hown2 hh1 hkw hown hown' hgrow hh hc2 hf2
      rw [hv'] at HH HO ⊢
      clear hv'
      go_wp2_with fail
      go_roundw
      case rel => exact ⟨k + 1, by omega, by go_num, ⟨_, HH.out, HO.out⟩, hkw0.setCell _ (Or.inl (Nat.le_refl _)) _⟩
      case measure => simp [intOf]; omega
    · go_wp2_with fail
      go_ret
      obtain rfl : k = N := by omega
      obtain ⟨t, cap, rfl, ht, hcap, hI⟩ := ints_of_owned (f := fun _ => x) hown (fun j hj => by simp [hj]) hN1
      obtain rfl := HN.out
      exact ⟨w.heap.size, t, cap, rfl, Nat.le_refl _, by omega, ⟨hh, hI, hcap, h1, h2, h3, h4⟩, hkp⟩
end Go.Proofs.Ytekjjnfbahmjcaa
