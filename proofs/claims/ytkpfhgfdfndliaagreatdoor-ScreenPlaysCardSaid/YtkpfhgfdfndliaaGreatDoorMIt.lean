/-
  Texts merged: RefA RefB RefC RefD Made Same Range QuietR AllC SameG.
-/
import Derived.Test.YtkpfhgfdfndliaaGreatDoorMGo
import Derived.Deep.AppendLies
import Derived.Test.YtkpfhgfdfndliaaGreatDoorMLo
import Derived.RangeFuncNested
import Derived.RangeFuncBound
import Derived.RangeFuncCalls
import Derived.RangeFuncLeaves
import Derived.OwnWalkIn
import Derived.TacticsInMore
import Derived.LoopNIn
import Derived.LoopIn
import Derived.Deep.QuietTactic
import Derived.BigQuiet
import Derived.OrdersIn
import Derived.TacticsIn
import Derived.Test.YtkpfhgfdfndliaaGreatDoorMWk
import Derived.Shelf.Abstract
import Derived.Deep.DeepCutAuto
import Derived.Defers
import Derived.Recover
import Derived.RecoverIn
import Derived.Stop.RegionWithIn
/-
  The answer of the document: At.
-/
namespace Go.Proofs.YtkpfhgfdfndliaaGreatDoor
open Go.RowKit

/-- The document's answer's grid at block g, its cells at block t. -/
structure RefAt (w : World) (g t cap R C : Nat) (f : Nat → Cel) : Prop where
  head : w.heap[g]? = some (.cells #[.int .i64 R, .int .i64 C, .slice (some ⟨t, 0, none⟩) (R * C) cap] 78 (0, 0))
  row : CellsAt w t (R * C) f
  cap : R * C ≤ cap
  R1 : 1 ≤ R
  R2 : R ≤ 255
  C1 : 1 ≤ C
  C2 : C ≤ 255

namespace RefAt
variable {w : World} {g t cap R C : Nat} {f : Nat → Cel}
theorem lt (h : RefAt w g t cap R C f) : g < w.heap.size := (Array.getElem?_eq_some_iff.1 h.head).1
theorem ne (h : RefAt w g t cap R C f) : g ≠ t := by
  rintro rfl
  obtain ⟨cur, h1, _⟩ := h.row
  have := h.head.symm.trans h1
  simp at this
theorem c0 (h : RefAt w g t cap R C f) : w.cell? ⟨g, 0, none⟩ = some (.int .i64 R) := by simp [World.cell?, h.head]
theorem c1 (h : RefAt w g t cap R C f) : w.cell? ⟨g, 1, none⟩ = some (.int .i64 C) := by simp [World.cell?, h.head]
theorem c2 (h : RefAt w g t cap R C f) : w.cell? ⟨g, 2, none⟩ = some (.slice (some ⟨t, 0, none⟩) (R * C) cap) := by simp [World.cell?, h.head]
theorem fz (h : RefAt w g t cap R C f) (k : Nat) : w.frozen? ⟨g, k, none⟩ = false := by simp [World.frozen?, h.head]
theorem kept (h : RefAt w g t cap R C f) {S : Nat → Prop} {w' : World} (k : Kept S w w') (hg : ¬ S g) (ht : ¬ S t) : RefAt w' g t cap R C f :=
  ⟨(k.block g h.lt hg).trans h.head, h.row.kept k ht, h.cap, h.R1, h.R2, h.C1, h.C2⟩
theorem withRow (h : RefAt w g t cap R C f) {w' : World} {f' : Nat → Cel} (k : Kept (· = t) w w') (hr : CellsAt w' t (R * C) f') : RefAt w' g t cap R C f' :=
  ⟨(k.block g h.lt h.ne).trans h.head, hr, h.cap, h.R1, h.R2, h.C1, h.C2⟩
theorem congr (h : RefAt w g t cap R C f) {f' : Nat → Cel} (e : ∀ k, k < R * C → f k = f' k) : RefAt w g t cap R C f' :=
  ⟨h.head, h.row.congr e, h.cap, h.R1, h.R2, h.C1, h.C2⟩
end RefAt

theorem ret_bool {a b : Bool} (h : a = b) : Ending.returned (.bool a) = .returned (.bool b) := by rw [h]
theorem wrap_idx {R C : Nat} {r c : Int} (h : There R C r c) (hR : R ≤ 255) (hC : C ≤ 255) : IntKind.i64.wrap (IntKind.i64.wrap (r * (C : Int)) + c) = (idx C r c : Int) := by
  obtain ⟨h1, h2, h3, h4⟩ := h
  obtain ⟨a, rfl⟩ := Int.eq_ofNat_of_zero_le h1
  obtain ⟨b, rfl⟩ := Int.eq_ofNat_of_zero_le h3
  have hm : a * C ≤ 255 * 255 := Nat.mul_le_mul (by omega) (by omega)
  have hm0 : (a : Int) * (C : Int) = ((a * C : Nat) : Int) := by simp
  rw [IntWalk.i64_left, IntWalk.i64_left, hm0, w64 (n := ((a * C : Nat) : Int)) (by omega) (by omega), w64 (by omega) (by omega)]
  simp [idx]

set_option maxHeartbeats 400000 in
theorem getR (g t cap R C : Nat) (f : Nat → Cel) (r c : Int) (w : World) (hg : RefAt w g t cap R C f) (h : There R C r c) :
    Calls Tryz.prog 53 #[.pointer (some ⟨g, 0, none⟩), .int .i64 r, .int .i64 c] w fun e w' => e = .returned (f (idx C r c)).v ∧ Kept0 w w' := by
  have hl := idx_lt h
  have hRC : R * C ≤ 65025 := Nat.mul_le_mul hg.R2 hg.C2
  have hR2 := hg.R2
  have hC2 := hg.C2
  obtain ⟨N, hN⟩ : ∃ N, N = R * C := ⟨_, rfl⟩
  obtain ⟨h1, h2, h3, h4⟩ := h
  have hw1 := wrap_idx (R := R) (C := C) (r := r) (c := c) ⟨h1, h2, h3, h4⟩ hR2 hC2
  have c1 := hg.c1
  have c2 := hg.c2
  obtain ⟨e0, e1, e2, e3⟩ := hg.row.cell hl
  have hgl := hg.lt
  have htl := hg.row.lt
  have b1 : ¬ g = w.heap.size := by omega
  have b2 : ¬ w.heap.size = g := by omega
  have b3 : ¬ t = w.heap.size := by omega
  have b4 : ¬ w.heap.size = t := by omega
  rw [← hN] at hl hRC c2
  clear hN
  go_enter Tryz.func53, Tryz.ntmps53
  go_wp2
  go_region_held3 (fun w' => w'.cell? ⟨g, 1, none⟩ = some (.int .i64 C) ∧ w'.cell? ⟨g, 2, none⟩ = some (Value.slice (some ⟨t, 0, none⟩) N cap) ∧ w'.cell? ⟨t, idx C r c * 4, none⟩ = some (.int .i32 (f (idx C r c)).g) ∧ w'.cell? ⟨t, idx C r c * 4 + 1, none⟩ = some (.int .i64 (f (idx C r c)).a) ∧ w'.cell? ⟨t, idx C r c * 4 + 2, none⟩ = some (.bool (f (idx C r c)).b) ∧ w'.cell? ⟨t, idx C r c * 4 + 3, none⟩ = some (.int .i64 (f (idx C r c)).m)) (go_keep) (first | fail)
  go_wp2
  refine bodyPost_ret (v := (f (idx C r c)).v) (by simp [results, Tryz.results53, go_sem]) rfl ⟨rfl, ?_⟩
  exact ((Kept.refl _ w).alloc _).drew

end Go.Proofs.YtkpfhgfdfndliaaGreatDoor

/-
  The answer of the document: Copy.
-/
namespace Go.Proofs.YtkpfhgfdfndliaaGreatDoor
open Go.RowKit

set_option maxHeartbeats 1000000 in
theorem copyR (g t cap R C : Nat) (f : Nat → Cel) (w : World) (hg : RefAt w g t cap R C f) :
    Calls Tryz.prog 123 #[.pointer (some ⟨g, 0, none⟩)] w fun e w' => ∃ g' t' cap', e = .returned (.pointer (some ⟨g', 0, none⟩)) ∧ w.heap.size ≤ g' ∧ w.heap.size ≤ t' ∧ RefAt w' g' t' cap' R C f ∧ Kept0 w w' := by
  have hRC : R * C ≤ 65025 := Nat.mul_le_mul hg.R2 hg.C2
  have hN1 : 1 ≤ R * C := Nat.mul_pos hg.R1 hg.C1
  have hrow := hg.row
  have c0 := hg.c0
  have c1 := hg.c1
  have c2 := hg.c2
  have hgl := hg.lt
  have m1 : ¬ g = w.heap.size := by omega
  have m2 : ¬ w.heap.size = g := by omega
  obtain ⟨N, hN⟩ : ∃ N, N = R * C := ⟨_, rfl⟩
  rw [← hN] at c2 hRC hN1 hrow
  have HN := Lib.hid hN
  clear hN
  obtain ⟨i0, hi, hz0, hz1, hz2⟩ := info_parts Tryz.info36
  go_enter Tryz.func123, Tryz.ntmps123
  go_wp2_with fail
  go_region
  go_wp2_with fail
  obtain ⟨w1, hw1⟩ : ∃ w1, w1 = (w.alloc (.cells #[.int .i64 R, .int .i64 C, .slice none 0 0] 78)).drew := ⟨_, rfl⟩
  have hk1 : Kept0 w w1 := by rw [hw1]; exact ((Kept.refl _ w).alloc _).drew
  have hh1 : w1.heap[w.heap.size]? = some (.cells #[.int .i64 R, .int .i64 C, .slice none 0 0] 78 (0, 0)) := by rw [hw1]; exact heap_new w _
  have hs1 : w1.heap.size = w.heap.size + 1 := by rw [hw1]; simp [World.drew]
  rw [← hw1]
  clear hw1
  have d2 := kcell hk1 c2
  have e2 : w1.cell? ⟨w.heap.size, 2, none⟩ = some (.slice none 0 0) := by simp [World.cell?, hh1]
  have e3 : w1.frozen? ⟨w.heap.size, 2, none⟩ = false := by simp [World.frozen?, hh1]
  have hrow1 := hrow.kept hk1 (fun e => e)
  have HS := Lib.hid hs1
  have hs2 : w.heap.size < w1.heap.size := by omega
  clear hs1 c0 c1 c2
  have hnews : ∀ j u, (parts f 0 N)[j]? = some u → w1.drew.cell? ((⟨t, 0, none⟩ : Addr).add j) = some u := by
    intro j u hj
    have hlt : j < N * 4 := by have := (List.getElem?_eq_some_iff.1 hj).1; rwa [parts_length] at this
    rw [parts_get _ _ _ _ hlt] at hj
    rw [addr_add, ← hj]
    simpa using (CellsAt.part hrow1 hlt : w1.cell? ⟨t, j, none⟩ = _)
  have HNW := Lib.hid hnews
  clear hnews
  go_region_law (first | (refine step_append_lies _ rfl (.tmp 18) (.tmp 22) 76 rfl w1.heap.size 36 i0 (.agg #[.int .i32 0, .int .i64 0, .bool false, .int .i64 0]) 4 32 Tryz.underlying76 hi hz0 hz1 hz2 rfl (by decide) (.slice none 0 0) 0 [] rfl (World.ownsRow_nil _ _ _ _) ⟨t, 0, none⟩ N cap (parts f 0 N) rfl (by simp [parts_length]) HNW.out (parts_one _ _ _) (by omega) (by unfold maxLen; omega) (by omega) (Nat.le_refl _) w1.heap.size rfl ?_; intro g' cap' w2 hown hgrow _ _; have q2 : w2.cell? ⟨w.heap.size, 2, none⟩ = some (.slice none 0 0) := (World.cell?_of_block (hgrow.block _ hs2 (by simp [Value.ownBlock]))).trans e2; have q3 : w2.frozen? ⟨w.heap.size, 2, none⟩ = false := (World.frozen?_of_block (hgrow.block _ hs2 (by simp [Value.ownBlock]))).trans e3))
  all_goals
    go_wp2_with fail
    go_ret
    have hkg0 : Kept0 w1.drew w2 := (Kept.ofGrown hgrow).mono (fun _ _ e => by simp [Value.ownBlock] at e)
    have hkg : Kept0 w1 w2 := (Kept.refl _ w1).drew.trans hkg0
    obtain ⟨t', cap2, hv, ht', hcap, hI⟩ := cells_of_owned (n := N) (f := f) (by simpa using hown) (fun j hj => by have := parts_get f 0 N j hj; simpa using this) hN1
    simp only [Value.slice.injEq, Option.some.injEq, Addr.mk.injEq] at hv
    obtain ⟨⟨rfl, _⟩, _, rfl⟩ := hv
    have hh2 : w2.heap[w.heap.size]? = some (.cells #[.int .i64 R, .int .i64 C, .slice none 0 0] 78 (0, 0)) := (hkg.block _ hs2 (fun e => e)).trans hh1
    have hs9 := HS.out
    obtain rfl := HN.out
    have ks : Kept (· = w.heap.size) w2 (w2.setCell ⟨w.heap.size, 2, none⟩ (.slice (some ⟨g', 0, none⟩) (R * C) cap')) := (Kept.refl (· = w.heap.size) w2).setCell ⟨w.heap.size, 2, none⟩ (Or.inr rfl) _
    refine ⟨w.heap.size, g', cap', rfl, Nat.le_refl _, by omega, ⟨?_, hI.kept ks (by omega), hcap, hg.R1, hg.R2, hg.C1, hg.C2⟩, ?_⟩
    · simp [World.setCell, Array.getElem?_modify, hh2]
    · exact (hk1.trans hkg).setCell _ (Or.inl (Nat.le_refl _)) _
end Go.Proofs.YtkpfhgfdfndliaaGreatDoor

/-
  The answer of the document: rows.
-/
namespace Go.Proofs.YtkpfhgfdfndliaaGreatDoor
open Go.RowKit

/-- Those from o on, m of them, are F's. -/
def partF (f F : Nat → Cel) (o m : Nat) : Nat → Cel := fun k => if o ≤ k ∧ k < o + m then F k else f k

theorem partF_step (f F : Nat → Cel) (o m k : Nat) : upd (partF f F o m) (o + m) (F (o + m)) k = partF f F o (m + 1) k := by
  unfold upd partF
  by_cases h : k = o + m
  · subst h; rw [if_pos rfl, if_pos (by omega)]
  · rw [if_neg h]
    by_cases h2 : o ≤ k ∧ k < o + m
    · rw [if_pos h2, if_pos (by omega)]
    · rw [if_neg h2, if_neg (by omega)]

/-- What a Roll puts to a place. -/
theorem roll_val {C : Nat} {r r' n : Int} (f : Nat → Cel) (x : Cel) {d e : Nat} (h0 : 0 ≤ r) (h : r + d ≤ r') (he : e < C) :
    (n ≤ r' - (r + d) ∧ r - (r + d) ≤ n → moveF f (r.toNat * C) ((r' - r + 1).toNat * C) (n * C) x (r.toNat * C + (d * C + e)) = f (idx C (r + d + n) e)) ∧
    (¬ (n ≤ r' - (r + d) ∧ r - (r + d) ≤ n) → moveF f (r.toNat * C) ((r' - r + 1).toNat * C) (n * C) x (r.toNat * C + (d * C + e)) = x) := by
  obtain ⟨a, rfl⟩ := Int.eq_ofNat_of_zero_le h0
  obtain ⟨m, hm⟩ : ∃ m : Nat, r' = a + m := ⟨(r' - a).toNat, by omega⟩
  subst hm
  have e1 : (((a : Int) + (m : Int)) - (a : Int) + 1).toNat = m + 1 := by omega
  rw [e1]
  simp only [Int.toNat_natCast]
  have hd : d ≤ m := by omega
  have h2 : (d + 1) * C ≤ (m + 1) * C := Nat.mul_le_mul_right _ (by omega)
  rw [Nat.add_mul d 1] at h2
  unfold moveF
  rw [if_pos (by omega)]
  have e2 : ((a * C + (d * C + e) : Nat) : Int) + n * C = (a * C : Int) + ((d : Int) + n) * C + e := by
    rw [Int.add_mul]
    push_cast
    omega
  rw [e2]
  constructor
  · rintro ⟨h3, h4⟩
    have h5 : 0 ≤ (d : Int) + n := by omega
    have h6 : (d : Int) + n ≤ m := by omega
    have h7 : 0 ≤ ((d : Int) + n) * C := Int.mul_nonneg h5 (by omega)
    have h8 : ((d : Int) + n + 1) * C ≤ ((m : Int) + 1) * C := Int.mul_le_mul_of_nonneg_right (by omega) (by omega)
    rw [Int.add_mul _ 1] at h8
    have h9 : (((m + 1) * C : Nat) : Int) = ((m : Int) + 1) * C := by push_cast; rfl
    rw [if_pos (by push_cast at *; omega)]
    congr 1
    obtain ⟨b, hb⟩ := Int.eq_ofNat_of_zero_le h5
    rw [show (a : Int) + (d : Int) + n = ((a + b : Nat) : Int) by push_cast; omega, hb]
    simp only [idx, Int.toNat_natCast]
    rw [Nat.add_mul]
    have : (a : Int) * C + (b : Int) * C + e = ((a * C + b * C + e : Nat) : Int) := by push_cast; rfl
    rw [this]
    exact Int.toNat_natCast _
  · intro h3
    have hor : (d : Int) + n < 0 ∨ (m : Int) < (d : Int) + n := by omega
    have h9 : (((m + 1) * C : Nat) : Int) = ((m : Int) + 1) * C := by push_cast; rfl
    rcases hor with h4 | h4
    · have h8 : ((d : Int) + n + 1) * C ≤ 0 * C := Int.mul_le_mul_of_nonneg_right (by omega) (by omega)
      rw [Int.add_mul _ 1] at h8
      rw [if_neg (by push_cast at *; omega)]
    · have h8 : ((m : Int) + 1) * C ≤ ((d : Int) + n) * C := Int.mul_le_mul_of_nonneg_right (by omega) (by omega)
      rw [if_neg (by push_cast at *; omega)]

set_option maxHeartbeats 4000000 in
theorem rowsR (g t cap R C : Nat) (f : Nat → Cel) (r : Nat) (n : Int) (x : Cel) (w : World) (hg : RefAt w g t cap R C f) (hr : r < R) (hn : -9223372036854775808 ≤ n ∧ n ≤ 9223372036854775807) :
    Calls Tryz.prog 120 #[.pointer (some ⟨g, 0, none⟩), .int .i64 (r : Int), .int .i64 n, x.v] w fun e w' =>
      e = .returned (.tuple #[]) ∧ RefAt w' g t cap R C (moveF f (r * C) ((R - r) * C) (n * C) x) ∧ Kept (· = t) w w' := by
  have hC1 := hg.C1
  have hC2 := hg.C2
  have hR2 := hg.R2
  have hgl := hg.lt
  have htl := hg.row.lt
  obtain ⟨F, hF⟩ : ∃ F, F = moveF f (r * C) ((R - r) * C) (n * C) x := ⟨_, rfl⟩
  rw [← hF]
  have HF := Lib.hid hF
  clear hF
  obtain ⟨o, ho⟩ : ∃ o, o = r * C := ⟨_, rfl⟩
  have HO := Lib.hid ho
  clear ho
  obtain ⟨N, hN⟩ : ∃ N, N = R * C := ⟨_, rfl⟩
  have hN2 : N ≤ 65025 := by rw [hN]; exact Nat.mul_le_mul hR2 hC2
  have HN := Lib.hid hN
  clear hN
  have hx := CelAt.new w x 36
  go_enter Tryz.func120, Tryz.ntmps120
  go_wp2_with fail
  obtain ⟨W, hW⟩ : ∃ W, W = w.alloc (.cells #[.int .i32 x.g, .int .i64 x.a, .bool x.b, .int .i64 x.m] 36) := ⟨_, rfl⟩
  have k0 : Kept0 w W := by rw [hW]; exact (Kept.refl _ w).alloc _
  have hsW : w.heap.size < W.heap.size := by rw [hW]; simp
  rw [← hW] at hx ⊢
  clear hW
  refine (copyR g t cap R C f _ (hg.kept k0 (fun e => e) (fun e => e))).mono ?_
  rintro e w1 ⟨g1, t1, cap1, rfl, hg1, ht1, hR1, hk1⟩
  replace hx := hx.kept hk1 (fun e => e)
  have hG1 := hg.kept (k0.trans hk1) (fun e => e) (fun e => e)
  have kk1 := k0.trans hk1
  have HRR := Lib.hid hn
  go_wp2_with fail
  go_loopw [9, 10, 11] (fun i s10 s11 wr => ∃ d : Nat, r + d ≤ R ∧ i = .int .i64 ((r : Int) + d) ∧ RefAt wr g t cap R C (partF f F o (d * C)) ∧ RefAt wr g1 t1 cap1 R C f ∧ CelAt wr w.heap.size x ∧ Kept (· = t) w wr) (fun i _ _ _ => ((R : Int) - intOf i).toNat)
  case atStart => exact ⟨0, by omega, by simp, hG1.congr (fun k _ => by simp [partF]; omega), hR1, hx, Kept0.to kk1⟩
  case round =>
    obtain ⟨d, hd1, rfl, hr', hold, hx', hkp⟩ := hrel
    have c0 := hr'.c0
    by_cases hlt : r + d < R
    · have hdt : decide ((r : Int) + (d : Int) < (R : Int)) = true := by simp; omega
      go_wp2_with fail
      go_loopw [10, 11] (fun i s11 wq => ∃ e : Nat, e ≤ C ∧ i = .int .i64 (e : Int) ∧ RefAt wq g t cap R C (partF f F o (d * C + e)) ∧ RefAt wq g1 t1 cap1 R C f ∧ CelAt wq w.heap.size x ∧ Kept (· = t) w wq) (fun i _ _ => C - (intOf i).toNat)
      case atStart => exact ⟨0, by omega, rfl, hr', hold, hx', hkp⟩
      case round =>
        obtain ⟨e, he, rfl, hq, holdq, hxq, hkq⟩ := hrel
        have c0 := hq.c0
        have c1 := hq.c1
        by_cases hlt2 : e < C
        · have HI : Hid (idx C ((r : Int) + d) (e : Int) = o + (d * C + e)) := by
            show idx C ((r : Int) + d) (e : Int) = o + (d * C + e)
            rw [HO.out]
            simp only [idx]
            rw [show ((r : Int) + (d : Int)).toNat = r + d by omega, Nat.add_mul]
            omega
          have HW : Hid (IntKind.i64.wrap (IntKind.i64.wrap (((r : Int) + d) * (C : Int)) + (e : Int)) = (idx C ((r : Int) + d) (e : Int) : Int)) := wrap_idx (R := R) ⟨by omega, by omega, by omega, by omega⟩ hR2 hC2
          obtain ⟨z0, z1, z2, z3⟩ := hxq
          have hsq := hkq.size
          have hgq : g < wr.heap.size := hq.lt
          have hn1 : Hid (¬ g1 = t) := (by omega : ¬ g1 = t)
          have hn2 : Hid (¬ t1 = t) := (by omega : ¬ t1 = t)
          have hn3 : Hid (¬ w.heap.size = t) := (by omega : ¬ w.heap.size = t)
          have hbl : Hid (w.heap.size < wr.heap.size) := World.block_lt_of_cell? wr _ z0
          by_cases h5 : n ≤ (R : Int) - 1 - ((r : Int) + d) ∧ (r : Int) - ((r : Int) + d) ≤ n
          · have HV : Hid (F (o + (d * C + e)) = f (idx C ((r : Int) + d + n) e)) := by
              show F (o + (d * C + e)) = f (idx C ((r : Int) + d + n) e)
              rw [HF.out, HO.out]
              have := (roll_val (r := (r : Int)) (r' := (R : Int) - 1) (C := C) (n := n) f x (d := d) (e := e) (by omega) (by omega) hlt2).1 h5
              rw [show ((R : Int) - 1 - (r : Int) + 1).toNat = R - r by omega] at this
              simpa using this
            obtain ⟨h6, h7⟩ := h5
            have hTh : Hid (There R C ((r : Int) + d + n) (e : Int)) := ⟨by omega, by omega, by omega, by omega⟩
            have hAl := (Kept.refl (fun _ => False) wr).alloc (.cells #[.int .i32 x.g, .int .i64 x.a, .bool x.b, .int .i64 x.m] 36)
            have hnew := CelAt.new wr x 36
            go_wp2_with fail
            refine (getR g1 t1 cap1 R C f _ _ _ (holdq.kept hAl (fun e => e) (fun e => e)) hTh.out).mono ?_
            rw [← HV.out]
            rintro e9 w3 ⟨rfl, hk3⟩
            have ka : Kept0 wr w3 := hAl.trans hk3
            have q3 := hnew.kept hk3 (fun e => e)
            have hs3 : wr.heap.size < w3.heap.size := World.block_lt_of_cell? w3 _ q3.c0
            have hfr : ∀ o, o < 4 → w3.frozen? ⟨wr.heap.size, o, none⟩ = false := fun o _ => (hk3.frozen (by simp) (fun e => e)).trans (by simp [go_sem])
            have fr0 := hfr 0 (by omega)
            have fr1 := hfr 1 (by omega)
            have fr2 := hfr 2 (by omega)
            have fr3 := hfr 3 (by omega)
            obtain ⟨q30, q31, q32, q33⟩ := q3
            clear hfr hk3 hAl hnew
            go_wp2_with fail
            obtain ⟨y, hyd⟩ : ∃ y, y = F (o + (d * C + e)) := ⟨_, rfl⟩
            obtain ⟨b5, hb5⟩ : ∃ b5, b5 = wr.heap.size := ⟨_, rfl⟩
            obtain ⟨w5, hw5⟩ : ∃ w5, w5 = ((((w3.setCell ⟨wr.heap.size, 0, none⟩ (.int .i32 (F (o + (d * C + e))).g)).setCell ⟨wr.heap.size, 1, none⟩ (.int .i64 (F (o + (d * C + e))).a)).setCell ⟨wr.heap.size, 2, none⟩ (.bool (F (o + (d * C + e))).b)).setCell ⟨wr.heap.size, 3, none⟩ (.int .i64 (F (o + (d * C + e))).m)) := ⟨_, rfl⟩
            have k5 : Kept0 wr w5 := by rw [hw5]; exact ka.setCel wr.heap.size 0 (Or.inl (Nat.le_refl _)) (F (o + (d * C + e)))
            have hy5 : Hid (CelAt w5 b5 y) := by
              rw [hw5, hb5, hyd]
              exact ⟨by simp [go_sem, q30], by simp [go_sem, q31], by simp [go_sem, q32], by simp [go_sem, q33]⟩
            rw [← hw5, ← hb5]
            have hlt5 : ¬ b5 = t ∧ ¬ t = b5 ∧ ¬ b5 = g ∧ ¬ g = b5 := by omega
            have hbz := hbl.out
            have HV := Lib.hid hyd.symm
            have hq5 : Hid (RefAt w5 g t cap R C (partF f F o (d * C + e))) := hq.kept k5 (fun e => e) (fun e => e)
            have ho5 : Hid (RefAt w5 g1 t1 cap1 R C f) := holdq.kept k5 (fun e => e) (fun e => e)
            have hx5 : Hid (CelAt w5 w.heap.size x) := CelAt.kept ⟨z0, z1, z2, z3⟩ k5 (fun e => e)
            have hk5 : Hid (Kept (· = t) w w5) := hkq.later k5 (fun _ _ e => e.elim)
            obtain ⟨n1, n2, n3, n4⟩ := hlt5
            clear hw5 hb5 hyd k5 hq holdq hkq c0 c1 z0 z1 z2 z3 fr0 fr1 fr2 fr3 q30 q31 q32 q33
            have hd5 : RefAt w5 g t cap R C (partF f F o (d * C + e)) := hq5.out
            have c1 := hd5.c1
            have c2 := hd5.c2
            have hl5 : idx C ((r : Int) + d) (e : Int) < N := by rw [HI.out, HN.out]; have := idx_lt (R := R) (C := C) (r := (r : Int) + d) (c := (e : Int)) ⟨by omega, by omega, by omega, by omega⟩; rwa [HI.out] at this
            rw [← HN.out] at c2
            obtain ⟨e0, e1, e2, e3⟩ := hd5.row.cell (k := idx C ((r : Int) + d) (e : Int)) (by rw [← HN.out]; exact hl5)
            have f0 := hd5.row.frozen (idx C ((r : Int) + d) (e : Int) * 4)
            have f1 := hd5.row.frozen (idx C ((r : Int) + d) (e : Int) * 4 + 1)
            have f2 := hd5.row.frozen (idx C ((r : Int) + d) (e : Int) * 4 + 2)
            have f3 := hd5.row.frozen (idx C ((r : Int) + d) (e : Int) * 4 + 3)
            obtain ⟨y0, y1, y2, y3⟩ := hy5.out
            have hw1 := HW.out
            have hne1 : ¬ g = t := hd5.ne
            have hne2 : ¬ t = g := fun e => hd5.ne e.symm
            clear hd5
            go_region_held3 (fun w' => w'.cell? ⟨g, 1, none⟩ = some (.int .i64 C) ∧ w'.cell? ⟨g, 2, none⟩ = some (Value.slice (some ⟨t, 0, none⟩) N cap) ∧ w'.cell? ⟨b5, 0, none⟩ = some (.int .i32 y.g) ∧ w'.cell? ⟨b5, 1, none⟩ = some (.int .i64 y.a) ∧ w'.cell? ⟨b5, 2, none⟩ = some (.bool y.b) ∧ w'.cell? ⟨b5, 3, none⟩ = some (.int .i64 y.m)) (go_keep) (first | fail)
            have kt5 : Kept (· = t) w5 _ := ((Kept.refl (· = t) w5).drew).setCel t (idx C ((r : Int) + d) (e : Int) * 4) (Or.inr rfl) y
            have hr4 : RefAt _ g t cap R C _ := hq5.out.withRow kt5 (hq5.out.row.set (idx C ((r : Int) + d) (e : Int)) y)
            have hfin : RefAt _ g t cap R C (partF f F o (d * C + (e + 1))) := hr4.congr (fun j _ => by
              rw [HI.out, ← HV.out]
              exact partF_step f F o (d * C + e) j)
            have hold4 := ho5.out.kept kt5 hn1.out hn2.out
            have hx4 := hx5.out.kept kt5 hn3.out
            have kk4 := hk5.out.trans kt5
            clear kt5 hr4
            go_wp2_with fail
            go_roundw
            case rel => exact ⟨e + 1, by omega, by go_num, hfin, hold4, hx4, kk4⟩
            case measure => simp [intOf]; omega
          · have HV : Hid (F (o + (d * C + e)) = x) := by
              show F (o + (d * C + e)) = x
              rw [HF.out, HO.out]
              have := (roll_val (r := (r : Int)) (r' := (R : Int) - 1) (C := C) (n := n) f x (d := d) (e := e) (by omega) (by omega) hlt2).2 h5
              rw [show ((R : Int) - 1 - (r : Int) + 1).toNat = R - r by omega] at this
              simpa using this
            have hAl := (Kept.refl (fun _ => False) wr).alloc (.cells #[.int .i32 x.g, .int .i64 x.a, .bool x.b, .int .i64 x.m] 36)
            have hnew := CelAt.new wr x 36
            have hor : ¬ n ≤ (R : Int) - 1 - ((r : Int) + d) ∨ ¬ (r : Int) - ((r : Int) + d) ≤ n := by omega
            rcases hor with h6 | h6
            all_goals
              clear h5
              try (have h7 : n ≤ (R : Int) - 1 - ((r : Int) + d) := by omega)
              go_wp2_with fail
              obtain ⟨y, hyd⟩ : ∃ y, y = x := ⟨_, rfl⟩
              obtain ⟨b5, hb5⟩ : ∃ b5, b5 = wr.heap.size := ⟨_, rfl⟩
              obtain ⟨w5, hw5⟩ : ∃ w5, w5 = wr.alloc (.cells #[.int .i32 x.g, .int .i64 x.a, .bool x.b, .int .i64 x.m] 36) := ⟨_, rfl⟩
              have k5 : Kept0 wr w5 := by rw [hw5]; exact hAl
              have hy5 : Hid (CelAt w5 b5 y) := by rw [hw5, hb5, hyd]; exact hnew
              rw [← hw5, ← hb5]
              have hlt5 : ¬ b5 = t ∧ ¬ t = b5 ∧ ¬ b5 = g ∧ ¬ g = b5 := by omega
              have hbz := hbl.out
              have HV : Hid (F (o + (d * C + e)) = y) := by rw [hyd]; exact HV.out
              have hq5 : Hid (RefAt w5 g t cap R C (partF f F o (d * C + e))) := hq.kept k5 (fun e => e) (fun e => e)
              have ho5 : Hid (RefAt w5 g1 t1 cap1 R C f) := holdq.kept k5 (fun e => e) (fun e => e)
              have hx5 : Hid (CelAt w5 w.heap.size x) := CelAt.kept ⟨z0, z1, z2, z3⟩ k5 (fun e => e)
              have hk5 : Hid (Kept (· = t) w w5) := hkq.later k5 (fun _ _ e => e.elim)
              obtain ⟨n1, n2, n3, n4⟩ := hlt5
              clear hw5 hb5 hyd k5 hq holdq hkq c0 c1 z0 z1 z2 z3 hAl hnew
              have hd5 : RefAt w5 g t cap R C (partF f F o (d * C + e)) := hq5.out
              have c1 := hd5.c1
              have c2 := hd5.c2
              have hl5 : idx C ((r : Int) + d) (e : Int) < N := by rw [HI.out, HN.out]; have := idx_lt (R := R) (C := C) (r := (r : Int) + d) (c := (e : Int)) ⟨by omega, by omega, by omega, by omega⟩; rwa [HI.out] at this
              rw [← HN.out] at c2
              obtain ⟨e0, e1, e2, e3⟩ := hd5.row.cell (k := idx C ((r : Int) + d) (e : Int)) (by rw [← HN.out]; exact hl5)
              have f0 := hd5.row.frozen (idx C ((r : Int) + d) (e : Int) * 4)
              have f1 := hd5.row.frozen (idx C ((r : Int) + d) (e : Int) * 4 + 1)
              have f2 := hd5.row.frozen (idx C ((r : Int) + d) (e : Int) * 4 + 2)
              have f3 := hd5.row.frozen (idx C ((r : Int) + d) (e : Int) * 4 + 3)
              obtain ⟨y0, y1, y2, y3⟩ := hy5.out
              have hw1 := HW.out
              have hne1 : ¬ g = t := hd5.ne
              have hne2 : ¬ t = g := fun e => hd5.ne e.symm
              clear hd5
              go_region_held3 (fun w' => w'.cell? ⟨g, 1, none⟩ = some (.int .i64 C) ∧ w'.cell? ⟨g, 2, none⟩ = some (Value.slice (some ⟨t, 0, none⟩) N cap) ∧ w'.cell? ⟨b5, 0, none⟩ = some (.int .i32 y.g) ∧ w'.cell? ⟨b5, 1, none⟩ = some (.int .i64 y.a) ∧ w'.cell? ⟨b5, 2, none⟩ = some (.bool y.b) ∧ w'.cell? ⟨b5, 3, none⟩ = some (.int .i64 y.m)) (go_keep) (first | fail)
              have kt5 : Kept (· = t) w5 _ := ((Kept.refl (· = t) w5).drew).setCel t (idx C ((r : Int) + d) (e : Int) * 4) (Or.inr rfl) y
              have hr4 : RefAt _ g t cap R C _ := hq5.out.withRow kt5 (hq5.out.row.set (idx C ((r : Int) + d) (e : Int)) y)
              have hfin : RefAt _ g t cap R C (partF f F o (d * C + (e + 1))) := hr4.congr (fun j _ => by
                rw [HI.out, ← HV.out]
                exact partF_step f F o (d * C + e) j)
              have hold4 := ho5.out.kept kt5 hn1.out hn2.out
              have hx4 := hx5.out.kept kt5 hn3.out
              have kk4 := hk5.out.trans kt5
              clear kt5 hr4
              go_wp2_with fail
              go_roundw
              case rel => exact ⟨e + 1, by omega, by go_num, hfin, hold4, hx4, kk4⟩
              case measure => simp [intOf]; omega
        · obtain rfl : e = C := by omega
          go_wp2_with fail
          go_roundw
          case rel =>
            refine ⟨d + 1, by omega, by first | rfl | (congr 1; omega), ?_, holdq, hxq, hkq⟩
            rw [Nat.add_mul, Nat.one_mul]
            exact hq
          case measure => simp [intOf]; omega
    · go_wp2_with fail
      go_end0
      have hdd : R - r = d := by omega
      refine ⟨rfl, hr'.congr (fun j _ => ?_), hkp⟩
      unfold partF
      by_cases e : o ≤ j ∧ j < o + d * C
      · rw [if_pos e]
      · rw [if_neg e, HF.out]
        unfold moveF
        rw [hdd, ← HO.out, if_neg e]
end Go.Proofs.YtkpfhgfdfndliaaGreatDoor

/-
  The answer of the document: Up.
-/
namespace Go.Proofs.YtkpfhgfdfndliaaGreatDoor
open Go.RowKit

set_option maxHeartbeats 400000 in
theorem upR (g t cap R C : Nat) (f : Nat → Cel) (n : Int) (x : Cel) (w : World) (hg : RefAt w g t cap R C f) (hn : -9223372036854775808 ≤ n ∧ n ≤ 9223372036854775807) :
    Calls Tryz.prog 88 #[.pointer (some ⟨g, 0, none⟩), .int .i64 n, x.v] w fun e w' => e = .returned (.tuple #[]) ∧ RefAt w' g t cap R C (upF R C f n x) ∧ Kept (· = t) w w' := by
  have hR1 := hg.R1
  have HX : Hid (∀ w', Kept0 w w' → Calls Tryz.prog 120 #[.pointer (some ⟨g, 0, none⟩), .int .i64 0, .int .i64 n, x.v] w' fun e w'' =>
      e = .returned (.tuple #[]) ∧ RefAt w'' g t cap R C (upF R C f n x) ∧ Kept (· = t) w' w'') := fun w' k => by
    have := rowsR g t cap R C f 0 n x w' (hg.kept k (fun e => e) (fun e => e)) (by omega) hn
    simpa [upF] using this
  clear hn
  go_enter Tryz.func88, Tryz.ntmps88
  go_wp2_with fail
  refine (HX.out _ ((Kept.refl _ w).alloc _)).mono ?_
  rintro e w1 ⟨rfl, h1, k1⟩
  go_wp2_with fail
  go_end0
  exact ⟨rfl, h1, (Kept0.to ((Kept.refl _ w).alloc _)).trans k1⟩

end Go.Proofs.YtkpfhgfdfndliaaGreatDoor

/-
  The statements' own words: Cell, Few, Made.
-/
namespace Go.Proofs.YtkpfhgfdfndliaaGreatDoor
open Go.RowKit

/-- A byte as a cell. -/
def celB (b : Int) : Cel := ⟨b, 0, decide (65 ≤ b) && decide (b ≤ 90), 0⟩


def fewB (L : Nat) (C : Int) : Bool := decide (1 ≤ L ∧ L ≤ 8 ∧ 1 ≤ C ∧ C ≤ 12)


/-- The byte of a text, or a blank behind it. -/
def byteN (s : ByteArray) (k : Nat) : Int := if h : k < s.size then (s[k].toNat : Int) else 32
/-- A board's cells, row by row. -/
def boardF (C : Nat) (l : List ByteArray) : Nat → Cel := fun k => celB (byteN (l.getD (k / C) ⟨#[]⟩) (k % C))
/-- The texts of a list in memory. -/
def StrsIn (w : World) (a : Option Addr) (l : List ByteArray) : Prop := ∀ (i : Nat) (s : ByteArray), l[i]? = some s → ∃ b off, a = some ⟨b, off, none⟩ ∧ w.cell? ⟨b, off + i, none⟩ = some (.string s) ∧ s.size ≤ maxLen
theorem StrsIn.kept0 {w w' : World} {a : Option Addr} {l : List ByteArray} (h : StrsIn w a l) (k : Kept0 w w') : StrsIn w' a l := fun i s hs => by
  obtain ⟨b, off, h1, h2, h3⟩ := h i s hs
  exact ⟨b, off, h1, kcell k h2, h3⟩

/-- The first j are F's, the rest is x. -/
def soFar (F : Nat → Cel) (x : Cel) (j : Nat) : Nat → Cel := fun k => if k < j then F k else x
theorem soFar_step (F : Nat → Cel) (x : Cel) (j k : Nat) : upd (soFar F x j) j (F j) k = soFar F x (j + 1) k := by
  unfold upd soFar
  by_cases h : k = j
  · subst h; rw [if_pos rfl, if_pos (by omega)]
  · rw [if_neg h]
    by_cases h2 : k < j
    · rw [if_pos h2, if_pos (by omega)]
    · rw [if_neg h2, if_neg (by omega)]

theorem parts_succ (f : Nat → Cel) (j : Nat) : parts f 0 (j + 1) = parts f 0 j ++ [.int .i32 (f j).g, .int .i64 (f j).a, .bool (f j).b, .int .i64 (f j).m] := by
  unfold parts
  rw [Nat.add_mul, List.range_add, List.map_append]
  congr 1
  have h : List.range (1 * 4) = [0, 1, 2, 3] := by decide
  rw [h]
  simp only [List.map_cons, List.map_nil, Nat.zero_add]
  rw [show (j * 4 + 0) / 4 = j by omega, show (j * 4 + 0) % 4 = 0 by omega, show (j * 4 + 1) / 4 = j by omega, show (j * 4 + 1) % 4 = 1 by omega, show (j * 4 + 2) / 4 = j by omega, show (j * 4 + 2) % 4 = 2 by omega, show (j * 4 + 3) / 4 = j by omega, show (j * 4 + 3) % 4 = 3 by omega]
  rfl

theorem Kept.grown {w w' : World} {t : Nat} (k : Kept (· = t) w w') : w.grownBy w' (some t) := ⟨k.os, k.tape, k.output, k.size, fun i hi hn => k.block i hi (fun e => hn (by rw [e]))⟩

/-- What stands when j cells are made. -/
structure Half (w wr : World) (ab off capA g t cap rb B R C : Nat) (F : Nat → Cel) (j : Nat) : Prop where
  grid : GridAt wr g t cap R C (soFar F (celB 32) j)
  ref : ∃ v, wr.heap[rb]? = some (.cells #[.int .i64 R, .int .i64 C, v] 78 (0, 0)) ∧ wr.ownsRow B 36 4 v j (parts F 0 j)
  b0 : wr.cell? ⟨w.heap.size, 0, none⟩ = some (.slice (some ⟨ab, off, none⟩) R capA)
  b1 : wr.cell? ⟨w.heap.size, 1, none⟩ = some (.int .i64 C)
  kept : Kept0 w wr

theorem Half.kept0 {w wr w' : World} {ab off capA g t cap rb B R C : Nat} {F : Nat → Cel} {j : Nat} (h : Half w wr ab off capA g t cap rb B R C F j) (k : Kept0 wr w') : Half w w' ab off capA g t cap rb B R C F j := by
  obtain ⟨v, h1, h2⟩ := h.ref
  refine ⟨h.grid.kept k (fun e => e) (fun e => e), ⟨v, (k.block _ (Array.getElem?_eq_some_iff.1 h1).1 (fun e => e)).trans h1, h2.kept (row := none) ⟨k.os, k.tape, k.output, k.size, fun i hi _ => k.block i hi (fun e => e)⟩ ?_⟩, kcell k h.b0, kcell k h.b1, h.kept.trans k⟩
  by_cases e : v.ownBlock = none
  · exact Or.inl e
  · exact Or.inr e

end Go.Proofs.YtkpfhgfdfndliaaGreatDoor

/-
  The statements' own words: Same.
-/
namespace Go.Proofs.YtkpfhgfdfndliaaGreatDoor
open Go.RowKit

/-- A cell is itself. -/
theorem same_cel (x : Cel) (w : World) : (Op.equalIn 10000 36 x.v x.v).run Tryz.prog w = .ok true w := by
  rw [run_equalIn_agg w 9999 36 _ _ (by kernel_rfl) (by kernel_rfl)]
  simp [go_sem]

end Go.Proofs.YtkpfhgfdfndliaaGreatDoor

/-
  A range over a function whose iterator keeps a place of its own in memory: one law for the caller, over what an iterator does. No program.
-/
namespace Go.Proofs.YtkpfhgfdfndliaaGreatDoor
open Go.RowKit

/-- What speaks of blocks below B alone. -/
def Deep (B : Nat) (I : Nat → World → Prop) : Prop := ∀ k W W', I k W → Below B W W' → I k W'

/-- An iterator that comes to N rounds, at whose k-th it hands over 'encs k'; G: what it reads. -/
def IterAt (P : Program) (gf : Nat) (lb : Array Value) (encs : Nat → Array Value) (N : Nat) (G : World → Prop) : Prop :=
  ∀ (n l : Nat) (J Jx : Nat → World → Prop) (W : World), Deep W.heap.size J → Deep W.heap.size Jx → (∀ k W1, J k W1 → G W1) →
    (∀ k W1, k < N → J k W1 → YieldAt Fence.wide n P l (encs k) W1 fun e W' =>
      (e = .returned (.bool true) ∧ J (k + 1) W' ∧ Kept (· < W.heap.size) W1 W') ∨ (e = .returned (.bool false) ∧ Jx k W')) →
    J 0 W →
    CallsIn Fence.wide n P gf (#[.func (.yield l) #[] #[]] ++ lb) W fun e W' => (∃ v, e = .returned v) ∧ (J N W' ∨ ∃ k, k < N ∧ Jx k W')

/-- How a round's body may be left. -/
def roundEnd (B : Nat) (I : Nat → World → Prop) (Ix : Code → Nat → World → Prop) (k : Nat) (W : World) : Exit → Act → World → Prop
  | .normal, _, W' => Kept (· < B) W W' ∧ I (k + 1) W'
  | .ret, _, W' => Kept (· < B) W W' ∧ Ix .ret k W'
  | .exit id, _, W' => Kept (· < B) W W' ∧ Ix (.exit id) k W'
  | .goto t, _, W' => Kept (· < B) W W' ∧ Ix (.goto t) k W'
  | .panic _, _, _ => False
  | .outgrown, _, _ => False

theorem below_putObj {B l : Nat} {W : World} (o : Obj) (h : B ≤ l) : Below B W (W.putObj l o) :=
  (Below.refl B W) |>.trans ⟨rfl, rfl, rfl, by simp [World.putObj], fun k hk => World.putObj_heap_other (by omega)⟩
theorem kept_putObj (l : Nat) (W : World) (o : Obj) : Kept (· = l) W (W.putObj l o) :=
  ⟨rfl, rfl, rfl, by simp [World.putObj], fun k _ hs => World.putObj_heap_other hs⟩

theorem roomW (n : Nat) : Fence.wide.room n := room_wide n

theorem roundIn_any {m m' : Nat} {P : Program} {l : Nat} {f : FuncId} {tmps : Array Value} {assign body : Code} {w : World} {R : Ending → World → Prop}
    (h : RoundIn Fence.wide m P l f tmps assign body w R) : RoundIn Fence.wide m' P l f tmps assign body w R :=
  ⟨h.1, fun c cs _ => h.2 c cs (room_wide _)⟩

theorem wp_range {P : Program} {n : Nat} {g : Operand} {ps : Array Tmp} {assign body : Code} {Q : Exit → Act → World → Prop} {a : Act} {w : World}
    {gf : Nat} {lb : Array Value} (hg : a.eval g = .func (.func gf) #[] lb) (eg : ∀ args w, (callFunc gf args).run P w = .ok (.enter gf args) w)
    {encs : Nat → Array Value} {N : Nat} {G : World → Prop} (hit : IterAt P gf lb encs N G) (hps : ∀ k, (encs k).size = ps.size)
    (I : Nat → World → Prop) (Ix : Code → Nat → World → Prop) (hI : Deep w.heap.size I) (hIx : ∀ c, Deep w.heap.size (Ix c)) (hG : ∀ k W, I k W → G W) (h0 : I 0 w)
    (hround : ∀ (l k : Nat) (W : World), w.heap.size ≤ l → l < W.heap.size → k < N → I k W →
      assign.wpIn (Fence.wide.inRound l) n P (Exit.then (fun a₁ W₁ => Kept (· < w.heap.size) W W₁ ∧
          ∀ W₂, Kept (· = l) W₁ W₂ → Below w.heap.size W₁ W₂ → body.wpIn (Fence.wide.inRound l) n P (roundEnd w.heap.size I Ix k W₂) a₁ W₂) (fun _ _ _ => False))
        { tmps := (ps.zip (encs k)).foldl (fun t (p, v) => t.setIfInBounds p v) a.tmps, defers := [] } W)
    (hdone : ∀ (D : Nat) (W : World), w.heap.size ≤ D → I N W → W.heap[D]? = some (.deferred (some [])) → Q .normal { a with defers := { target := .collected D, args := #[] } :: a.defers } W)
    (hstop : ∀ (D : Nat) (c : Code) (k : Nat) (W : World), w.heap.size ≤ D → k < N → Ix c k W → W.heap[D]? = some (.deferred (some [])) → c.wpIn Fence.wide n P Q { a with defers := { target := .collected D, args := #[] } :: a.defers } W) :
    (Code.rangeFunc g ps assign body).wpIn Fence.wide n P Q a w := by
  refine wpIn_rangeFunc ?_
  intro fn hfn
  obtain ⟨rec, hrec⟩ : ∃ rec : LoopState → Option Code → Loop, rec = fun st pe => { state := st, pending := pe, fn, tmps := a.tmps, params := ps, assign, body, defers := w.heap.size } := ⟨_, rfl⟩
  obtain ⟨W1, hW1⟩ : ∃ W1, (w.alloc (.deferred (some []))).alloc (.loop (rec .ready none)) = W1 := ⟨_, rfl⟩
  have hsz : W1.heap.size = w.heap.size + 2 := by rw [← hW1]; simp
  have hL1 : W1.heap[w.heap.size + 1]? = some (.loop (rec .ready none)) := by rw [← hW1]; exact heap_new2 w _ _
  have hK1 : W1.heap[w.heap.size]? = some (.deferred (some [])) := by
    rw [← hW1]; exact (Below.heap_alloc _ _ _ (by simp)).trans (heap_new w _)
  have hb1 : Below w.heap.size w W1 := by
    rw [← hW1]; exact ((Below.refl _ w).alloc (Nat.le_refl _) _).alloc (by simp) _
  refine ⟨w.heap.size + 1, [{ target := .collected w.heap.size, args := #[] }], W1, { target := .fn (.func gf) lb, args := #[.func (.yield (w.heap.size + 1)) #[] #[]] }, W1, gf,
    #[.func (.yield (w.heap.size + 1)) #[] #[]] ++ lb, W1, ?_, ?_, ?_, ?_, ?_, ?_⟩
  · rw [← hW1, hrec]; exact run_enterLoop_outer _ _ _ _ _
  · simp only [resolve, hg]
    simp [go_sem]
  · intro f' _; trivial
  · simp [invoke, go_sem, eg]
  · intro h; simp [Fence.wide] at h
  · refine (hit (n - 1) (w.heap.size + 1)
      (fun k W => I k W ∧ W.heap[w.heap.size + 1]? = some (.loop (rec .ready none)) ∧ W.heap[w.heap.size]? = some (.deferred (some [])))
      (fun k W => ∃ c, Ix c k W ∧ W.heap[w.heap.size + 1]? = some (.loop (rec .done (some c))) ∧ W.heap[w.heap.size]? = some (.deferred (some [])))
      W1 ?_ ?_ (fun k W h => hG k W h.1) ?_ ⟨hI _ _ _ h0 hb1, hL1, hK1⟩).mono ?_
    · rintro k W W' ⟨h1, h2, h3⟩ hb
      exact ⟨hI _ _ _ h1 (hb.mono (by omega)), (hb.block _ (by omega)).trans h2, (hb.block _ (by omega)).trans h3⟩
    · rintro k W W' ⟨c, h1, h2, h3⟩ hb
      exact ⟨c, hIx c _ _ _ h1 (hb.mono (by omega)), (hb.block _ (by omega)).trans h2, (hb.block _ (by omega)).trans h3⟩
    · rintro k W hk ⟨hi, hl, hd⟩
      have hlt : w.heap.size + 1 < W.heap.size := (Array.getElem?_eq_some_iff.1 hl).1
      have hy := run_yield (P := P) (args := encs k) hl (by rw [hrec]; exact hps k)
      rw [hrec] at hy
      refine ⟨fn, _, assign, body, hy, roundIn_any (m := n) (roundIn_of_wpIn hfn (wpIn_mono (hround (w.heap.size + 1) k W (by omega) hlt hk hi) ?_))⟩
      rintro e a1 Wa hp
      cases e with
      | normal =>
        obtain ⟨hka, hbody⟩ := hp
        have hla : Wa.heap[w.heap.size + 1]? = some (.loop (rec .ready none)) := (hka.block _ (by omega) (by simp)).trans hl
        have hda : Wa.heap[w.heap.size]? = some (.deferred (some [])) := (hka.block _ (by omega) (by simp)).trans hd
        have hlta : w.heap.size + 1 < Wa.heap.size := (Array.getElem?_eq_some_iff.1 hla).1
        refine ⟨_, run_beginRound hla (by rw [hrec]), ?_⟩
        obtain ⟨Wb, hWb⟩ : ∃ Wb, Wa.putObj (w.heap.size + 1) (.loop { rec .ready none with state := .busy }) = Wb := ⟨_, rfl⟩
        rw [hWb]
        have hlb : Wb.heap[w.heap.size + 1]? = some (.loop { rec .ready none with state := .busy }) := by rw [← hWb]; exact World.putObj_heap_same hlta
        have hkb : Kept (· = w.heap.size + 1) Wa Wb := by rw [← hWb]; exact kept_putObj _ _ _
        have hdb : Wb.heap[w.heap.size]? = some (.deferred (some [])) := (hkb.block _ (by omega) (by omega)).trans hda
        refine wpIn_mono (hbody Wb hkb (by rw [← hWb]; exact below_putObj _ (by omega))) ?_
        have fin : ∀ (jump : Option Code) (W3 : World), Kept (· < w.heap.size) Wb W3 →
            (Instr.endRound (w.heap.size + 1) jump).run P W3 = .ok (.bool jump.isNone) (W3.putObj (w.heap.size + 1) (.loop (rec (if jump.isNone then .ready else .done) jump))) ∧
            (W3.putObj (w.heap.size + 1) (.loop (rec (if jump.isNone then .ready else .done) jump))).heap[w.heap.size + 1]? = some (.loop (rec (if jump.isNone then .ready else .done) jump)) ∧
            (W3.putObj (w.heap.size + 1) (.loop (rec (if jump.isNone then .ready else .done) jump))).heap[w.heap.size]? = some (.deferred (some [])) := fun jump W3 hk3 => by
          have hl3 := (hk3.block (w.heap.size + 1) (Array.getElem?_eq_some_iff.1 hlb).1 (by omega)).trans hlb
          have hd3 := (hk3.block w.heap.size (Array.getElem?_eq_some_iff.1 hdb).1 (by omega)).trans hdb
          have := run_endRound (P := P) jump hl3
          rw [hrec] at this ⊢
          exact ⟨this, World.putObj_heap_same (Array.getElem?_eq_some_iff.1 hl3).1, (World.putObj_heap_other (by omega)).trans hd3⟩
        rintro e3 a3 W3 hp3
        cases e3 with
        | normal =>
          obtain ⟨hk3, hi3⟩ := hp3
          obtain ⟨hr, hl4, hd4⟩ := fin none W3 hk3
          refine ⟨_, _, hr, .inl ⟨rfl, ⟨hI _ _ _ hi3 (below_putObj _ (by omega)), hl4, hd4⟩, ?_⟩⟩
          have q1 : Kept (· < W1.heap.size) W Wa := hka.mono (fun _ _ e => by omega)
          have q2 : Kept (· < W1.heap.size) Wa Wb := hkb.mono (fun _ _ e => by omega)
          have q3 : Kept (· < W1.heap.size) Wb W3 := hk3.mono (fun _ _ e => by omega)
          have q4 : Kept (· < W1.heap.size) W3 (W3.putObj (w.heap.size + 1) (.loop (rec (if (none : Option Code).isNone then .ready else .done) none))) := (kept_putObj (w.heap.size + 1) W3 (.loop (rec (if (none : Option Code).isNone then .ready else .done) none))).mono (fun _ _ e => by omega)
          exact ((q1.trans q2).trans q3).trans q4
        | ret =>
          obtain ⟨hk3, hi3⟩ := hp3
          obtain ⟨hr, hl4, hd4⟩ := fin (some .ret) W3 hk3
          exact ⟨_, _, hr, .inr ⟨rfl, .ret, hIx _ _ _ _ hi3 (below_putObj _ (by omega)), hl4, hd4⟩⟩
        | exit id =>
          obtain ⟨hk3, hi3⟩ := hp3
          obtain ⟨hr, hl4, hd4⟩ := fin (some (.exit id)) W3 hk3
          exact ⟨_, _, hr, .inr ⟨rfl, .exit id, hIx _ _ _ _ hi3 (below_putObj _ (by omega)), hl4, hd4⟩⟩
        | goto t =>
          obtain ⟨hk3, hi3⟩ := hp3
          obtain ⟨hr, hl4, hd4⟩ := fin (some (.goto t)) W3 hk3
          exact ⟨_, _, hr, .inr ⟨rfl, .goto t, hIx _ _ _ _ hi3 (below_putObj _ (by omega)), hl4, hd4⟩⟩
        | panic ch => exact hp3.elim
        | outgrown => exact hp3.elim
      | ret => exact hp.elim
      | exit id => exact hp.elim
      | goto t => exact hp.elim
      | panic ch => exact hp.elim
      | outgrown => exact hp.elim
    · rintro e W2 ⟨⟨v, rfl⟩, (⟨hi, hl, hd⟩ | ⟨k, hkN, c, hi, hl, hd⟩)⟩
      · exact ⟨none, _, by have := run_endLoop (P := P) hl (by rw [hrec]; simp); rw [hrec] at this; exact this, hdone _ _ (Nat.le_refl _) (hI _ _ _ hi (below_putObj _ (by omega))) ((World.putObj_heap_other (by omega)).trans hd)⟩
      · exact ⟨some c, _, by have := run_endLoop (P := P) hl (by rw [hrec]; simp); rw [hrec] at this; exact this, hstop _ c k _ (Nat.le_refl _) hkN (hIx c _ _ _ hi (below_putObj _ (by omega))) ((World.putObj_heap_other (by omega)).trans hd)⟩

end Go.Proofs.YtkpfhgfdfndliaaGreatDoor

/-
  A region that draws its order, in a round of a range over a function: what holds of it outside holds of it there. No program.
-/
namespace Go.Proofs.YtkpfhgfdfndliaaGreatDoor

/-- No operation is a 'defer' statement. -/
def noDefer (l : List Oper) : Bool := l.all fun o => match o.op with | .defer _ => false | _ => true

theorem noDefer_spec {l : List Oper} (h : noDefer l = true) {i : Nat} {o : Oper} (ho : l[i]? = some o) : ∀ c, o.op ≠ .defer c := by
  intro c hc
  have := List.all_eq_true.1 h o (List.mem_of_getElem? ho)
  simp [hc] at this

theorem wpOpIn_round {P : Program} {n l : Nat} {ops : List Oper} {Q : Exit → Act → World → Prop} (hd : noDefer ops = true) (hQ : ¬ LetsOut Q) {i : Nat} {K : Act → World → Prop} {a : Act} {w : World}
    (h : wpOp P ops.toArray Q i K a w) : wpOpIn (Fence.wide.inRound l) n P ops.toArray Q i K a w := by
  unfold wpOp at h
  unfold wpOpIn
  cases ho : ops.toArray[i]? with
  | none => rw [ho] at h; exact h
  | some o =>
    rw [ho] at h
    simp only at h ⊢
    split
    · rename_i hw
      rw [if_pos hw] at h
      have h := h.resolve_right (fun e => hQ e.2)
      refine ⟨fun _ _ => trivial, ?_⟩
      have hs : Oper.semAt (some l) a.eval o = execOp a.eval o := Oper.semAt_some l a.eval o (noDefer_spec hd (by simpa using ho))
      show o.uponIn (Fence.wide.inRound l) n P a K Q ((o.semAt (some l) a.eval).run P w)
      rw [hs]
      unfold Oper.wp at h
      cases hr : (execOp a.eval o).run P w with
      | ok nx w' =>
        rw [hr] at h
        cases nx with
        | value v => exact h
        | skip => exact h
        | defer d => exact h
        | enter f args => exact ⟨fun e => by simp [Fence.wide, Fence.inRound] at e, CallsIn.inRound l (callsIn_wide.2 h)⟩
        | row row args => exact ⟨fun e => by simp [Fence.wide, Fence.inRound] at e, fun c cs _ => let ⟨v, w'', r, s⟩ := h c cs; ⟨v, w'', r, stepsIn_wide.2 s⟩⟩
        | _ => exact h.elim
      | halt hh w' =>
        rw [hr] at h
        cases hh with
        | panic v => exact h
        | _ => exact h.elim
    · rename_i hw
      rw [if_neg hw] at h
      exact ⟨fun _ _ => trivial, h⟩

theorem wpAnyIn_round {P : Program} {n l : Nat} {md : Region.Mode} {ops : List Oper} {Q : Exit → Act → World → Prop} (hd : noDefer ops = true) (hQ : ¬ LetsOut Q) :
    ∀ (fuel : Nat) (listed : Array Bool) (a : Act) (w : World), wpAny P md ops.toArray Q fuel listed a w → wpAnyIn (Fence.wide.inRound l) n P md ops.toArray Q fuel listed a w := by
  intro fuel
  induction fuel with
  | zero => exact fun _ _ _ h => h
  | succ fuel ih =>
    intro listed a w h
    exact ⟨h.1, fun i hi => wpOpIn_mono (fun a w => ih _ a w) (wpOpIn_round hd hQ (h.2 i hi))⟩

/-- ONE WALK IN THE ORDER OF THE TEXT, IN A ROUND. -/
theorem wpIn_round_quiet {P : Program} {n l id : Nat} {Q : Exit → Act → World → Prop} {a : Act} {w : World} {ops : List Oper} (hd : noDefer ops = true) (hm : P.follows .mixedOrders = true) (hB : Region.lexB .any ops.toArray = true) (hQ : ¬ LetsOut Q)
    (h : wpQuiet P ops.toArray (fun w' => ∃ n, w' = w.drewN n) (fun a' => ∀ w', (∃ n, w' = w.drewN n) → Q .normal a' w') ops a) : (Code.region id ops.toArray true).wpIn (Fence.wide.inRound l) n P Q a w := by
  simp only [Region.lexB, Bool.and_eq_true] at hB
  refine wpIn_region_any hm (wpAnyIn_round hd hQ _ _ _ _ (wpAny_of_quiet (C := fun w' => ∃ n, w' = w.drewN n) (Q := fun a' => ∀ w', (∃ n, w' = w.drewN n) → Q .normal a' w') (fun _ w' hw' h => h w' hw') _ _ _ _ ⟨1, rfl⟩ ?_))
  have := wpAnyQ_lex (C := fun w' => ∃ n, w' = w.drewN n) (md := .any) hB.1 ops 0 (Array.replicate ops.toArray.size false) a (by simp) (by simpa using hB.2) (by simpa using h)
  simpa using this

end Go.Proofs.YtkpfhgfdfndliaaGreatDoor

/-
  All of a grid of cells: which rounds it comes to; Copy; how a function that ranges over one is walked.
-/
namespace Go.Proofs.YtkpfhgfdfndliaaGreatDoor
open Go.RowKit

attribute [local go_sem] Oper.semAt_some

theorem wide_call {n : Nat} {f : FuncId} {args : Array Value} {w : World} {R : Ending → World → Prop} (h : Calls Tryz.prog f args w R) :
    Fence.wide.fn f ∧ (Fence.wide.depth.isSome = true → 1 ≤ n) ∧ CallsIn Fence.wide (n - 1) Tryz.prog f args w R :=
  ⟨trivial, fun h => by simp [Fence.wide] at h, callsIn_wide.2 h⟩

/-- A function that holds a range over a function, walked by the plain walk. -/
theorem calls_marks {f : FuncId} {fn : Func} {c : Code} {args : Array Value} {w : World} {R : Ending → World → Prop} (hf : Tryz.prog.funcs[f]? = some fn) (hb : fn.body = some c)
    (h : c.wp Tryz.prog (bodyPostM Fence.wide 0 Tryz.prog fn R) { tmps := args ++ Array.replicate (fn.ntmps - args.size) undef, defers := [] } w) : Calls Tryz.prog f args w R :=
  callsIn_wide.1 (callsIn_of_wp_marks hf hb trivial (wpIn_wide.2 h))

theorem Kept.set1 (w : World) (b o : Nat) (v : Value) : Kept (· = b) w (w.setCell ⟨b, o, none⟩ v) :=
  Kept.setCell (S := (· = b)) (Kept.refl _ w) ⟨b, o, none⟩ (Or.inr rfl) v
theorem Kept.thenBelow {S : Nat → Prop} {a w w' : World} {B : Nat} (h : Kept S a w) (b : Below B w w') (hB : a.heap.size ≤ B) : Kept S a w' :=
  ⟨b.os.trans h.os, b.tape.trans h.tape, b.output.trans h.output, Nat.le_trans h.size b.size, fun i hi hs => (b.block i (by omega)).trans (h.block i hi hs)⟩

theorem all_any (p : Option Addr) (w : World) : Calls Tryz.prog 101 #[.pointer p] w fun e w' => e = .returned (.func (.func 137) #[] #[.pointer (some ⟨w.heap.size, 0, none⟩)]) ∧ w' = w.alloc (.cells #[.pointer p] 65) := by
  have hmf : ∀ (fn : Fn) (first cap : Array Value) (w : World), (Instr.makeFunc fn first cap).run Tryz.prog w = .ok (.func fn first cap) w := fun _ _ _ _ => rfl
  go_enter Tryz.func101, Tryz.ntmps101
  go_wp2
  go_ret
  exact ⟨rfl, rfl⟩

set_option maxHeartbeats 400000 in
theorem copy_any (g t cap R C : Nat) (f : Nat → Cel) (w : World) (hg : GridAt w g t cap R C f) :
    Calls Tryz.prog 54 #[.pointer (some ⟨g, 0, none⟩)] w fun e w' => ∃ g' t' cap', e = .returned (.pointer (some ⟨g', 0, none⟩)) ∧ w.heap.size ≤ g' ∧ w.heap.size ≤ t' ∧ GridAt w' g' t' cap' R C f ∧ Kept0 w w' := by
  have hRC : R * C ≤ 65025 := Nat.mul_le_mul hg.R2 hg.C2
  have hN1 : 1 ≤ R * C := Nat.mul_pos hg.R1 hg.C1
  have c0 := hg.c0
  have c1 := hg.c1
  have c2 := hg.c2
  have hrow := hg.row
  obtain ⟨N, hN⟩ : ∃ N, N = R * C := ⟨_, rfl⟩
  rw [← hN] at c2 hRC hN1 hrow
  have HN := Lib.hid hN
  clear hN
  go_enter Tryz.func54, Tryz.ntmps54
  go_wp2_with fail
  go_region_held3 (fun w' => w'.cell? ⟨g, 0, none⟩ = some (.int .i64 R) ∧ w'.cell? ⟨g, 1, none⟩ = some (.int .i64 C) ∧ w'.cell? ⟨g, 2, none⟩ = some (Value.slice (some ⟨t, 0, none⟩) N cap)) (go_keep)
    (first
      | (go_at_call 93; refine (clone_any t 0 N cap N f w.drew (CellsAt.drewN hrow 1) (by omega) hN1 (by omega)).mono ?_; rintro e w2 ⟨t2, cap2, rfl, h1, h2, h3, h4⟩; have z0 := kcell h4 (show w.drew.cell? _ = _ from c0); have z1 := kcell h4 (show w.drew.cell? _ = _ from c1); have z2 := kcell h4 (show w.drew.cell? _ = _ from c2)))
  all_goals
    go_wp2_with fail
    go_ret
    obtain rfl := HN.out
    have h1' : w.heap.size ≤ t2 := h1
    have h4' : Kept0 w w2 := (Kept.refl (fun _ => False) w).drew.trans h4
    refine ⟨w2.heap.size, t2, cap2, rfl, h4'.size, h1', ⟨heap_new _ _, (h3.alloc _).congr (fun k _ => by simp), h2, hg.R1, hg.R2, hg.C1, hg.C2⟩, h4'.alloc _⟩

/-- Which place an iterator's own cells tell. -/
def placeOf (C b : Nat) (w : World) : Nat :=
  match w.cell? ⟨b, 0, none⟩, w.cell? ⟨b, 1, none⟩ with
  | some (.int _ r), some (.int _ c) => idx C r c
  | _, _ => 0

theorem placeOf_eq {C b : Nat} {w : World} {r c : Int} (h0 : w.cell? ⟨b, 0, none⟩ = some (.int .i64 r)) (h1 : w.cell? ⟨b, 1, none⟩ = some (.int .i64 c)) : placeOf C b w = idx C r c := by
  simp [placeOf, h0, h1]

/-- A block of two numbers that may be written. -/
structure TwoAt (w : World) (b : Nat) (r c : Int) : Prop where
  c0 : w.cell? ⟨b, 0, none⟩ = some (.int .i64 r)
  c1 : w.cell? ⟨b, 1, none⟩ = some (.int .i64 c)
  f0 : w.frozen? ⟨b, 0, none⟩ = false
  f1 : w.frozen? ⟨b, 1, none⟩ = false

theorem TwoAt.lt {w : World} {b : Nat} {r c : Int} (h : TwoAt w b r c) : b < w.heap.size := World.block_lt_of_cell? w _ h.c0
theorem TwoAt.kept {w w' : World} {b : Nat} {r c : Int} (h : TwoAt w b r c) {S : Nat → Prop} (k : Kept S w w') (hs : ¬ S b) : TwoAt w' b r c :=
  ⟨(k.cell h.lt hs).trans h.c0, (k.cell h.lt hs).trans h.c1, (k.frozen h.lt hs).trans h.f0, (k.frozen h.lt hs).trans h.f1⟩

theorem TwoAt.drewN {w : World} {b : Nat} {r c : Int} (h : TwoAt w b r c) (n : Nat) : TwoAt (w.drewN n) b r c := ⟨h.c0, h.c1, h.f0, h.f1⟩
theorem TwoAt.set1 {w : World} {b : Nat} {r c : Int} (h : TwoAt w b r c) (x : Int) : TwoAt (w.setCell ⟨b, 1, none⟩ (.int .i64 x)) b r x :=
  ⟨by simp [go_sem, h.c0], by simp [go_sem, h.c1], by simp [go_sem, h.f0], by simp [go_sem, h.f1]⟩
theorem TwoAt.set0 {w : World} {b : Nat} {r c : Int} (h : TwoAt w b r c) (x : Int) : TwoAt (w.setCell ⟨b, 0, none⟩ (.int .i64 x)) b x c :=
  ⟨by simp [go_sem, h.c0], by simp [go_sem, h.c1], by simp [go_sem, h.f0], by simp [go_sem, h.f1]⟩

/-- The row, and the column, of the place with a number. -/
def rowOf (C k : Nat) : Nat := k / C
def colOf (C k : Nat) : Nat := k % C
theorem idx_row_col (C k : Nat) : idx C (rowOf C k : Int) (colOf C k : Int) = k := by
  simp only [idx, rowOf, colOf, Int.toNat_natCast]
  rw [Nat.mul_comm]
  exact Nat.div_add_mod k C
theorem rowOf_lt {R C k : Nat} (h : k < R * C) : rowOf C k < R := Nat.div_lt_of_lt_mul (by rwa [Nat.mul_comm] at h)
theorem colOf_lt {C k : Nat} (h : 1 ≤ C) : colOf C k < C := Nat.mod_lt _ (by omega)
theorem there_row_col {R C k : Nat} (h : k < R * C) (hC : 1 ≤ C) : There R C (rowOf C k) (colOf C k) := by
  have h1 := rowOf_lt h
  have h2 := colOf_lt (k := k) hC
  exact ⟨by omega, by omega, by omega, by omega⟩
/-- The next place. -/
theorem next_place {C k : Nat} (hC : 1 ≤ C) :
    (colOf C k + 1 < C → rowOf C (k + 1) = rowOf C k ∧ colOf C (k + 1) = colOf C k + 1) ∧ (C ≤ colOf C k + 1 → rowOf C (k + 1) = rowOf C k + 1 ∧ colOf C (k + 1) = 0) := by
  have hm := Nat.div_add_mod k C
  have hlt := colOf_lt (k := k) hC
  unfold rowOf colOf at *
  constructor
  · intro h
    have e : k + 1 = C * (k / C) + (k % C + 1) := by omega
    constructor
    · rw [e, Nat.mul_add_div (by omega), Nat.div_eq_of_lt h]; omega
    · rw [e, Nat.mul_add_mod, Nat.mod_eq_of_lt h]
  · intro h
    have e : k + 1 = C * (k / C + 1) := by rw [Nat.mul_add]; omega
    constructor
    · rw [e, Nat.mul_div_cancel_left _ (by omega)]
    · rw [e, Nat.mul_mod_right]

/-- What the k-th round of All is handed. -/
def allArgs (C : Nat) (f : Nat → Cel) (k : Nat) : Array Value := #[.agg #[.int .i64 (rowOf C k : Int), .int .i64 (colOf C k : Int)], (f k).v]

/-- What All of a grid reads. -/
def AllG (bx g t cap R C : Nat) (f : Nat → Cel) (W : World) : Prop := W.cell? ⟨bx, 0, none⟩ = some (.pointer (some ⟨g, 0, none⟩)) ∧ GridAt W g t cap R C f

/-- A cell in a block that may be written. -/
structure CelW (w : World) (b : Nat) (x : Cel) : Prop where
  at0 : CelAt w b x
  f0 : w.frozen? ⟨b, 0, none⟩ = false
  f1 : w.frozen? ⟨b, 1, none⟩ = false
  f2 : w.frozen? ⟨b, 2, none⟩ = false
  f3 : w.frozen? ⟨b, 3, none⟩ = false
theorem CelW.lt {w : World} {b : Nat} {x : Cel} (h : CelW w b x) : b < w.heap.size := World.block_lt_of_cell? w _ h.at0.c0
theorem CelW.kept {w w' : World} {b : Nat} {x : Cel} (h : CelW w b x) {S : Nat → Prop} (k : Kept S w w') (hs : ¬ S b) : CelW w' b x :=
  ⟨h.at0.kept k hs, (k.frozen h.lt hs).trans h.f0, (k.frozen h.lt hs).trans h.f1, (k.frozen h.lt hs).trans h.f2, (k.frozen h.lt hs).trans h.f3⟩
theorem CelW.new (w : World) (x : Cel) (t : TypeId) : CelW (w.alloc (.cells #[.int .i32 x.g, .int .i64 x.a, .bool x.b, .int .i64 x.m] t)) w.heap.size x :=
  ⟨CelAt.new w x t, by simp [go_sem], by simp [go_sem], by simp [go_sem], by simp [go_sem]⟩
theorem CelW.set {w : World} {b : Nat} {x : Cel} (h : CelW w b x) (y : Cel) : CelW ((((w.setCell ⟨b, 0, none⟩ (.int .i32 y.g)).setCell ⟨b, 1, none⟩ (.int .i64 y.a)).setCell ⟨b, 2, none⟩ (.bool y.b)).setCell ⟨b, 3, none⟩ (.int .i64 y.m)) b y := by
  obtain ⟨⟨c0, c1, c2, c3⟩, f0, f1, f2, f3⟩ := h
  exact ⟨⟨by simp [go_sem, c0], by simp [go_sem, c1], by simp [go_sem, c2], by simp [go_sem, c3]⟩, by simp [go_sem, f0], by simp [go_sem, f1], by simp [go_sem, f2], by simp [go_sem, f3]⟩

set_option maxHeartbeats 2000000 in
theorem all1_grid (bx g t cap R C : Nat) (f : Nat → Cel) : IterAt Tryz.prog 137 #[.pointer (some ⟨bx, 0, none⟩)] (allArgs C f) (R * C) (AllG bx g t cap R C f) := by
  intro n l J Jx W hJ hJx hG hY h0
  refine callsIn_wide.2 ?_
  obtain ⟨hb, hgr⟩ := hG _ _ h0
  have hbl := World.block_lt_of_cell? W _ hb
  have hgl := hgr.lt
  have htl := hgr.row.lt
  have hR1 := hgr.R1
  have hC1 := hgr.C1
  have hR2 := hgr.R2
  have hC2 := hgr.C2
  have Y := Lib.hid hY
  have HJ := Lib.hid hJ
  have HJx := Lib.hid hJx
  have HG := Lib.hid hG
  obtain ⟨N, hN⟩ : ∃ N, N = R * C := ⟨_, rfl⟩
  have HN := Lib.hid hN
  clear hY hJ hG hJx hN
  go_enter Tryz.func137, Tryz.ntmps137
  go_wp2_with fail
  refine (at_in g t cap R C f 0 0 _ (hgr.kept ((Kept.refl (fun _ => False) W).alloc _) (fun e => e) (fun e => e)) ⟨by omega, by omega, by omega, by omega⟩).mono ?_
  rintro e w1 ⟨rfl, hk1⟩
  have hT : TwoAt w1 W.heap.size 0 0 := TwoAt.kept ⟨by simp [go_sem], by simp [go_sem], by simp [go_sem], by simp [go_sem]⟩ hk1 (fun e => e)
  have hJ1 : J 0 w1 := HJ.out _ _ _ h0 (((Below.refl _ W).alloc (Nat.le_refl _) _).trans (hk1.below.mono (by simp)))
  have hsz1 := hT.lt
  obtain ⟨x, hx⟩ : ∃ x, x = f (idx C 0 0) := ⟨_, rfl⟩
  rw [← hx]
  have hW1 : W.heap.size ≤ w1.heap.size := by omega
  have HX : Hid (x = f 0) := by show x = f 0; rw [hx]; simp [idx]
  clear hk1 hb hgr hx
  go_wp2_with fail
  obtain ⟨w2, hw2⟩ : ∃ w2, w2 = w1.alloc (.cells #[.int .i32 x.g, .int .i64 x.a, .bool x.b, .int .i64 x.m] 36) := ⟨_, rfl⟩
  have hx2 : CelW w2 w1.heap.size x := by rw [hw2]; exact CelW.new w1 x 36
  have hT2 : TwoAt w2 W.heap.size 0 0 := by rw [hw2]; exact hT.kept ((Kept.refl (fun _ => False) w1).alloc _) (fun e => e)
  have hJ2 : J 0 w2 := by rw [hw2]; exact HJ.out _ _ _ hJ1 ((Below.refl _ w1).alloc hW1 _)
  rw [← hw2]
  clear hw2 hT hJ1
  go_loopw [4, 5] (fun s4 s5 wr => ∃ (k b : Nat) (y : Cel), k ≤ N ∧ TwoAt wr W.heap.size (rowOf C k : Int) (colOf C k : Int) ∧ J k wr ∧ s4 = .pointer (some ⟨b, 0, none⟩) ∧ W.heap.size < b ∧ CelW wr b y ∧ (k < N → y = f k ∧ s5 = .int .i64 0) ∧ (k = N → s5 = .int .i64 11)) (fun _ _ wr => N - placeOf C W.heap.size wr)
  case atStart =>
    refine ⟨0, w1.heap.size, x, by omega, by simpa [rowOf, colOf] using hT2, hJ2, rfl, hsz1, hx2, fun _ => ⟨HX.out, rfl⟩, fun e => ?_⟩
    have := HN.out
    have : 0 < R * C := Nat.mul_pos (by omega) (by omega)
    omega
  case round =>
    obtain ⟨k, b, y, hk, hTr, hJr, rfl, hbb, hyr, hlo, hhi⟩ := hrel
    obtain ⟨hbr, hgrr⟩ := HG.out _ _ hJr
    by_cases hlt : k < N
    · obtain ⟨hyf, rfl⟩ := hlo hlt
      obtain ⟨fn, tmps, assign, body, hy, hR⟩ := Y.out k wr (by rw [← HN.out]; exact hlt) hJr
      clear hhi hlo
      unfold allArgs at hy
      rw [← hyf] at hy
      have HYF := Lib.hid hyf
      clear hyf
      have HPL : Hid (placeOf C W.heap.size wr = k) := by
        show placeOf C W.heap.size wr = k
        rw [placeOf_eq hTr.c0 hTr.c1, idx_row_col]
      have t0 := hTr.c0
      have t1 := hTr.c1
      obtain ⟨z0, z1, z2, z3⟩ := hyr.at0
      go_upto_region 4 with fail
      refine (wpIn_wide (n := 0)).1 ?_
      gi_wp2_with fail
      refine ⟨rfl, RoundIn.mono (roundIn_any hR) ?_⟩
      clear hy hR Y
      rintro e W3 (⟨rfl, hJ3, hk3⟩ | ⟨rfl, hJx3⟩)
      · have hT3 := hTr.kept hk3 (by omega)
        have hy3 := hyr.kept hk3 (by omega)
        obtain ⟨hb3, hg3⟩ := HG.out _ _ hJ3
        have t0 := hT3.c0
        have t1 := hT3.c1
        have t2 := hT3.f0
        have t3 := hT3.f1
        have g1 := hg3.c1
        have hcl := colOf_lt (k := k) hC1
        have hrl := rowOf_lt (R := R) (C := C) (k := k) (by rw [← HN.out]; exact hlt)
        have n1 : ¬ bx = W.heap.size := by omega
        have n2 : ¬ W.heap.size = bx := by omega
        have n3 : ¬ g = W.heap.size := by omega
        have n4 : ¬ W.heap.size = g := by omega
        have n5 : ¬ t = W.heap.size := by omega
        have n6 : ¬ W.heap.size = t := by omega
        have n7 : ¬ b = W.heap.size := by omega
        have n8 : ¬ W.heap.size = b := by omega
        have hs3 : W.heap.size < W3.heap.size := hT3.lt
        have hs4 : bx < W3.heap.size := by omega
        have hs5 : b < W3.heap.size := hy3.lt
        obtain ⟨y0, y1, y2, y3⟩ := hy3.at0
        clear hTr hyr z0 z1 z2 z3
        gi_wp2_with fail
        go_wp2_with fail
        by_cases hend : colOf C k + 1 < C
        · have d1 : decide ((C : Int) ≤ (colOf C k : Int) + 1) = false := by simp; omega
          obtain ⟨e1, e2⟩ := (next_place (k := k) hC1).1 hend
          have hk1 : Hid (k + 1 < R * C) := by
            have := place_lt (R := R) hrl hend
            have h9 := idx_row_col C (k + 1)
            simp only [idx, e1, e2, Int.toNat_natCast] at h9
            show k + 1 < R * C
            omega
          have E1 := Lib.hid e1
          have E2 := Lib.hid e2
          clear e1 e2
          go_quiet (fail)
          go_wp2_with fail
          obtain ⟨W4, hW4⟩ : ∃ W4, W4 = ((W3.setCell ⟨W.heap.size, 1, none⟩ (.int .i64 ((colOf C k : Int) + 1))).drewN nq).alloc (.cells #[.int .i32 y.g, .int .i64 y.a, .bool y.b, .int .i64 y.m] 36) := ⟨_, rfl⟩
          have hks : Kept (· = W.heap.size) W3 W4 := by rw [hW4]; exact ((Kept.set1 W3 _ _ _).drewN nq).alloc _
          have hT4 : TwoAt W4 W.heap.size (rowOf C (k + 1) : Int) (colOf C (k + 1) : Int) := by
            rw [E1.out, E2.out, hW4]
            exact ((hT3.set1 _).drewN nq).kept ((Kept.refl (fun _ => False) _).alloc _) (fun e => e)
          have hy4 : CelW W4 W3.heap.size y := by
            have := CelW.new ((W3.setCell ⟨W.heap.size, 1, none⟩ (.int .i64 ((colOf C k : Int) + 1))).drewN nq) y 36
            rw [hW4]
            simpa [World.setCell] using this
          rw [← hW4]
          clear hW4
          refine (at_in g t cap R C f _ _ _ (hg3.kept hks n3 n5) ?_).mono ?_
          · have := there_row_col hk1.out hC1
            rw [E1.out, E2.out] at this
            simpa using this
          have hfk : Hid (f (idx C (rowOf C k : Int) ((colOf C k : Int) + 1)) = f (k + 1)) := by
            have := idx_row_col C (k + 1)
            rw [E1.out, E2.out] at this
            rw [Int.natCast_add] at this
            exact congrArg f this
          rw [hfk.out]
          rintro e W5 ⟨rfl, hk5⟩
          have hT5 := hT4.kept hk5 (fun e => e)
          have hy5 := hy4.kept hk5 (fun e => e)
          have hks5 : Kept (· = W.heap.size) W3 W5 := hks.later hk5 (fun _ _ e => e.elim)
          have hl5 : W3.heap.size < W5.heap.size := hy5.lt
          have HT5 := Lib.hid hT5
          have HY5 := Lib.hid hy5
          obtain ⟨⟨x0, x1, x2, x3⟩, u0, u1, u2, u3⟩ := hy5
          clear hT4 hy4 hks hk5 t0 t1 t2 t3 g1 hT3 hT5 y0 y1 y2 y3 hy3
          go_wp2_with fail
          obtain ⟨W6, hW6⟩ : ∃ W6, W6 = ((((W5.setCell ⟨W3.heap.size, 0, none⟩ (.int .i32 (f (k + 1)).g)).setCell ⟨W3.heap.size, 1, none⟩ (.int .i64 (f (k + 1)).a)).setCell ⟨W3.heap.size, 2, none⟩ (.bool (f (k + 1)).b)).setCell ⟨W3.heap.size, 3, none⟩ (.int .i64 (f (k + 1)).m)) := ⟨_, rfl⟩
          have hy6 : CelW W6 W3.heap.size (f (k + 1)) := by rw [hW6]; exact HY5.out.set _
          have k6 : Kept (· = W3.heap.size) W5 W6 := by rw [hW6]; exact (Kept.refl (· = W3.heap.size) W5).setCel W3.heap.size 0 (Or.inr rfl) (f (k + 1))
          have hT6 := HT5.out.kept k6 (by omega)
          have hJ6 : J (k + 1) W6 := HJ.out _ _ _ hJ3 ((Kept.below hks5 (B := W.heap.size) (fun j hj => ⟨by omega, by omega⟩)).trans (Kept.below k6 (fun j hj => ⟨by omega, by omega⟩)))
          rw [← hW6]
          clear hW6
          go_roundw
          case rel => exact ⟨k + 1, W3.heap.size, f (k + 1), by omega, hT6, hJ6, rfl, hs3, hy6, fun _ => ⟨rfl, rfl⟩, fun e => by have := HN.out; have := hk1.out; omega⟩
          case measure =>
            rw [placeOf_eq hT6.c0 hT6.c1, idx_row_col]
            have := HPL.out
            omega
        · have d1 : decide ((C : Int) ≤ (colOf C k : Int) + 1) = true := by simp; omega
          obtain ⟨e1, e2⟩ := (next_place (k := k) hC1).2 (by omega)
          have E1 := Lib.hid e1
          have E2 := Lib.hid e2
          clear e1 e2
          go_quiet (fail)
          go_wp2_with fail
          obtain ⟨W4, hW4⟩ : ∃ W4, W4 = ((((W3.setCell ⟨W.heap.size, 1, none⟩ (.int .i64 ((colOf C k : Int) + 1))).drewN nq).setCell ⟨W.heap.size, 0, none⟩ (.int .i64 ((rowOf C k : Int) + 1))).setCell ⟨W.heap.size, 1, none⟩ (.int .i64 0)).alloc (.cells #[.int .i32 y.g, .int .i64 y.a, .bool y.b, .int .i64 y.m] 36) := ⟨_, rfl⟩
          have hks : Kept (· = W.heap.size) W3 W4 := by
            rw [hW4]
            exact ((((Kept.set1 W3 _ _ _).drewN nq).trans (Kept.set1 _ _ _ _)).trans (Kept.set1 _ _ _ _)).alloc _
          have hT4 : TwoAt W4 W.heap.size (rowOf C (k + 1) : Int) (colOf C (k + 1) : Int) := by
            rw [E1.out, E2.out, hW4]
            exact ((((hT3.set1 _).drewN nq).set0 _).set1 _).kept ((Kept.refl (fun _ => False) _).alloc _) (fun e => e)
          have hy4 : CelW W4 W3.heap.size y := by
            have := CelW.new ((((W3.setCell ⟨W.heap.size, 1, none⟩ (.int .i64 ((colOf C k : Int) + 1))).drewN nq).setCell ⟨W.heap.size, 0, none⟩ (.int .i64 ((rowOf C k : Int) + 1))).setCell ⟨W.heap.size, 1, none⟩ (.int .i64 0)) y 36
            rw [hW4]
            simpa [World.setCell] using this
          rw [← hW4]
          clear hW4
          have hg4 := hg3.kept hks n3 n5
          by_cases hlast : rowOf C k + 1 < R
          · have hk1 : Hid (k + 1 < R * C) := by
              have := place_lt (R := R) (C := C) (b := 0) hlast (by omega)
              have h9 := idx_row_col C (k + 1)
              simp only [idx, E1.out, E2.out, Int.toNat_natCast] at h9
              show k + 1 < R * C
              omega
            refine (at_in g t cap R C f _ _ _ hg4 ⟨by omega, by omega, by omega, by omega⟩).mono ?_
            have hfk : Hid (f (idx C ((rowOf C k : Int) + 1) 0) = f (k + 1)) := by
              have := idx_row_col C (k + 1)
              rw [E1.out, E2.out] at this
              rw [Int.natCast_add] at this
              exact congrArg f this
            rw [hfk.out]
            rintro e W5 ⟨rfl, hk5⟩
            have hT5 := hT4.kept hk5 (fun e => e)
            have hy5 := hy4.kept hk5 (fun e => e)
            have hks5 : Kept (· = W.heap.size) W3 W5 := hks.later hk5 (fun _ _ e => e.elim)
            have hl5 : W3.heap.size < W5.heap.size := hy5.lt
            have HT5 := Lib.hid hT5
            have HY5 := Lib.hid hy5
            obtain ⟨⟨x0, x1, x2, x3⟩, u0, u1, u2, u3⟩ := hy5
            clear hT4 hy4 hks hk5 t0 t1 t2 t3 g1 hT3 hT5 y0 y1 y2 y3 hy3
            go_wp2_with fail
            obtain ⟨W6, hW6⟩ : ∃ W6, W6 = ((((W5.setCell ⟨W3.heap.size, 0, none⟩ (.int .i32 (f (k + 1)).g)).setCell ⟨W3.heap.size, 1, none⟩ (.int .i64 (f (k + 1)).a)).setCell ⟨W3.heap.size, 2, none⟩ (.bool (f (k + 1)).b)).setCell ⟨W3.heap.size, 3, none⟩ (.int .i64 (f (k + 1)).m)) := ⟨_, rfl⟩
            have hy6 : CelW W6 W3.heap.size (f (k + 1)) := by rw [hW6]; exact HY5.out.set _
            have k6 : Kept (· = W3.heap.size) W5 W6 := by rw [hW6]; exact (Kept.refl (· = W3.heap.size) W5).setCel W3.heap.size 0 (Or.inr rfl) (f (k + 1))
            have hT6 := HT5.out.kept k6 (by omega)
            have hJ6 : J (k + 1) W6 := HJ.out _ _ _ hJ3 ((Kept.below hks5 (B := W.heap.size) (fun j hj => ⟨by omega, by omega⟩)).trans (Kept.below k6 (fun j hj => ⟨by omega, by omega⟩)))
            rw [← hW6]
            clear hW6
            go_roundw
            case rel => exact ⟨k + 1, W3.heap.size, f (k + 1), by omega, hT6, hJ6, rfl, hs3, hy6, fun _ => ⟨rfl, rfl⟩, fun e => by have := HN.out; have := hk1.out; omega⟩
            case measure =>
              rw [placeOf_eq hT6.c0 hT6.c1, idx_row_col]
              have := HPL.out
              omega
          · have hk1 : Hid (k + 1 = N) := by
              have h8 : rowOf C k + 1 = R := by omega
              have h9 := idx_row_col C (k + 1)
              simp only [idx, E1.out, E2.out, Int.toNat_natCast] at h9
              rw [h8] at h9
              show k + 1 = N
              rw [HN.out]
              omega
            refine (at_out g R C _ _ _ hg4.c0 hg4.c1 (fun h => by have := h.2.1; omega)).mono ?_
            rintro e W5 ⟨rfl, hk5⟩
            have hT5 := hT4.kept hk5 (fun e => e)
            have hy5 := hy4.kept hk5 (fun e => e)
            have hks5 : Kept (· = W.heap.size) W3 W5 := hks.later hk5 (fun _ _ e => e.elim)
            have hl5 : W3.heap.size < W5.heap.size := hy5.lt
            have HT5 := Lib.hid hT5
            have HY5 := Lib.hid hy5
            obtain ⟨⟨x0, x1, x2, x3⟩, u0, u1, u2, u3⟩ := hy5
            clear hT4 hy4 hks hk5 t0 t1 t2 t3 g1 hT3 hT5 y0 y1 y2 y3 hy3
            go_wp2_with fail
            obtain ⟨W6, hW6⟩ : ∃ W6, W6 = ((((W5.setCell ⟨W3.heap.size, 0, none⟩ (.int .i32 (zc).g)).setCell ⟨W3.heap.size, 1, none⟩ (.int .i64 (zc).a)).setCell ⟨W3.heap.size, 2, none⟩ (.bool (zc).b)).setCell ⟨W3.heap.size, 3, none⟩ (.int .i64 (zc).m)) := ⟨_, rfl⟩
            have hy6 : CelW W6 W3.heap.size (zc) := by rw [hW6]; exact HY5.out.set _
            have k6 : Kept (· = W3.heap.size) W5 W6 := by rw [hW6]; exact (Kept.refl (· = W3.heap.size) W5).setCel W3.heap.size 0 (Or.inr rfl) (zc)
            have hT6 := HT5.out.kept k6 (by omega)
            have hJ6 : J (k + 1) W6 := HJ.out _ _ _ hJ3 ((Kept.below hks5 (B := W.heap.size) (fun j hj => ⟨by omega, by omega⟩)).trans (Kept.below k6 (fun j hj => ⟨by omega, by omega⟩)))
            rw [← hW6]
            clear hW6
            go_roundw
            case rel => exact ⟨k + 1, W3.heap.size, zc, by omega, hT6, hJ6, rfl, hs3, hy6, fun e => by have := hk1.out; omega, fun _ => rfl⟩
            case measure =>
              rw [placeOf_eq hT6.c0 hT6.c1, idx_row_col]
              have := HPL.out
              omega
      · gi_wp2_with fail
        go_wp2_with fail
        refine bodyPost_ret (results_none rfl _ _ _) rfl ?_
        exact ⟨⟨_, rfl⟩, Or.inr ⟨k, by rw [← HN.out]; exact hlt, hJx3⟩⟩
    · have e : k = N := by omega
      obtain rfl := hhi e
      clear hlo hhi
      go_wp2_with fail
      go_end0
      rw [e, HN.out] at hJr
      exact ⟨⟨_, rfl⟩, Or.inl hJr⟩
end Go.Proofs.YtkpfhgfdfndliaaGreatDoor

/-
  What Same of two grids of cells does, where they have the same cells: alike, which defers a recover and ranges over All.
-/
namespace Go.Proofs.YtkpfhgfdfndliaaGreatDoor
open Go.RowKit

attribute [local go_sem] Oper.semAt_some

theorem BoolAt.below {w w' : World} {b B : Nat} {v : Bool} (h : BoolAt w b v) (k : Below B w w') (hs : b < B) : BoolAt w' b v :=
  ⟨(k.cell (p := ⟨b, 0, none⟩) hs).trans h.c, (k.frozen (p := ⟨b, 0, none⟩) hs).trans h.f⟩


/-- ONE WALK IN THE ORDER OF THE TEXT, IN A ROUND, WHERE A CALLEE MAY MAKE MEMORY. -/
theorem wpIn_round_calm {P : Program} {n l id : Nat} {Q : Exit → Act → World → Prop} {a : Act} {w : World} {ops : List Oper} (C : World → Prop) (hC : C w.drew) (hd : noDefer ops = true) (hm : P.follows .mixedOrders = true) (hB : Region.lexB .any ops.toArray = true) (hQ : ¬ LetsOut Q)
    (h : wpQuiet P ops.toArray C (fun a' => ∀ w', C w' → Q .normal a' w') ops a) : (Code.region id ops.toArray true).wpIn (Fence.wide.inRound l) n P Q a w := by
  simp only [Region.lexB, Bool.and_eq_true] at hB
  refine wpIn_region_any hm (wpAnyIn_round hd hQ _ _ _ _ (wpAny_of_quiet (C := C) (Q := fun a' => ∀ w', C w' → Q .normal a' w') (fun _ w' hw' h => h w' hw') _ _ _ _ hC ?_))
  have := wpAnyQ_lex (C := C) (md := .any) hB.1 ops 0 (Array.replicate ops.toArray.size false) a (by simp) (by simpa using hB.2) (by simpa using h)
  simpa using this

/-- The same, outside a round. -/
theorem wp_calm {P : Program} {id : Nat} {Q : Exit → Act → World → Prop} {a : Act} {w : World} {ops : List Oper} (C : World → Prop) (hC : C w.drew) (hm : P.follows .mixedOrders = true) (hB : Region.lexB .any ops.toArray = true)
    (h : wpQuiet P ops.toArray C (fun a' => ∀ w', C w' → Q .normal a' w') ops a) : (Code.region id ops.toArray true).wp P Q a w := by
  simp only [Region.lexB, Bool.and_eq_true] at hB
  refine wp_region_any hm (wpAny_of_quiet (C := C) (Q := fun a' => ∀ w', C w' → Q .normal a' w') (fun _ w' hw' h => h w' hw') _ _ _ _ hC ?_)
  have := wpAnyQ_lex (C := C) (md := .any) hB.1 ops 0 (Array.replicate ops.toArray.size false) a (by simp) (by simpa using hB.2) (by simpa using h)
  simpa using this

/-- One operation: its value, and why it is that in every world. -/
theorem calm_op {P : Program} {ops : Array Oper} {C : World → Prop} {Q : Act → Prop} {a : Act} {o : Oper} {rest : List Oper} (v : Value) (hw : Region.wanted o (yielded ops a.tmps) = true)
    (h : ∀ w, C w → o.quietAt P a C w v) (hk : wpQuiet P ops C Q rest (a.put o.dst v)) : wpQuiet P ops C Q (o :: rest) a :=
  wpQuiet_step fun K hK => by rw [if_pos hw]; exact ⟨v, h, hK _ hk⟩


end Go.Proofs.YtkpfhgfdfndliaaGreatDoor
