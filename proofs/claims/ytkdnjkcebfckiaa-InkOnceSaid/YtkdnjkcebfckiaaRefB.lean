/-
  The answer of the document: Copy.
-/
import Derived.Test.YtkdnjkcebfckiaaRefA
namespace Go.Proofs.Ytkdnjkcebfckiaa
open Go.RowKit

set_option maxHeartbeats 1000000 in
theorem copyR (g t cap R C : Nat) (f : Nat → Cel) (w : World) (hg : RefAt w g t cap R C f) :
    Calls Try.prog 64 #[.pointer (some ⟨g, 0, none⟩)] w fun e w' => ∃ g' t' cap', e = .returned (.pointer (some ⟨g', 0, none⟩)) ∧ w.heap.size ≤ g' ∧ w.heap.size ≤ t' ∧ RefAt w' g' t' cap' R C f ∧ Kept0 w w' := by
  have hRC : R * C ≤ 65025 := Nat.mul_le_mul hg.R2 hg.C2
  have hN1 : 1 ≤ R * C := Nat.mul_pos hg.R1 hg.C1
  have hrow := hg.row
  have c0 := hg.c0
  have c1 := hg.c1
  have c2 := hg.c2
  have hgl := hg.lt
  have m1 : ¬ g = w.heap.size := by omega
  have m2 : ¬ w.heap.size = g := by omega
  obtain ⟨N, hN⟩ : ∃ N, N = R * C := ⟨_, rfl⟩
  rw [← hN] at c2 hRC hN1 hrow
  have HN := Lib.hid hN
  clear hN
  obtain ⟨i0, hi, hz0, hz1, hz2⟩ := info_parts Try.info36
  go_enter Try.func64, Try.ntmps64
  go_wp2_with fail
  go_region
  go_wp2_with fail
  obtain ⟨w1, hw1⟩ : ∃ w1, w1 = (w.alloc (.cells #[.int .i64 R, .int .i64 C, .slice none 0 0] 70)).drew := ⟨_, rfl⟩
  have hk1 : Kept0 w w1 := by rw [hw1]; exact ((Kept.refl _ w).alloc _).drew
  have hh1 : w1.heap[w.heap.size]? = some (.cells #[.int .i64 R, .int .i64 C, .slice none 0 0] 70 (0, 0)) := by rw [hw1]; exact heap_new w _
  have hs1 : w1.heap.size = w.heap.size + 1 := by rw [hw1]; simp [World.drew]
  rw [← hw1]
  clear hw1
  have d2 := kcell hk1 c2
  have e2 : w1.cell? ⟨w.heap.size, 2, none⟩ = some (.slice none 0 0) := by simp [World.cell?, hh1]
  have e3 : w1.frozen? ⟨w.heap.size, 2, none⟩ = false := by simp [World.frozen?, hh1]
  have hrow1 := hrow.kept hk1 (fun e => e)
  have HS := Lib.hid hs1
  have hs2 : w.heap.size < w1.heap.size := by omega
  clear hs1 c0 c1 c2
  have hnews : ∀ j u, (parts f 0 N)[j]? = some u → w1.drew.cell? ((⟨t, 0, none⟩ : Addr).add j) = some u := by
    intro j u hj
    have hlt : j < N * 4 := by have := (List.getElem?_eq_some_iff.1 hj).1; rwa [parts_length] at this
    rw [parts_get _ _ _ _ hlt] at hj
    rw [addr_add, ← hj]
    simpa using (CellsAt.part hrow1 hlt : w1.cell? ⟨t, j, none⟩ = _)
  have HNW := Lib.hid hnews
  clear hnews
  go_region_law (first | (refine step_append_lies _ rfl (.tmp 18) (.tmp 22) 64 rfl w1.heap.size 36 i0 (.agg #[.int .i32 0, .int .i64 0, .bool false, .int .i64 0]) 4 32 Try.underlying64 hi hz0 hz1 hz2 rfl (by decide) (.slice none 0 0) 0 [] rfl (World.ownsRow_nil _ _ _ _) ⟨t, 0, none⟩ N cap (parts f 0 N) rfl (by simp [parts_length]) HNW.out (parts_one _ _ _) (by omega) (by unfold maxLen; omega) (by omega) (Nat.le_refl _) w1.heap.size rfl ?_; intro g' cap' w2 hown hgrow _ _; have q2 : w2.cell? ⟨w.heap.size, 2, none⟩ = some (.slice none 0 0) := (World.cell?_of_block (hgrow.block _ hs2 (by simp [Value.ownBlock]))).trans e2; have q3 : w2.frozen? ⟨w.heap.size, 2, none⟩ = false := (World.frozen?_of_block (hgrow.block _ hs2 (by simp [Value.ownBlock]))).trans e3))
  all_goals
    go_wp2_with fail
    go_ret
    have hkg0 : Kept0 w1.drew w2 := (Kept.ofGrown hgrow).mono (fun _ _ e => by simp [Value.ownBlock] at e)
    have hkg : Kept0 w1 w2 := (Kept.refl _ w1).drew.trans hkg0
    obtain ⟨t', cap2, hv, ht', hcap, hI⟩ := cells_of_owned (n := N) (f := f) (by simpa using hown) (fun j hj => by have := parts_get f 0 N j hj; simpa using this) hN1
    simp only [Value.slice.injEq, Option.some.injEq, Addr.mk.injEq] at hv
    obtain ⟨⟨rfl, _⟩, _, rfl⟩ := hv
    have hh2 : w2.heap[w.heap.size]? = some (.cells #[.int .i64 R, .int .i64 C, .slice none 0 0] 70 (0, 0)) := (hkg.block _ hs2 (fun e => e)).trans hh1
    have hs9 := HS.out
    obtain rfl := HN.out
    have ks : Kept (· = w.heap.size) w2 (w2.setCell ⟨w.heap.size, 2, none⟩ (.slice (some ⟨g', 0, none⟩) (R * C) cap')) := (Kept.refl (· = w.heap.size) w2).setCell ⟨w.heap.size, 2, none⟩ (Or.inr rfl) _
    refine ⟨w.heap.size, g', cap', rfl, Nat.le_refl _, by omega, ⟨?_, hI.kept ks (by omega), hcap, hg.R1, hg.R2, hg.C1, hg.C2⟩, ?_⟩
    · simp [World.setCell, Array.getElem?_modify, hh2]
    · exact (hk1.trans hkg).setCell _ (Or.inl (Nat.le_refl _)) _
end Go.Proofs.Ytkdnjkcebfckiaa
