/-
  The answer of the document: At.
-/
import Derived.Test.YtkdnjkcebfckiaaUp
import Derived.Deep.AppendLies
namespace Go.Proofs.Ytkdnjkcebfckiaa
open Go.RowKit

/-- The document's answer's grid at block g, its cells at block t. -/
structure RefAt (w : World) (g t cap R C : Nat) (f : Nat → Cel) : Prop where
  head : w.heap[g]? = some (.cells #[.int .i64 R, .int .i64 C, .slice (some ⟨t, 0, none⟩) (R * C) cap] 70 (0, 0))
  row : CellsAt w t (R * C) f
  cap : R * C ≤ cap
  R1 : 1 ≤ R
  R2 : R ≤ 255
  C1 : 1 ≤ C
  C2 : C ≤ 255

namespace RefAt
variable {w : World} {g t cap R C : Nat} {f : Nat → Cel}
theorem lt (h : RefAt w g t cap R C f) : g < w.heap.size := (Array.getElem?_eq_some_iff.1 h.head).1
theorem ne (h : RefAt w g t cap R C f) : g ≠ t := by
  rintro rfl
  obtain ⟨cur, h1, _⟩ := h.row
  have := h.head.symm.trans h1
  simp at this
theorem c0 (h : RefAt w g t cap R C f) : w.cell? ⟨g, 0, none⟩ = some (.int .i64 R) := by simp [World.cell?, h.head]
theorem c1 (h : RefAt w g t cap R C f) : w.cell? ⟨g, 1, none⟩ = some (.int .i64 C) := by simp [World.cell?, h.head]
theorem c2 (h : RefAt w g t cap R C f) : w.cell? ⟨g, 2, none⟩ = some (.slice (some ⟨t, 0, none⟩) (R * C) cap) := by simp [World.cell?, h.head]
theorem fz (h : RefAt w g t cap R C f) (k : Nat) : w.frozen? ⟨g, k, none⟩ = false := by simp [World.frozen?, h.head]
theorem kept (h : RefAt w g t cap R C f) {S : Nat → Prop} {w' : World} (k : Kept S w w') (hg : ¬ S g) (ht : ¬ S t) : RefAt w' g t cap R C f :=
  ⟨(k.block g h.lt hg).trans h.head, h.row.kept k ht, h.cap, h.R1, h.R2, h.C1, h.C2⟩
theorem withRow (h : RefAt w g t cap R C f) {w' : World} {f' : Nat → Cel} (k : Kept (· = t) w w') (hr : CellsAt w' t (R * C) f') : RefAt w' g t cap R C f' :=
  ⟨(k.block g h.lt h.ne).trans h.head, hr, h.cap, h.R1, h.R2, h.C1, h.C2⟩
theorem congr (h : RefAt w g t cap R C f) {f' : Nat → Cel} (e : ∀ k, k < R * C → f k = f' k) : RefAt w g t cap R C f' :=
  ⟨h.head, h.row.congr e, h.cap, h.R1, h.R2, h.C1, h.C2⟩
end RefAt

theorem ret_bool {a b : Bool} (h : a = b) : Ending.returned (.bool a) = .returned (.bool b) := by rw [h]
theorem wrap_idx {R C : Nat} {r c : Int} (h : There R C r c) (hR : R ≤ 255) (hC : C ≤ 255) : IntKind.i64.wrap (IntKind.i64.wrap (r * (C : Int)) + c) = (idx C r c : Int) := by
  obtain ⟨h1, h2, h3, h4⟩ := h
  obtain ⟨a, rfl⟩ := Int.eq_ofNat_of_zero_le h1
  obtain ⟨b, rfl⟩ := Int.eq_ofNat_of_zero_le h3
  have hm : a * C ≤ 255 * 255 := Nat.mul_le_mul (by omega) (by omega)
  have hm0 : (a : Int) * (C : Int) = ((a * C : Nat) : Int) := by simp
  rw [IntWalk.i64_left, IntWalk.i64_left, hm0, w64 (n := ((a * C : Nat) : Int)) (by omega) (by omega), w64 (by omega) (by omega)]
  simp [idx]

set_option maxHeartbeats 400000 in
theorem getR (g t cap R C : Nat) (f : Nat → Cel) (r c : Int) (w : World) (hg : RefAt w g t cap R C f) (h : There R C r c) :
    Calls Try.prog 33 #[.pointer (some ⟨g, 0, none⟩), .int .i64 r, .int .i64 c] w fun e w' => e = .returned (f (idx C r c)).v ∧ Kept0 w w' := by
  have hl := idx_lt h
  have hRC : R * C ≤ 65025 := Nat.mul_le_mul hg.R2 hg.C2
  have hR2 := hg.R2
  have hC2 := hg.C2
  obtain ⟨N, hN⟩ : ∃ N, N = R * C := ⟨_, rfl⟩
  obtain ⟨h1, h2, h3, h4⟩ := h
  have hw1 := wrap_idx (R := R) (C := C) (r := r) (c := c) ⟨h1, h2, h3, h4⟩ hR2 hC2
  have c1 := hg.c1
  have c2 := hg.c2
  obtain ⟨e0, e1, e2, e3⟩ := hg.row.cell hl
  have hgl := hg.lt
  have htl := hg.row.lt
  have b1 : ¬ g = w.heap.size := by omega
  have b2 : ¬ w.heap.size = g := by omega
  have b3 : ¬ t = w.heap.size := by omega
  have b4 : ¬ w.heap.size = t := by omega
  rw [← hN] at hl hRC c2
  clear hN
  go_enter Try.func33, Try.ntmps33
  go_wp2
  go_region_held3 (fun w' => w'.cell? ⟨g, 1, none⟩ = some (.int .i64 C) ∧ w'.cell? ⟨g, 2, none⟩ = some (Value.slice (some ⟨t, 0, none⟩) N cap) ∧ w'.cell? ⟨t, idx C r c * 4, none⟩ = some (.int .i32 (f (idx C r c)).g) ∧ w'.cell? ⟨t, idx C r c * 4 + 1, none⟩ = some (.int .i64 (f (idx C r c)).a) ∧ w'.cell? ⟨t, idx C r c * 4 + 2, none⟩ = some (.bool (f (idx C r c)).b) ∧ w'.cell? ⟨t, idx C r c * 4 + 3, none⟩ = some (.int .i64 (f (idx C r c)).m)) (go_keep) (first | fail)
  go_wp2
  refine bodyPost_ret (v := (f (idx C r c)).v) (by simp [results, Try.results33, go_sem]) rfl ⟨rfl, ?_⟩
  exact ((Kept.refl _ w).alloc _).drew

end Go.Proofs.Ytkdnjkcebfckiaa
