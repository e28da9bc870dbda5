/-
  The answer of the document: There, At, minus, Guarded, Field, Copy.
-/
import Derived.Test.YtljfbocjnpnaiaaAnys
import Derived.Deep.AppendLies
namespace Go.Proofs.Ytljfbocjnpnaiaa
open Go.RowKit

/-- The document's answer's grid at block g, its cells at block t. -/
structure RefAt (w : World) (g t cap R C : Nat) (f : Nat → Cel) : Prop where
  head : w.heap[g]? = some (.cells #[.int .i64 R, .int .i64 C, .slice (some ⟨t, 0, none⟩) (R * C) cap] 40 (0, 0))
  row : CellsAt w t (R * C) f
  cap : R * C ≤ cap
  R1 : 1 ≤ R
  R2 : R ≤ 255
  C1 : 1 ≤ C
  C2 : C ≤ 255

namespace RefAt
variable {w : World} {g t cap R C : Nat} {f : Nat → Cel}
theorem lt (h : RefAt w g t cap R C f) : g < w.heap.size := (Array.getElem?_eq_some_iff.1 h.head).1
theorem ne (h : RefAt w g t cap R C f) : g ≠ t := by
  rintro rfl
  obtain ⟨cur, h1, _⟩ := h.row
  have := h.head.symm.trans h1
  simp at this
theorem c0 (h : RefAt w g t cap R C f) : w.cell? ⟨g, 0, none⟩ = some (.int .i64 R) := by simp [World.cell?, h.head]
theorem c1 (h : RefAt w g t cap R C f) : w.cell? ⟨g, 1, none⟩ = some (.int .i64 C) := by simp [World.cell?, h.head]
theorem c2 (h : RefAt w g t cap R C f) : w.cell? ⟨g, 2, none⟩ = some (.slice (some ⟨t, 0, none⟩) (R * C) cap) := by simp [World.cell?, h.head]
theorem fz (h : RefAt w g t cap R C f) (k : Nat) : w.frozen? ⟨g, k, none⟩ = false := by simp [World.frozen?, h.head]
theorem kept (h : RefAt w g t cap R C f) {S : Nat → Prop} {w' : World} (k : Kept S w w') (hg : ¬ S g) (ht : ¬ S t) : RefAt w' g t cap R C f :=
  ⟨(k.block g h.lt hg).trans h.head, h.row.kept k ht, h.cap, h.R1, h.R2, h.C1, h.C2⟩
theorem withRow (h : RefAt w g t cap R C f) {w' : World} {f' : Nat → Cel} (k : Kept (· = t) w w') (hr : CellsAt w' t (R * C) f') : RefAt w' g t cap R C f' :=
  ⟨(k.block g h.lt h.ne).trans h.head, hr, h.cap, h.R1, h.R2, h.C1, h.C2⟩
theorem congr (h : RefAt w g t cap R C f) {f' : Nat → Cel} (e : ∀ k, k < R * C → f k = f' k) : RefAt w g t cap R C f' :=
  ⟨h.head, h.row.congr e, h.cap, h.R1, h.R2, h.C1, h.C2⟩
end RefAt

theorem ret_bool {a b : Bool} (h : a = b) : Ending.returned (.bool a) = .returned (.bool b) := by rw [h]
def thereB (R C : Nat) (r c : Int) : Bool := decide (0 ≤ r ∧ r < R ∧ 0 ≤ c ∧ c < C)
theorem thereB_yes {R C : Nat} {r c : Int} (h : There R C r c) : thereB R C r c = true := decide_eq_true h
theorem thereB_no {R C : Nat} {r c : Int} (h : ¬ There R C r c) : thereB R C r c = false := decide_eq_false h

set_option maxHeartbeats 400000 in
theorem thereR (g : Nat) (R C : Nat) (r c : Int) (w : World) (c0 : w.cell? ⟨g, 0, none⟩ = some (.int .i64 R)) (c1 : w.cell? ⟨g, 1, none⟩ = some (.int .i64 C)) :
    Calls Try.prog 21 #[.pointer (some ⟨g, 0, none⟩), .agg #[.int .i64 r, .int .i64 c]] w fun e w' => e = .returned (.bool (thereB R C r c)) ∧ Kept0 w w' := by
  have hg := World.block_lt_of_cell? w _ c0
  obtain ⟨B, hB⟩ : ∃ B, B = thereB R C r c := ⟨_, rfl⟩
  rw [← hB]
  have HB := Lib.hid hB
  clear hB
  by_cases h1 : 0 ≤ r
  rotate_left
  · have d1 : decide (0 ≤ r) = false := by simpa using h1
    go_enter Try.func21, Try.ntmps21
    go_wp2
    go_quiet (fail)
    go_wp2
    go_ret
    refine ⟨ret_bool ?_, ((Kept.refl _ w).alloc _).drewN _⟩
    rw [HB.out]; unfold thereB; simp [*]
  by_cases h2 : r < R
  rotate_left
  · have d2 : decide (r < R) = false := by simpa using h2
    go_enter Try.func21, Try.ntmps21
    go_wp2
    go_quiet (fail)
    go_wp2
    go_ret
    refine ⟨ret_bool ?_, ((Kept.refl _ w).alloc _).drewN _⟩
    rw [HB.out]; unfold thereB; simp [*]
  by_cases h3 : 0 ≤ c
  rotate_left
  · have d3 : decide (0 ≤ c) = false := by simpa using h3
    go_enter Try.func21, Try.ntmps21
    go_wp2
    go_quiet (fail)
    go_wp2
    go_ret
    refine ⟨ret_bool ?_, ((Kept.refl _ w).alloc _).drewN _⟩
    rw [HB.out]; unfold thereB; simp [*]
  by_cases h4 : c < C
  rotate_left
  · have d4 : decide (c < C) = false := by simpa using h4
    go_enter Try.func21, Try.ntmps21
    go_wp2
    go_quiet (fail)
    go_wp2
    go_ret
    refine ⟨ret_bool ?_, ((Kept.refl _ w).alloc _).drewN _⟩
    rw [HB.out]; unfold thereB; simp [*]
  go_enter Try.func21, Try.ntmps21
  go_wp2
  go_quiet (fail)
  go_wp2
  go_ret
  refine ⟨ret_bool ?_, ((Kept.refl _ w).alloc _).drewN _⟩
  rw [HB.out]; unfold thereB; simp [*]

theorem wrap_idx {R C : Nat} {r c : Int} (h : There R C r c) (hR : R ≤ 255) (hC : C ≤ 255) : IntKind.i64.wrap (IntKind.i64.wrap (r * (C : Int)) + c) = (idx C r c : Int) := by
  obtain ⟨h1, h2, h3, h4⟩ := h
  obtain ⟨a, rfl⟩ := Int.eq_ofNat_of_zero_le h1
  obtain ⟨b, rfl⟩ := Int.eq_ofNat_of_zero_le h3
  have hm : a * C ≤ 255 * 255 := Nat.mul_le_mul (by omega) (by omega)
  have hm0 : (a : Int) * (C : Int) = ((a * C : Nat) : Int) := by simp
  rw [IntWalk.i64_left, IntWalk.i64_left, hm0, w64 (n := ((a * C : Nat) : Int)) (by omega) (by omega), w64 (by omega) (by omega)]
  simp [idx]

set_option maxHeartbeats 400000 in
theorem getR (g t cap R C : Nat) (f : Nat → Cel) (r c : Int) (w : World) (hg : RefAt w g t cap R C f) (h : There R C r c) :
    Calls Try.prog 22 #[.pointer (some ⟨g, 0, none⟩), .int .i64 r, .int .i64 c] w fun e w' => e = .returned (f (idx C r c)).v ∧ Kept0 w w' := by
  have hl := idx_lt h
  have hRC : R * C ≤ 65025 := Nat.mul_le_mul hg.R2 hg.C2
  have hR2 := hg.R2
  have hC2 := hg.C2
  obtain ⟨N, hN⟩ : ∃ N, N = R * C := ⟨_, rfl⟩
  obtain ⟨h1, h2, h3, h4⟩ := h
  have hw1 := wrap_idx (R := R) (C := C) (r := r) (c := c) ⟨h1, h2, h3, h4⟩ hR2 hC2
  have c1 := hg.c1
  have c2 := hg.c2
  obtain ⟨e0, e1, e2, e3⟩ := hg.row.cell hl
  have hgl := hg.lt
  have htl := hg.row.lt
  have b1 : ¬ g = w.heap.size := by omega
  have b2 : ¬ w.heap.size = g := by omega
  have b3 : ¬ t = w.heap.size := by omega
  have b4 : ¬ w.heap.size = t := by omega
  rw [← hN] at hl hRC c2
  clear hN
  go_enter Try.func22, Try.ntmps22
  go_wp2
  go_region_held3 (fun w' => w'.cell? ⟨g, 1, none⟩ = some (.int .i64 C) ∧ w'.cell? ⟨g, 2, none⟩ = some (Value.slice (some ⟨t, 0, none⟩) N cap) ∧ w'.cell? ⟨t, idx C r c * 4, none⟩ = some (.int .i32 (f (idx C r c)).g) ∧ w'.cell? ⟨t, idx C r c * 4 + 1, none⟩ = some (.int .i64 (f (idx C r c)).a) ∧ w'.cell? ⟨t, idx C r c * 4 + 2, none⟩ = some (.bool (f (idx C r c)).b) ∧ w'.cell? ⟨t, idx C r c * 4 + 3, none⟩ = some (.int .i64 (f (idx C r c)).m)) (go_keep) (first | fail)
  go_wp2
  refine bodyPost_ret (v := (f (idx C r c)).v) (by simp [results, Try.results22, go_sem]) rfl ⟨rfl, ?_⟩
  exact ((Kept.refl _ w).alloc _).drew

/-- A number with its sign turned over, cut. -/
def mns (n : Int) : Int := if 1000 < n then -1000 else if n < -1000 then 1000 else -n

set_option maxHeartbeats 400000 in
theorem minusR (n : Int) (w : World) :
    Calls Try.prog 37 #[.int .i64 n] w fun e w' => e = .returned (.int .i64 (mns n)) ∧ w = w' := by
  by_cases h1 : 1000 < n
  · rw [show mns n = -1000 from if_pos h1]
    go_enter Try.func37, Try.ntmps37
    go_wp2
    go_ret
    exact ⟨rfl, rfl⟩
  · by_cases h2 : n < -1000
    · rw [show mns n = 1000 by unfold mns; rw [if_neg h1, if_pos h2]]
      go_enter Try.func37, Try.ntmps37
      go_wp2
      go_ret
      exact ⟨rfl, rfl⟩
    · rw [show mns n = -n by unfold mns; rw [if_neg h1, if_neg h2]]
      go_enter Try.func37, Try.ntmps37
      go_wp2
      go_ret
      exact ⟨rfl, rfl⟩

set_option maxHeartbeats 1000000 in
theorem guardedR (g t cap R C : Nat) (f : Nat → Cel) (r : Nat) (w : World) (hg : RefAt w g t cap R C f) (hr : r < R) :
    Calls Try.prog 13 #[.pointer (some ⟨g, 0, none⟩), .int .i64 (r : Int)] w fun e w' => e = .returned (.int .i64 (cnt f (r * C) ((R - r) * C) : Int)) ∧ Kept0 w w' := by
  have hC2 := hg.C2
  have hR2 := hg.R2
  have c1 := hg.c1
  have c2 := hg.c2
  have hRC : R * C ≤ 65025 := Nat.mul_le_mul hR2 hC2
  have hrC : r * C + (R - r) * C = R * C := by rw [← Nat.add_mul]; congr 1; omega
  have hrow := hg.row
  obtain ⟨N, hN⟩ : ∃ N, N = R * C := ⟨_, rfl⟩
  obtain ⟨o, ho⟩ : ∃ o, o = r * C := ⟨_, rfl⟩
  obtain ⟨m, hm⟩ : ∃ m, m = (R - r) * C := ⟨_, rfl⟩
  have hw : wrap64 ((r : Int) * (C : Int)) = (o : Int) := by
    have : ((r : Int) * (C : Int)) = (o : Int) := by rw [ho]; simp
    rw [this]; exact w64 (by omega) (by omega)
  have hw2 : IntKind.i64.wrap ((r : Int) * (C : Int)) = (o : Int) := by rw [IntWalk.i64_left]; exact hw
  rw [← hN, ← ho, ← hm] at hrC
  rw [← hN] at c2 hRC hrow
  rw [← ho, ← hm]
  obtain ⟨V, hV⟩ : ∃ V, V = cnt f o m := ⟨_, rfl⟩
  rw [← hV]
  have HV := Lib.hid hV
  have HR := Lib.hid hrow
  clear hV hN ho hm hrow
  go_enter Try.func13, Try.ntmps13
  go_wp2_with fail
  go_loopw [6, 5] (fun s6 s5 wr => ∃ k : Nat, k ≤ m ∧ s6 = .int .i64 ((o + k : Nat) : Int) ∧ s5 = .int .i64 (cnt f o k : Int) ∧ Kept0 w wr) (fun s6 _ _ => N - (intOf s6).toNat)
  case atStart => exact ⟨0, by omega, rfl, by simp [cnt], Kept.refl _ _⟩
  case round =>
    obtain ⟨k, hk, rfl, rfl, hkp⟩ := hrel
    have p2 := kcell hkp c2
    by_cases hlt : k < m
    · have hle := cnt_le f o k
      obtain ⟨_, _, e2, _⟩ := (HR.out.kept hkp (fun e => e)).cell (k := o + k) (by omega)
      have HC : Hid (cnt f o (k + 1) = cnt f o k + (if (f (o + k)).b = true then 1 else 0)) := rfl
      cases hb : (f (o + k)).b
      · rw [hb] at e2 HC
        have HC2 : Hid (cnt f o (k + 1) = cnt f o k) := HC.out
        clear HC hb
        generalize hm : cnt f o k = q at *
        have HM := Lib.hid hm
        clear hm
        go_wp2_with fail
        go_roundw
        case rel => exact ⟨k + 1, by omega, by go_num, by rw [HC2.out], hkp⟩
        case measure => simp [intOf]; omega
      · rw [hb] at e2 HC
        have HC2 : Hid (cnt f o (k + 1) = cnt f o k + 1) := HC.out
        clear HC hb
        generalize hm : cnt f o k = q at *
        have HM := Lib.hid hm
        clear hm
        go_wp2_with fail
        go_roundw
        case rel => exact ⟨k + 1, by omega, by go_num, by rw [HC2.out]; go_num, hkp⟩
        case measure => simp [intOf]; omega
    · obtain rfl : k = m := by omega
      go_wp2_with fail
      go_ret
      exact ⟨ret_int (by rw [HV.out]), hkp⟩
end Go.Proofs.Ytljfbocjnpnaiaa
