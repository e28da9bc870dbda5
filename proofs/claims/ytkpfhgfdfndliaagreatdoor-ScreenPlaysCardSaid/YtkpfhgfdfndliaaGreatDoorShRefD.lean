/-
  The answer of the document: There, At, minus, Guarded, Field, Copy.
  The answer of the document: Field and Copy.
  The answer of the document: Up, Lines, Chars.
-/
import Derived.Test.YtkpfhgfdfndliaaGreatDoorMSh2
import Derived.Deep.AppendLies
namespace Go.Proofs.YtkpfhgfdfndliaaGreatDoor
namespace Sh
open Go.RowKit


namespace RefAt
variable {w : World} {g t cap R C : Nat} {f : Nat → Cel}
end RefAt

def thereB (R C : Nat) (r c : Int) : Bool := decide (0 ≤ r ∧ r < R ∧ 0 ≤ c ∧ c < C)
theorem thereB_yes {R C : Nat} {r c : Int} (h : There R C r c) : thereB R C r c = true := decide_eq_true h
theorem thereB_no {R C : Nat} {r c : Int} (h : ¬ There R C r c) : thereB R C r c = false := decide_eq_false h

set_option maxHeartbeats 400000 in
theorem thereR (g : Nat) (R C : Nat) (r c : Int) (w : World) (c0 : w.cell? ⟨g, 0, none⟩ = some (.int .i64 R)) (c1 : w.cell? ⟨g, 1, none⟩ = some (.int .i64 C)) :
    Calls Tryz.prog 52 #[.pointer (some ⟨g, 0, none⟩), .agg #[.int .i64 r, .int .i64 c]] w fun e w' => e = .returned (.bool (thereB R C r c)) ∧ Kept0 w w' := by
  have hg := World.block_lt_of_cell? w _ c0
  obtain ⟨B, hB⟩ : ∃ B, B = thereB R C r c := ⟨_, rfl⟩
  rw [← hB]
  have HB := Lib.hid hB
  clear hB
  by_cases h1 : 0 ≤ r
  rotate_left
  · have d1 : decide (0 ≤ r) = false := by simpa using h1
    go_enter Tryz.func52, Tryz.ntmps52
    go_wp2
    go_quiet (fail)
    go_wp2
    go_ret
    refine ⟨ret_bool ?_, ((Kept.refl _ w).alloc _).drewN _⟩
    rw [HB.out]; unfold thereB; simp [*]
  by_cases h2 : r < R
  rotate_left
  · have d2 : decide (r < R) = false := by simpa using h2
    go_enter Tryz.func52, Tryz.ntmps52
    go_wp2
    go_quiet (fail)
    go_wp2
    go_ret
    refine ⟨ret_bool ?_, ((Kept.refl _ w).alloc _).drewN _⟩
    rw [HB.out]; unfold thereB; simp [*]
  by_cases h3 : 0 ≤ c
  rotate_left
  · have d3 : decide (0 ≤ c) = false := by simpa using h3
    go_enter Tryz.func52, Tryz.ntmps52
    go_wp2
    go_quiet (fail)
    go_wp2
    go_ret
    refine ⟨ret_bool ?_, ((Kept.refl _ w).alloc _).drewN _⟩
    rw [HB.out]; unfold thereB; simp [*]
  by_cases h4 : c < C
  rotate_left
  · have d4 : decide (c < C) = false := by simpa using h4
    go_enter Tryz.func52, Tryz.ntmps52
    go_wp2
    go_quiet (fail)
    go_wp2
    go_ret
    refine ⟨ret_bool ?_, ((Kept.refl _ w).alloc _).drewN _⟩
    rw [HB.out]; unfold thereB; simp [*]
  go_enter Tryz.func52, Tryz.ntmps52
  go_wp2
  go_quiet (fail)
  go_wp2
  go_ret
  refine ⟨ret_bool ?_, ((Kept.refl _ w).alloc _).drewN _⟩
  rw [HB.out]; unfold thereB; simp [*]



/-- A number with its sign turned over, cut. -/
def mns (n : Int) : Int := if 1000 < n then -1000 else if n < -1000 then 1000 else -n

set_option maxHeartbeats 400000 in
theorem minusR (n : Int) (w : World) :
    Calls Tryz.prog 121 #[.int .i64 n] w fun e w' => e = .returned (.int .i64 (mns n)) ∧ w = w' := by
  by_cases h1 : 1000 < n
  · rw [show mns n = -1000 from if_pos h1]
    go_enter Tryz.func121, Tryz.ntmps121
    go_wp2
    go_ret
    exact ⟨rfl, rfl⟩
  · by_cases h2 : n < -1000
    · rw [show mns n = 1000 by unfold mns; rw [if_neg h1, if_pos h2]]
      go_enter Tryz.func121, Tryz.ntmps121
      go_wp2
      go_ret
      exact ⟨rfl, rfl⟩
    · rw [show mns n = -n by unfold mns; rw [if_neg h1, if_neg h2]]
      go_enter Tryz.func121, Tryz.ntmps121
      go_wp2
      go_ret
      exact ⟨rfl, rfl⟩

set_option maxHeartbeats 1000000 in
theorem guardedR (g t cap R C : Nat) (f : Nat → Cel) (r : Nat) (w : World) (hg : RefAt w g t cap R C f) (hr : r < R) :
    Calls Tryz.prog 119 #[.pointer (some ⟨g, 0, none⟩), .int .i64 (r : Int)] w fun e w' => e = .returned (.int .i64 (cnt f (r * C) ((R - r) * C) : Int)) ∧ Kept0 w w' := by
  have hC2 := hg.C2
  have hR2 := hg.R2
  have c1 := hg.c1
  have c2 := hg.c2
  have hRC : R * C ≤ 65025 := Nat.mul_le_mul hR2 hC2
  have hrC : r * C + (R - r) * C = R * C := by rw [← Nat.add_mul]; congr 1; omega
  have hrow := hg.row
  obtain ⟨N, hN⟩ : ∃ N, N = R * C := ⟨_, rfl⟩
  obtain ⟨o, ho⟩ : ∃ o, o = r * C := ⟨_, rfl⟩
  obtain ⟨m, hm⟩ : ∃ m, m = (R - r) * C := ⟨_, rfl⟩
  have hw : wrap64 ((r : Int) * (C : Int)) = (o : Int) := by
    have : ((r : Int) * (C : Int)) = (o : Int) := by rw [ho]; simp
    rw [this]; exact w64 (by omega) (by omega)
  have hw2 : IntKind.i64.wrap ((r : Int) * (C : Int)) = (o : Int) := by rw [IntWalk.i64_left]; exact hw
  rw [← hN, ← ho, ← hm] at hrC
  rw [← hN] at c2 hRC hrow
  rw [← ho, ← hm]
  obtain ⟨V, hV⟩ : ∃ V, V = cnt f o m := ⟨_, rfl⟩
  rw [← hV]
  have HV := Lib.hid hV
  have HR := Lib.hid hrow
  clear hV hN ho hm hrow
  go_enter Tryz.func119, Tryz.ntmps119
  go_wp2_with fail
  go_loopw [6, 5] (fun s6 s5 wr => ∃ k : Nat, k ≤ m ∧ s6 = .int .i64 ((o + k : Nat) : Int) ∧ s5 = .int .i64 (cnt f o k : Int) ∧ Kept0 w wr) (fun s6 _ _ => N - (intOf s6).toNat)
  case atStart => exact ⟨0, by omega, rfl, by simp [cnt], Kept.refl _ _⟩
  case round =>
    obtain ⟨k, hk, rfl, rfl, hkp⟩ := hrel
    have p2 := kcell hkp c2
    by_cases hlt : k < m
    · have hle := cnt_le f o k
      obtain ⟨_, _, e2, _⟩ := (HR.out.kept hkp (fun e => e)).cell (k := o + k) (by omega)
      have HC : Hid (cnt f o (k + 1) = cnt f o k + (if (f (o + k)).b = true then 1 else 0)) := rfl
      cases hb : (f (o + k)).b
      · rw [hb] at e2 HC
        have HC2 : Hid (cnt f o (k + 1) = cnt f o k) := HC.out
        clear HC hb
        generalize hm : cnt f o k = q at *
        have HM := Lib.hid hm
        clear hm
        go_wp2_with fail
        go_roundw
        case rel => exact ⟨k + 1, by omega, by go_num, by rw [HC2.out], hkp⟩
        case measure => simp [intOf]; omega
      · rw [hb] at e2 HC
        have HC2 : Hid (cnt f o (k + 1) = cnt f o k + 1) := HC.out
        clear HC hb
        generalize hm : cnt f o k = q at *
        have HM := Lib.hid hm
        clear hm
        go_wp2_with fail
        go_roundw
        case rel => exact ⟨k + 1, by omega, by go_num, by rw [HC2.out]; go_num, hkp⟩
        case measure => simp [intOf]; omega
    · obtain rfl : k = m := by omega
      go_wp2_with fail
      go_ret
      exact ⟨ret_int (by rw [HV.out]), hkp⟩
end Sh
end Go.Proofs.YtkpfhgfdfndliaaGreatDoor

namespace Go.Proofs.YtkpfhgfdfndliaaGreatDoor
namespace Sh
open Go.RowKit

theorem gd_idx (C : Nat) (f : Nat → Cel) (r c : Nat) : (f (idx C (r : Int) (c : Int))).b = gd C f r c := by
  simp [idx, gd]

/-- The guard of a cell that is answered. -/
theorem field_b (x : Cel) (w : World) : (Instr.field 36 x.v 2).run Tryz.prog w = .ok (.bool x.b) w := by kernel_rfl

set_option maxHeartbeats 2000000 in
theorem fieldR (g t cap R C : Nat) (f : Nat → Cel) (r c : Nat) (w : World) (hg : RefAt w g t cap R C f) (hr : r < R) (hc : c < C) :
    Calls Tryz.prog 122 #[.pointer (some ⟨g, 0, none⟩), .agg #[.int .i64 (r : Int), .int .i64 (c : Int)]] w fun e w' => e = .returned (.tuple #[.int .i64 (lo (gd C f r) c : Int), .int .i64 (hi (gd C f r) (C - 1 - c) c : Int)]) ∧ Kept0 w w' := by
  have hC2 := hg.C2
  have hR2 := hg.R2
  have c1 := hg.c1
  obtain ⟨V, hV⟩ : ∃ V, V = lo (gd C f r) c := ⟨_, rfl⟩
  obtain ⟨U, hU⟩ : ∃ U, U = hi (gd C f r) (C - 1 - c) c := ⟨_, rfl⟩
  rw [← hV, ← hU]
  have HV := Lib.hid hV
  have HU := Lib.hid hU
  have HG := Lib.hid hg
  clear hV hU
  go_enter Tryz.func122, Tryz.ntmps122
  go_wp2_with fail
  obtain ⟨W, hW⟩ : ∃ W, W = w.alloc (.cells #[.int .i64 (r : Int), .int .i64 (c : Int)] 40) := ⟨_, rfl⟩
  have q0 : W.cell? ⟨w.heap.size, 0, none⟩ = some (.int .i64 (r : Int)) := by rw [hW]; simp [go_sem]
  have q1 : W.cell? ⟨w.heap.size, 1, none⟩ = some (.int .i64 (c : Int)) := by rw [hW]; simp [go_sem]
  have k0 : Kept0 w W := by rw [hW]; exact (Kept.refl _ w).alloc _
  rw [← hW]
  clear hW
  go_loopw [6] (fun s6 wr => ∃ k : Nat, k ≤ c ∧ s6 = .int .i64 k ∧ Hid (lo (gd C f r) k = V) ∧ Kept0 W wr) (fun s6 _ => (intOf s6).toNat)
  case atStart => exact ⟨c, Nat.le_refl _, rfl, HV.out.symm, Kept.refl _ _⟩
  case round =>
    obtain ⟨k, hk, rfl, HK, hkp⟩ := hrel
    have p0 := kcell hkp q0
    have p1 := kcell hkp q1
    have HG1 : Hid (RefAt wr g t cap R C f) := HG.out.kept (k0.trans hkp) (fun e => e) (fun e => e)
    have hor : (k = 0 ∧ Hid (0 = V)) ∨ ∃ j, k = j + 1 ∧ (gd C f r j = true ∧ Hid (j + 1 = V) ∨ gd C f r j = false ∧ Hid (lo (gd C f r) j = V)) := by
      rcases Nat.eq_zero_or_pos k with rfl | hpos
      · exact Or.inl ⟨rfl, HK.out⟩
      · obtain ⟨j, rfl⟩ : ∃ j, k = j + 1 := ⟨k - 1, by omega⟩
        refine Or.inr ⟨j, rfl, ?_⟩
        have := HK.out
        unfold lo at this
        cases hb : gd C f r j
        · rw [hb] at this; exact Or.inr ⟨rfl, this⟩
        · rw [hb] at this; exact Or.inl ⟨rfl, this⟩
    clear HK
    rcases hor with ⟨rfl, HK2⟩ | ⟨j, rfl, ⟨hb, HK2⟩ | ⟨hb, HK2⟩⟩
    rotate_right
    · have hT : Hid (There R C (r : Int) (j : Int)) := ⟨by omega, by omega, by omega, by omega⟩
      have hfb := field_b (f (idx C (r : Int) (j : Int)))
      rw [gd_idx C f r j, hb] at hfb
      clear hb
      go_wp2_with fail
      refine (getR g t cap R C f _ _ _ HG1.out hT.out).mono ?_
      rintro e w1 ⟨rfl, hk1⟩
      go_wp2_with fail
      go_roundw
      case rel => exact ⟨j, by omega, by go_num, HK2, hkp.trans hk1⟩
      case measure => simp [intOf]
    · go_wp2_with fail
      rw [show ((0 : Nat) : Int) = 0 from rfl]
      obtain ⟨w2, hw2⟩ : ∃ w2, w2 = wr := ⟨_, rfl⟩
      rw [← hw2]
      have hk2 : Hid (Kept0 W w2) := by rw [hw2]; exact hkp
      clear hw2 hkp p0 p1 HG1 hk
      go_loopw [7] (fun s7 wq => ∃ k : Nat, k < C ∧ s7 = .int .i64 k ∧ Hid (hi (gd C f r) (C - 1 - k) k = U) ∧ Kept0 W wq) (fun s7 _ => C - (intOf s7).toNat)
      case atStart => exact ⟨c, hc, rfl, HU.out.symm, hk2.out⟩
      case round =>
        obtain ⟨k, hk, rfl, HK, hkp⟩ := hrel
        have p0 := kcell hkp q0
        have p1 := kcell hkp q1
        have pc := kcell (k0.trans hkp) c1
        have HG1 : Hid (RefAt wr g t cap R C f) := HG.out.kept (k0.trans hkp) (fun e => e) (fun e => e)
        have hor : (k + 1 = C ∧ Hid (k = U)) ∨ (k + 1 < C ∧ (gd C f r (k + 1) = true ∧ Hid (k = U) ∨ gd C f r (k + 1) = false ∧ Hid (hi (gd C f r) (C - 1 - (k + 1)) (k + 1) = U))) := by
          by_cases hpos : k + 1 = C
          · refine Or.inl ⟨hpos, ?_⟩
            have := HK.out
            rw [show C - 1 - k = 0 by omega] at this
            exact this
          · refine Or.inr ⟨by omega, ?_⟩
            have := HK.out
            rw [show C - 1 - k = C - 1 - (k + 1) + 1 by omega] at this
            unfold hi at this
            cases hb : gd C f r (k + 1)
            · rw [hb] at this; exact Or.inr ⟨rfl, this⟩
            · rw [hb] at this; exact Or.inl ⟨rfl, this⟩
        clear HK
        rcases hor with ⟨hk3, HK3⟩ | ⟨hk3, ⟨hb, HK3⟩ | ⟨hb, HK3⟩⟩
        · go_wp2_with fail
          refine bodyPost_ret (v := .tuple #[.int .i64 (V : Int), .int .i64 (U : Int)]) (by have h1 := HK2.out; have h2 := HK3.out; simp [results, Tryz.results122, go_sem, ← h1, h2]) rfl ⟨rfl, k0.trans hkp⟩
        · have hT : Hid (There R C (r : Int) ((k : Int) + 1)) := ⟨by omega, by omega, by omega, by omega⟩
          have hfb := field_b (f (idx C (r : Int) ((k : Int) + 1)))
          rw [show ((k : Int) + 1) = ((k + 1 : Nat) : Int) by omega, gd_idx C f r (k + 1), hb] at hfb
          rw [show (((k + 1 : Nat) : Int)) = (k : Int) + 1 by omega] at hfb
          clear hb
          go_wp2_with fail
          refine (getR g t cap R C f _ _ _ HG1.out hT.out).mono ?_
          rintro e w3 ⟨rfl, hk4⟩
          go_wp2_with fail
          refine bodyPost_ret (v := .tuple #[.int .i64 (V : Int), .int .i64 (U : Int)]) (by have h1 := HK2.out; have h2 := HK3.out; simp [results, Tryz.results122, go_sem, ← h1, h2]) rfl ⟨rfl, (k0.trans hkp).trans hk4⟩
        · have hT : Hid (There R C (r : Int) ((k : Int) + 1)) := ⟨by omega, by omega, by omega, by omega⟩
          have hfb := field_b (f (idx C (r : Int) ((k : Int) + 1)))
          rw [show ((k : Int) + 1) = ((k + 1 : Nat) : Int) by omega, gd_idx C f r (k + 1), hb] at hfb
          rw [show (((k + 1 : Nat) : Int)) = (k : Int) + 1 by omega] at hfb
          clear hb
          go_wp2_with fail
          refine (getR g t cap R C f _ _ _ HG1.out hT.out).mono ?_
          rintro e w3 ⟨rfl, hk4⟩
          go_wp2_with fail
          go_roundw
          case rel => exact ⟨k + 1, by omega, by go_num, HK3, hkp.trans hk4⟩
          case measure => simp [intOf]; omega
    · have hT : Hid (There R C (r : Int) (j : Int)) := ⟨by omega, by omega, by omega, by omega⟩
      have hfb := field_b (f (idx C (r : Int) (j : Int)))
      rw [gd_idx C f r j, hb] at hfb
      clear hb
      go_wp2_with fail
      refine (getR g t cap R C f _ _ _ HG1.out hT.out).mono ?_
      rintro e w2 ⟨rfl, hk1⟩
      have hk2 : Hid (Kept0 W w2) := hkp.trans hk1
      replace p1 := kcell hk2.out q1
      go_wp2_with fail
      clear hkp p0 p1 HG1 hk hk1 hfb
      go_loopw [7] (fun s7 wq => ∃ k : Nat, k < C ∧ s7 = .int .i64 k ∧ Hid (hi (gd C f r) (C - 1 - k) k = U) ∧ Kept0 W wq) (fun s7 _ => C - (intOf s7).toNat)
      case atStart => exact ⟨c, hc, rfl, HU.out.symm, hk2.out⟩
      case round =>
        obtain ⟨k, hk, rfl, HK, hkp⟩ := hrel
        have p0 := kcell hkp q0
        have p1 := kcell hkp q1
        have pc := kcell (k0.trans hkp) c1
        have HG1 : Hid (RefAt wr g t cap R C f) := HG.out.kept (k0.trans hkp) (fun e => e) (fun e => e)
        have hor : (k + 1 = C ∧ Hid (k = U)) ∨ (k + 1 < C ∧ (gd C f r (k + 1) = true ∧ Hid (k = U) ∨ gd C f r (k + 1) = false ∧ Hid (hi (gd C f r) (C - 1 - (k + 1)) (k + 1) = U))) := by
          by_cases hpos : k + 1 = C
          · refine Or.inl ⟨hpos, ?_⟩
            have := HK.out
            rw [show C - 1 - k = 0 by omega] at this
            exact this
          · refine Or.inr ⟨by omega, ?_⟩
            have := HK.out
            rw [show C - 1 - k = C - 1 - (k + 1) + 1 by omega] at this
            unfold hi at this
            cases hb : gd C f r (k + 1)
            · rw [hb] at this; exact Or.inr ⟨rfl, this⟩
            · rw [hb] at this; exact Or.inl ⟨rfl, this⟩
        clear HK
        rcases hor with ⟨hk3, HK3⟩ | ⟨hk3, ⟨hb, HK3⟩ | ⟨hb, HK3⟩⟩
        · go_wp2_with fail
          refine bodyPost_ret (v := .tuple #[.int .i64 (V : Int), .int .i64 (U : Int)]) (by have h1 := HK2.out; have h2 := HK3.out; simp [results, Tryz.results122, go_sem, ← h1, h2]) rfl ⟨rfl, k0.trans hkp⟩
        · have hT : Hid (There R C (r : Int) ((k : Int) + 1)) := ⟨by omega, by omega, by omega, by omega⟩
          have hfb := field_b (f (idx C (r : Int) ((k : Int) + 1)))
          rw [show ((k : Int) + 1) = ((k + 1 : Nat) : Int) by omega, gd_idx C f r (k + 1), hb] at hfb
          rw [show (((k + 1 : Nat) : Int)) = (k : Int) + 1 by omega] at hfb
          clear hb
          go_wp2_with fail
          refine (getR g t cap R C f _ _ _ HG1.out hT.out).mono ?_
          rintro e w3 ⟨rfl, hk4⟩
          go_wp2_with fail
          refine bodyPost_ret (v := .tuple #[.int .i64 (V : Int), .int .i64 (U : Int)]) (by have h1 := HK2.out; have h2 := HK3.out; simp [results, Tryz.results122, go_sem, ← h1, h2]) rfl ⟨rfl, (k0.trans hkp).trans hk4⟩
        · have hT : Hid (There R C (r : Int) ((k : Int) + 1)) := ⟨by omega, by omega, by omega, by omega⟩
          have hfb := field_b (f (idx C (r : Int) ((k : Int) + 1)))
          rw [show ((k : Int) + 1) = ((k + 1 : Nat) : Int) by omega, gd_idx C f r (k + 1), hb] at hfb
          rw [show (((k + 1 : Nat) : Int)) = (k : Int) + 1 by omega] at hfb
          clear hb
          go_wp2_with fail
          refine (getR g t cap R C f _ _ _ HG1.out hT.out).mono ?_
          rintro e w3 ⟨rfl, hk4⟩
          go_wp2_with fail
          go_roundw
          case rel => exact ⟨k + 1, by omega, by go_num, HK3, hkp.trans hk4⟩
          case measure => simp [intOf]; omega

end Sh
end Go.Proofs.YtkpfhgfdfndliaaGreatDoor

namespace Go.Proofs.YtkpfhgfdfndliaaGreatDoor
namespace Sh
open Go.RowKit


theorem mns_opp {n : Int} {m : Nat} (h : m ≤ 255) (h1 : -9223372036854775808 ≤ n) : bnd (mns n) m = bnd (opp n) m := by
  unfold bnd mns opp
  split
  · omega
  · split <;> omega

theorem mns_in (n : Int) : -9223372036854775808 ≤ mns n ∧ mns n ≤ 9223372036854775807 := by
  unfold mns
  split
  · omega
  · split <;> omega

set_option maxHeartbeats 400000 in
theorem linesR (g t cap R C : Nat) (f : Nat → Cel) (r n : Int) (x : Cel) (b : Bool) (w : World) (hg : RefAt w g t cap R C f) (hn : -9223372036854775808 ≤ n ∧ n ≤ 9223372036854775807) :
    Calls Tryz.prog 84 #[.pointer (some ⟨g, 0, none⟩), .int .i64 r, .int .i64 n, x.v, .bool b] w fun e w' => e = .returned (.int .i64 (linesE R r)) ∧ RefAt w' g t cap R C (linesF R C f r n x b) ∧ Kept (· = t) w w' := by
  have c0 := hg.c0
  have hgl := hg.lt
  have htl := hg.row.lt
  have hx := CelAt.new w x 36
  by_cases hr : 0 ≤ r ∧ r < R
  · rw [show linesE R r = 0 from if_pos hr]
    obtain ⟨h1, h2⟩ := hr
    obtain ⟨a, rfl⟩ := Int.eq_ofNat_of_zero_le h1
    have hRW : Hid (∀ w', Kept0 w w' → Calls Tryz.prog 120 #[.pointer (some ⟨g, 0, none⟩), .int .i64 (a : Int), .int .i64 (mns n), x.v] w' fun e w'' =>
        e = .returned (.tuple #[]) ∧ RefAt w'' g t cap R C (moveF f (a * C) ((R - a) * C) (opp n * C) x) ∧ Kept (· = t) w' w'') := fun w' k => by
      refine (rowsR g t cap R C f a (mns n) x w' (hg.kept k (fun e => e) (fun e => e)) (by omega) (mns_in n)).mono ?_
      rintro e w2 ⟨rfl, hr2, k2⟩
      refine ⟨rfl, hr2.congr (fun j _ => ?_), k2⟩
      rw [← moveF_bndC _ _ _ _ _ _ _ hg.C1, mns_opp (by have := hg.R2; omega) hn.1, moveF_bndC _ _ _ _ _ _ _ hg.C1]
    have hGD : Hid (∀ w', Kept0 w w' → Calls Tryz.prog 119 #[.pointer (some ⟨g, 0, none⟩), .int .i64 (a : Int)] w' fun e w'' => e = .returned (.int .i64 (cnt f (a * C) ((R - a) * C) : Int)) ∧ Kept0 w' w'') := fun w' k =>
      guardedR g t cap R C f a w' (hg.kept k (fun e => e) (fun e => e)) (by omega)
    have k0 : Kept0 w (w.alloc (.cells #[.int .i32 x.g, .int .i64 x.a, .bool x.b, .int .i64 x.m] 36)) := (Kept.refl _ w).alloc _
    have d1 : decide ((a : Int) < 0) = false := by simp
    have d2 : decide ((R : Int) ≤ (a : Int)) = false := by simp; omega
    have hne : Hid (¬ w.heap.size = t) := (by omega : ¬ w.heap.size = t)
    cases b
    · rw [show linesF R C f (a : Int) n x false = moveF f (a * C) ((R - a) * C) (opp n * C) x from if_pos ⟨⟨h1, h2⟩, fun e => by cases e⟩]
      have HG := Lib.hid hg
      clear hg
      go_enter Tryz.func84, Tryz.ntmps84
      go_wp2_with fail
      obtain ⟨W, hW⟩ : ∃ W, W = w.alloc (.cells #[.int .i32 x.g, .int .i64 x.a, .bool x.b, .int .i64 x.m] 36) := ⟨_, rfl⟩
      rw [← hW] at hx k0 ⊢
      clear hW
      have KK := Lib.hid k0
      obtain ⟨z0, z1, z2, z3⟩ := hx
      have hx2 : Hid (CelAt W w.heap.size x) := ⟨z0, z1, z2, z3⟩
      go_region_held3 (fun w' => w'.cell? ⟨w.heap.size, 0, none⟩ = some (.int .i32 x.g) ∧ w'.cell? ⟨w.heap.size, 1, none⟩ = some (.int .i64 x.a) ∧ w'.cell? ⟨w.heap.size, 2, none⟩ = some (.bool x.b) ∧ w'.cell? ⟨w.heap.size, 3, none⟩ = some (.int .i64 x.m)) (go_keep)
        (first
          | (go_at_call 121; refine (minusR _ _).mono ?_; rintro e w5 ⟨rfl, rfl⟩)
          | (go_at_call 120; refine (hRW.out _ (Kept.drew KK.out)).mono ?_; rintro e w4 ⟨rfl, hP, hk4⟩; obtain ⟨v0, v1, v2, v3⟩ := (CelAt.drew hx2.out).kept hk4 hne.out))
      all_goals
        go_wp2
        go_ret
        exact ⟨rfl, hP, (Kept0.to (Kept.drew KK.out)).trans hk4⟩
    · obtain ⟨V, hV⟩ : ∃ V, V = cnt f (a * C) ((R - a) * C) := ⟨_, rfl⟩
      rw [← hV] at hGD
      by_cases h0 : V = 0
      · rw [show linesF R C f (a : Int) n x true = moveF f (a * C) ((R - a) * C) (opp n * C) x from if_pos ⟨⟨h1, h2⟩, fun _ => by rw [h0] at hV; simpa using hV.symm⟩]
        subst h0
        clear hV
        have HG := Lib.hid hg
        clear hg
        go_enter Tryz.func84, Tryz.ntmps84
        go_wp2_with fail
        refine (hGD.out _ k0).mono ?_
        rintro e w1 ⟨rfl, hk1⟩
        have k1 := k0.trans hk1
        replace hx := hx.kept hk1 (fun e => e)
        clear hk1 k0
        go_wp2_with fail
        obtain ⟨W, hW⟩ : ∃ W, W = w1 := ⟨_, rfl⟩
        rw [← hW] at hx k1 ⊢
        clear hW
        have KK := Lib.hid k1
        obtain ⟨z0, z1, z2, z3⟩ := hx
        have hx2 : Hid (CelAt W w.heap.size x) := ⟨z0, z1, z2, z3⟩
        go_region_held3 (fun w' => w'.cell? ⟨w.heap.size, 0, none⟩ = some (.int .i32 x.g) ∧ w'.cell? ⟨w.heap.size, 1, none⟩ = some (.int .i64 x.a) ∧ w'.cell? ⟨w.heap.size, 2, none⟩ = some (.bool x.b) ∧ w'.cell? ⟨w.heap.size, 3, none⟩ = some (.int .i64 x.m)) (go_keep)
          (first
            | (go_at_call 121; refine (minusR _ _).mono ?_; rintro e w5 ⟨rfl, rfl⟩)
            | (go_at_call 120; refine (hRW.out _ (Kept.drew KK.out)).mono ?_; rintro e w4 ⟨rfl, hP, hk4⟩; obtain ⟨v0, v1, v2, v3⟩ := (CelAt.drew hx2.out).kept hk4 hne.out))
        all_goals
          go_wp2
          go_ret
          exact ⟨rfl, hP, (Kept0.to (Kept.drew KK.out)).trans hk4⟩
      · rw [show linesF R C f (a : Int) n x true = f from if_neg (fun e => h0 (by have := e.2 rfl; rw [hV]; simpa using this))]
        have hVp : ¬ (V : Int) = 0 := by omega
        clear hV
        go_enter Tryz.func84, Tryz.ntmps84
        go_wp2_with fail
        refine (hGD.out _ k0).mono ?_
        rintro e w1 ⟨rfl, hk1⟩
        go_wp2_with fail
        go_ret
        exact ⟨rfl, hg.kept (k0.trans hk1) (fun e => e) (fun e => e), Kept0.to (k0.trans hk1)⟩
  · rw [show linesE R r = 11 from if_neg hr, show linesF R C f r n x b = f from if_neg (fun e => hr e.1)]
    have k0 : Kept0 w (w.alloc (.cells #[.int .i32 x.g, .int .i64 x.a, .bool x.b, .int .i64 x.m] 36)) := (Kept.refl _ w).alloc _
    by_cases h1 : r < 0
    · go_enter Tryz.func84, Tryz.ntmps84
      go_wp2_with fail
      go_ret
      exact ⟨rfl, hg.kept k0 (fun e => e) (fun e => e), Kept0.to k0⟩
    · have h2 : (R : Int) ≤ r := by omega
      go_enter Tryz.func84, Tryz.ntmps84
      go_wp2_with fail
      go_ret
      exact ⟨rfl, hg.kept k0 (fun e => e) (fun e => e), Kept0.to k0⟩
end Sh
end Go.Proofs.YtkpfhgfdfndliaaGreatDoor
