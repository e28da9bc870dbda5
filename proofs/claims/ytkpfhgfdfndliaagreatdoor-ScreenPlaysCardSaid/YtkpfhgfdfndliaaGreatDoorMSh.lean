/-
  Texts merged: ShSlide ShFree ShTurn ShShifts ShAnys.
-/
import Derived.Test.YtkpfhgfdfndliaaGreatDoorMGo
import Derived.ScopeJumps
import Derived.WalkMore
/-
  What Slide does.
-/
namespace Go.Proofs.YtkpfhgfdfndliaaGreatDoor
namespace Sh
open Go.RowKit

set_option maxHeartbeats 1000000 in
theorem slide_in (g t cap R C : Nat) (f : Nat → Cel) (r c c' n : Int) (x : Cel) (w : World) (hg : GridAt w g t cap R C f) (h1 : There R C r c) (h2 : There R C r c') (hle : idx C r c ≤ idx C r c') :
    Calls Tryz.prog 145 #[.pointer (some ⟨g, 0, none⟩), .int .i64 r, .int .i64 c, .int .i64 c', .int .i64 n, (.agg #[.int .i32 x.g, .int .i64 x.a, .bool x.b, .int .i64 x.m])] w fun e w' =>
      e = .returned (.int .i64 0) ∧ GridAt w' g t cap R C (moveF f (idx C r c) (idx C r c' + 1 - idx C r c) (bnd n ((idx C r c' + 1 - idx C r c : Nat) : Int)) x) ∧ Kept (· = t) w w' := by
  have hl1 := idx_lt h1
  have hl2 := idx_lt h2
  have hcap := hg.cap
  have hRC : R * C ≤ 65025 := Nat.mul_le_mul hg.R2 hg.C2
  have H1 := Lib.hid h1
  have H2 := Lib.hid h2
  clear h1 h2
  obtain ⟨L, hL⟩ : ∃ L, L = idx C r c' + 1 - idx C r c := ⟨_, rfl⟩
  obtain ⟨o, ho⟩ : ∃ o, o = idx C r c := ⟨_, rfl⟩
  obtain ⟨N, hN⟩ : ∃ N, N = R * C := ⟨_, rfl⟩
  have hrow := hg.row
  rw [← hN] at hl1 hl2 hcap hRC hrow
  have HN := Lib.hid hN
  clear hN
  have HLE := Lib.hid hle
  have hx := CelAt.new w x 36
  have htl := hrow.lt
  have hL2 : o + L ≤ N := by omega
  have hL3 : L ≤ cap - o := by omega
  have hLb : (L : Int) ≤ 70000 := by omega
  have HL := Lib.hid hL
  have HO := Lib.hid ho
  have hb1 : -(L : Int) ≤ bnd n L := by unfold bnd; omega
  have hb2 : bnd n L ≤ L := by unfold bnd; omega
  obtain ⟨z, hz⟩ : ∃ z, z = bnd n L := ⟨_, rfl⟩
  rw [← hz] at hb1 hb2
  have HZ := Lib.hid hz
  clear hL ho hl1 hl2 hle hz
  go_enter Tryz.func145, Tryz.ntmps145
  go_wp2_with fail
  have k0 : Kept0 w (w.alloc (.cells #[.int .i32 x.g, .int .i64 x.a, .bool x.b, .int .i64 x.m] 36)) := (Kept.refl _ w).alloc _
  refine (stretch_yes g t cap R C f _ _ _ _ _ (hg.kept k0 (fun e => e) (fun e => e)) H1.out H2.out HLE.out).mono ?_
  unfold runV
  rw [← HL.out, ← HO.out]
  rintro e w1 ⟨rfl, hk1⟩
  replace hx := hx.kept hk1 (fun e => e)
  replace hk1 := k0.trans hk1
  have hrow1 := hrow.kept hk1 (fun e => e)
  obtain ⟨z0, z1, z2, z3⟩ := hx
  go_wp2_with fail
  go_region_held3 (fun w' => w'.cell? ⟨w.heap.size, 0, none⟩ = some (.int .i32 x.g) ∧ w'.cell? ⟨w.heap.size, 1, none⟩ = some (.int .i64 x.a) ∧ w'.cell? ⟨w.heap.size, 2, none⟩ = some (.bool x.b) ∧ w'.cell? ⟨w.heap.size, 3, none⟩ = some (.int .i64 x.m)) (go_keep)
    (first
      | (go_at_call 133; refine (bound_any _ _ _ (by omega) hLb).mono ?_; rw [← HZ.out]; rintro e w3 ⟨rfl, rfl⟩)
      | (go_at_call 132; refine (move_any t o L N _ z x f _ (CellsAt.drewN hrow1 1) hL2 (by omega) hL3 hb1 hb2).mono ?_; rintro e w3 ⟨rfl, hI, hk3⟩; obtain ⟨v0, v1, v2, v3⟩ := (CelAt.drew ⟨z0, z1, z2, z3⟩).kept hk3 (by omega)))
  go_wp2
  go_ret
  obtain rfl := HN.out
  have kt : Kept (· = t) w w3 := (Kept.drewN (Kept0.to hk1) 1).trans hk3
  refine ⟨rfl, hg.withRow kt ?_, kt⟩
  rw [HZ.out, HL.out, HO.out] at hI
  exact hI

theorem slide_out (g R C : Nat) (r c c' n : Int) (x : Cel) (w : World) (c0 : w.cell? ⟨g, 0, none⟩ = some (.int .i64 R)) (c1 : w.cell? ⟨g, 1, none⟩ = some (.int .i64 C)) (h : ¬ There R C r c ∨ ¬ There R C r c') :
    Calls Tryz.prog 145 #[.pointer (some ⟨g, 0, none⟩), .int .i64 r, .int .i64 c, .int .i64 c', .int .i64 n, (.agg #[.int .i32 x.g, .int .i64 x.a, .bool x.b, .int .i64 x.m])] w fun e w' => e = .returned (.int .i64 11) ∧ Kept0 w w' := by
  have H := Lib.hid h
  clear h
  go_enter Tryz.func145, Tryz.ntmps145
  go_wp2_with fail
  have k0 : Kept0 w (w.alloc (.cells #[.int .i32 x.g, .int .i64 x.a, .bool x.b, .int .i64 x.m] 36)) := (Kept.refl _ w).alloc _
  refine (run_out g R C _ _ _ _ _ (kcell k0 c0) (kcell k0 c1) H.out).mono ?_
  rintro e w1 ⟨rfl, hk1⟩
  go_wp2_with fail
  go_ret
  exact ⟨rfl, k0.trans hk1⟩

theorem slide_arg (g t cap R C : Nat) (f : Nat → Cel) (r c c' n : Int) (x : Cel) (w : World) (hg : GridAt w g t cap R C f) (h1 : There R C r c) (h2 : There R C r c') (hle : idx C r c' < idx C r c) :
    Calls Tryz.prog 145 #[.pointer (some ⟨g, 0, none⟩), .int .i64 r, .int .i64 c, .int .i64 c', .int .i64 n, (.agg #[.int .i32 x.g, .int .i64 x.a, .bool x.b, .int .i64 x.m])] w fun e w' => e = .returned (.int .i64 1) ∧ Kept0 w w' := by
  have H1 := Lib.hid h1
  have H2 := Lib.hid h2
  clear h1 h2
  go_enter Tryz.func145, Tryz.ntmps145
  go_wp2_with fail
  have k0 : Kept0 w (w.alloc (.cells #[.int .i32 x.g, .int .i64 x.a, .bool x.b, .int .i64 x.m] 36)) := (Kept.refl _ w).alloc _
  refine (run_arg g t cap R C f _ _ _ _ _ (hg.kept k0 (fun e => e) (fun e => e)) H1.out H2.out hle).mono ?_
  rintro e w1 ⟨rfl, hk1⟩
  go_wp2_with fail
  go_ret
  exact ⟨rfl, k0.trans hk1⟩

theorem slide_nil (r c c' n : Int) (x : Cel) (w : World) :
    Calls Tryz.prog 145 #[.pointer none, .int .i64 r, .int .i64 c, .int .i64 c', .int .i64 n, (.agg #[.int .i32 x.g, .int .i64 x.a, .bool x.b, .int .i64 x.m])] w fun e w' => e = .returned (.int .i64 2) ∧ Kept0 w w' := by
  go_enter Tryz.func145, Tryz.ntmps145
  go_wp2_with fail
  have k0 : Kept0 w (w.alloc (.cells #[.int .i32 x.g, .int .i64 x.a, .bool x.b, .int .i64 x.m] 36)) := (Kept.refl _ w).alloc _
  refine (run_nil _ _ _ _ _).mono ?_
  rintro e w1 ⟨rfl, hk1⟩
  go_wp2_with fail
  go_ret
  exact ⟨rfl, k0.trans hk1⟩

theorem roll_nil (r r' n : Int) (x : Cel) (w : World) :
    Calls Tryz.prog 96 #[.pointer none, .int .i64 r, .int .i64 r', .int .i64 n, (.agg #[.int .i32 x.g, .int .i64 x.a, .bool x.b, .int .i64 x.m])] w fun e w' => e = .returned (.int .i64 2) ∧ Kept0 w w' := by
  have hfld : ∀ w, (Instr.field 23 (.agg #[.int .i64 0, .int .i64 0]) 1).run Tryz.prog w = .ok (.int .i64 0) w := fun _ => by kernel_rfl
  go_enter Tryz.func96, Tryz.ntmps96
  go_wp2_with fail
  have k0 : Kept0 w (w.alloc (.cells #[.int .i32 x.g, .int .i64 x.a, .bool x.b, .int .i64 x.m] 36)) := (Kept.refl _ w).alloc _
  refine (size_nil _).mono ?_
  rintro e w0 ⟨rfl, hk0⟩
  go_wp2_with fail
  refine (run_nil _ _ _ _ _).mono ?_
  rintro e w1 ⟨rfl, hk1⟩
  go_wp2_with fail
  go_ret
  exact ⟨rfl, (k0.trans hk0).trans hk1⟩


end Sh
end Go.Proofs.YtkpfhgfdfndliaaGreatDoor

/-
  What the small calls of package shift do: free, opposite, the run of a field.
-/
namespace Go.Proofs.YtkpfhgfdfndliaaGreatDoor
namespace Sh
open Go.RowKit

/-- Why a cell is none of a field. -/
def freeE (R C : Nat) (f : Nat → Cel) (r c : Int) : Int := if 0 ≤ r ∧ r < R ∧ 0 ≤ c ∧ c < C then (if (f (idx C r c)).b = true then 15 else 0) else 11

set_option maxHeartbeats 400000 in
theorem free_core (g : Value) (r c : Int) (x : Cel) (E V : Int) (w : World)
    (hat : ∀ w', Kept0 w w' → Calls Tryz.prog 59 #[g, .agg #[.int .i64 r, .int .i64 c]] w' fun e w'' => e = .returned (.tuple #[(.agg #[.int .i32 x.g, .int .i64 x.a, .bool x.b, .int .i64 x.m]), .int .i64 E]) ∧ Kept0 w' w'') (hV : V = if x.b = true then 15 else E) :
    Calls Tryz.prog 159 #[g, .agg #[.int .i64 r, .int .i64 c]] w fun e w' => e = .returned (.int .i64 V) ∧ Kept0 w w' := by
  have HA := Lib.hid hat
  have HV := Lib.hid hV
  clear hat hV
  go_enter Tryz.func159, Tryz.ntmps159
  go_wp2_with fail
  refine (HA.out _ ((Kept.refl _ w).alloc _)).mono ?_
  rintro e w1 ⟨rfl, hk1⟩
  have kk : Kept0 w w1 := ((Kept.refl _ w).alloc _).later hk1 (fun _ _ e => e)
  have hs := kk.size
  cases hb : x.b
  · rw [hb] at HV
    go_wp2_with fail
    go_ret
    exact ⟨ret_int (by have := HV.out; simpa using this.symm), (kk.alloc _)⟩
  · rw [hb] at HV
    go_wp2_with fail
    go_ret
    exact ⟨ret_int (by have := HV.out; simpa using this.symm), (kk.alloc _)⟩

theorem free_any (g t cap R C : Nat) (f : Nat → Cel) (r c : Int) (w : World) (hg : GridAt w g t cap R C f) :
    Calls Tryz.prog 159 #[.pointer (some ⟨g, 0, none⟩), .agg #[.int .i64 r, .int .i64 c]] w fun e w' => e = .returned (.int .i64 (freeE R C f r c)) ∧ Kept0 w w' := by
  by_cases h : 0 ≤ r ∧ r < R ∧ 0 ≤ c ∧ c < C
  · refine free_core _ r c (f (idx C r c)) 0 _ w (fun w' k => at_in g t cap R C f r c w' (hg.kept k (fun e => e) (fun e => e)) h) ?_
    unfold freeE
    rw [if_pos h]
  · refine free_core _ r c zc 11 _ w (fun w' k => at_out g R C r c w' (kcell k hg.c0) (kcell k hg.c1) h) ?_
    unfold freeE
    rw [if_neg h]
    rfl

theorem free_nil (r c : Int) (w : World) :
    Calls Tryz.prog 159 #[.pointer none, .agg #[.int .i64 r, .int .i64 c]] w fun e w' => e = .returned (.int .i64 2) ∧ Kept0 w w' :=
  free_core _ r c zc 2 _ w (fun w' _ => at_nil r c w') rfl

/-- A number as far to the other side of 0. -/
def opp (n : Int) : Int := -(max n (-9223372036854775807))

set_option maxHeartbeats 400000 in
theorem opposite_any (n : Int) (w : World) (h : n ≤ 9223372036854775807) :
    Calls Tryz.prog 143 #[.int .i64 n] w fun e w' => e = .returned (.int .i64 (opp n)) ∧ w = w' := by
  go_enter Tryz.func143, Tryz.ntmps143
  go_wp2
  all_goals
    go_ret
    exact ⟨ret_int (by unfold opp; omega), rfl⟩

/-- The first, and the last, of a run of numbers of which none is taken. -/
def lo (p : Nat → Bool) : Nat → Nat
  | 0 => 0
  | c + 1 => if p c = true then c + 1 else lo p c
def hi (p : Nat → Bool) : Nat → Nat → Nat
  | 0, c => c
  | n + 1, c => if p (c + 1) = true then c else hi p n (c + 1)
theorem lo_le (p : Nat → Bool) : ∀ c, lo p c ≤ c
  | 0 => Nat.le_refl _
  | c + 1 => by
    unfold lo
    split
    · exact Nat.le_refl _
    · exact Nat.le_trans (lo_le p c) (by omega)
theorem hi_le (p : Nat → Bool) : ∀ n c, c ≤ hi p n c ∧ hi p n c ≤ c + n
  | 0, c => ⟨Nat.le_refl _, Nat.le_refl _⟩
  | n + 1, c => by
    unfold hi
    split
    · exact ⟨Nat.le_refl _, by omega⟩
    · have := hi_le p n (c + 1)
      exact ⟨by omega, by omega⟩

/-- Whether a column of a row is guarded. -/
def gd (C : Nat) (f : Nat → Cel) (r : Nat) (c : Nat) : Bool := (f (r * C + c)).b

theorem freeE_at (R C : Nat) (f : Nat → Cel) (r c : Nat) (hr : r < R) (hc : c < C) : freeE R C f (r : Int) (c : Int) = if gd C f r c = true then 15 else 0 := by
  unfold freeE
  rw [if_pos ⟨by omega, by omega, by omega, by omega⟩]
  have e : idx C (r : Int) (c : Int) = r * C + c := by simp [idx]
  rw [e]
  rfl

set_option maxHeartbeats 1000000 in
theorem grow_left (bx pb g t cap R C : Nat) (f : Nat → Cel) (r c : Nat) (pc : Value) (w : World) (hg : GridAt w g t cap R C f) (hr : r < R) (hc : c < C) (hb : w.cell? ⟨bx, 0, none⟩ = some (.pointer (some ⟨g, 0, none⟩))) (hp : w.cell? ⟨pb, 0, none⟩ = some (.int .i64 (r : Int))) (hp1 : w.cell? ⟨pb, 1, none⟩ = some pc) :
    Calls Tryz.prog 160 #[.int .i64 (c : Int), .int .i64 (-1), .pointer (some ⟨bx, 0, none⟩), .pointer (some ⟨pb, 0, none⟩)] w fun e w' => e = .returned (.int .i64 (lo (gd C f r) c : Int)) ∧ Kept0 w w' := by
  have hC2 := hg.C2
  obtain ⟨V, hV⟩ : ∃ V, V = lo (gd C f r) c := ⟨_, rfl⟩
  rw [← hV]
  have HV := Lib.hid hV
  clear hV
  go_enter Tryz.func160, Tryz.ntmps160
  go_wp2
  refine wp_scope_jumps 0 (fun a' w' => Kept0 w w' ∧ ∃ (u7 u8 u9 u10 u11 u12 u13 u14 u15 u16 u17 u18 u19 : Value), a' = { tmps := #[.int .i64 (V : Int), .int .i64 (-1), .pointer (some ⟨bx, 0, none⟩), .pointer (some ⟨pb, 0, none⟩), undef, undef, .int .i64 0, u7, u8, u9, u10, u11, u12, u13, u14, u15, u16, u17, u18, u19], defers := [] }) (fun _ _ => 0) rfl ?_ ?_
  · go_wp2
    go_loopw [0] (fun s0 wr => ∃ k : Nat, k ≤ c ∧ s0 = .int .i64 k ∧ Hid (lo (gd C f r) k = V) ∧ Kept0 w wr) (fun s0 _ => (intOf s0).toNat)
    case atStart => exact ⟨c, Nat.le_refl _, rfl, HV.out.symm, Kept.refl _ _⟩
    case round =>
      obtain ⟨k, hk, rfl, HK, hkp⟩ := hrel
      have hb1 := kcell hkp hb
      have hp2 := kcell hkp hp
      have hp3 := kcell hkp hp1
      have hg1 := hg.kept hkp (fun e => e) (fun e => e)
      rcases Nat.eq_zero_or_pos k with rfl | hpos
      · have HE : Hid (freeE R C f (r : Int) (-1) = 11) := if_neg (by omega)
        have HK2 : Hid ((0 : Nat) = V) := HK.out
        go_wp2_with fail
        refine (free_any g t cap R C f _ _ _ hg1).mono ?_
        rw [HE.out]
        rintro e w1 ⟨rfl, hk1⟩
        go_wp2_with fail
        go_step3
        refine ⟨rfl, hkp.trans hk1, ?_⟩
        rw [← HK2.out]
        exact ⟨_, _, _, _, _, _, _, _, _, _, _, _, _, rfl⟩
      · obtain ⟨j, rfl⟩ : ∃ j, k = j + 1 := ⟨k - 1, by omega⟩
        cases hb : gd C f r j
        · have HE : Hid (freeE R C f (r : Int) ((j : Int) + 1 + -1) = 0) := by
            show _ = _
            rw [show (j : Int) + 1 + -1 = (j : Int) by omega, freeE_at R C f r j hr (by omega), hb]; rfl
          have HK2 : Hid (lo (gd C f r) j = V) := by
            have := HK.out
            unfold lo at this
            rw [hb] at this
            exact this
          clear HK hb
          go_wp2_with fail
          refine (free_any g t cap R C f _ _ _ hg1).mono ?_
          rw [HE.out]
          rintro e w1 ⟨rfl, hk1⟩
          go_wp2_with fail
          go_roundw
          case rel => exact ⟨j, by omega, by go_num, HK2, hkp.trans hk1⟩
          case measure => simp [intOf]; omega
        · have HE : Hid (freeE R C f (r : Int) ((j : Int) + 1 + -1) = 15) := by
            show _ = _
            rw [show (j : Int) + 1 + -1 = (j : Int) by omega, freeE_at R C f r j hr (by omega), hb]; rfl
          have HK2 : Hid (j + 1 = V) := by
            have := HK.out
            unfold lo at this
            rw [hb] at this
            exact this
          clear HK hb
          go_wp2_with fail
          refine (free_any g t cap R C f _ _ _ hg1).mono ?_
          rw [HE.out]
          rintro e w1 ⟨rfl, hk1⟩
          go_wp2_with fail
          go_step3
          refine ⟨rfl, hkp.trans hk1, ?_⟩
          rw [← HK2.out]
          exact ⟨_, _, _, _, _, _, _, _, _, _, _, _, _, rfl⟩
  · rintro a w1 ⟨hkp, u7, u8, u9, u10, u11, u12, u13, u14, u15, u16, u17, u18, u19, rfl⟩
    go_wp2
    change bodyPost Tryz.prog Tryz.f160 (fun e w' => e = Ending.returned (Value.int IntKind.i64 (V : Int)) ∧ Kept0 w w') Exit.ret _ _
    go_ret
    exact ⟨rfl, hkp⟩
set_option maxHeartbeats 1000000 in
theorem grow_right (bx pb g t cap R C : Nat) (f : Nat → Cel) (r c : Nat) (pc : Value) (w : World) (hg : GridAt w g t cap R C f) (hr : r < R) (hc : c < C) (hb : w.cell? ⟨bx, 0, none⟩ = some (.pointer (some ⟨g, 0, none⟩))) (hp : w.cell? ⟨pb, 0, none⟩ = some (.int .i64 (r : Int))) (hp1 : w.cell? ⟨pb, 1, none⟩ = some pc) :
    Calls Tryz.prog 160 #[.int .i64 (c : Int), .int .i64 1, .pointer (some ⟨bx, 0, none⟩), .pointer (some ⟨pb, 0, none⟩)] w fun e w' => e = .returned (.int .i64 (hi (gd C f r) (C - 1 - c) c : Int)) ∧ Kept0 w w' := by
  have hC2 := hg.C2
  obtain ⟨V, hV⟩ : ∃ V, V = hi (gd C f r) (C - 1 - c) c := ⟨_, rfl⟩
  rw [← hV]
  have HV := Lib.hid hV
  clear hV
  go_enter Tryz.func160, Tryz.ntmps160
  go_wp2
  refine wp_scope_jumps 0 (fun a' w' => Kept0 w w' ∧ ∃ (u7 u8 u9 u10 u11 u12 u13 u14 u15 u16 u17 u18 u19 : Value), a' = { tmps := #[.int .i64 (V : Int), .int .i64 1, .pointer (some ⟨bx, 0, none⟩), .pointer (some ⟨pb, 0, none⟩), undef, undef, .int .i64 0, u7, u8, u9, u10, u11, u12, u13, u14, u15, u16, u17, u18, u19], defers := [] }) (fun _ _ => 0) rfl ?_ ?_
  · go_wp2
    go_loopw [0] (fun s0 wr => ∃ k : Nat, k < C ∧ s0 = .int .i64 k ∧ Hid (hi (gd C f r) (C - 1 - k) k = V) ∧ Kept0 w wr) (fun s0 _ => C - (intOf s0).toNat)
    case atStart => exact ⟨c, hc, rfl, HV.out.symm, Kept.refl _ _⟩
    case round =>
      obtain ⟨k, hk, rfl, HK, hkp⟩ := hrel
      have hb1 := kcell hkp hb
      have hp2 := kcell hkp hp
      have hp3 := kcell hkp hp1
      have hg1 := hg.kept hkp (fun e => e) (fun e => e)
      by_cases hpos : k + 1 = C
      · have HE : Hid (freeE R C f (r : Int) ((k : Int) + 1) = 11) := if_neg (by omega)
        have HK2 : Hid (k = V) := by
          have := HK.out
          rw [show C - 1 - k = 0 by omega] at this
          exact this
        go_wp2_with fail
        refine (free_any g t cap R C f _ _ _ hg1).mono ?_
        rw [HE.out]
        rintro e w1 ⟨rfl, hk1⟩
        go_wp2_with fail
        go_step3
        refine ⟨rfl, hkp.trans hk1, ?_⟩
        rw [← HK2.out]
        exact ⟨_, _, _, _, _, _, _, _, _, _, _, _, _, rfl⟩
      · obtain ⟨n, hn⟩ : ∃ n, C - 1 - k = n + 1 := ⟨C - 2 - k, by omega⟩
        cases hb : gd C f r (k + 1)
        · have HE : Hid (freeE R C f (r : Int) ((k : Int) + 1) = 0) := by
            show _ = _
            rw [show (k : Int) + 1 = ((k + 1 : Nat) : Int) by omega, freeE_at R C f r (k + 1) hr (by omega), hb]; rfl
          have HK2 : Hid (hi (gd C f r) (C - 1 - (k + 1)) (k + 1) = V) := by
            have := HK.out
            rw [hn] at this
            unfold hi at this
            rw [hb] at this
            rw [show C - 1 - (k + 1) = n by omega]
            exact this
          clear HK hb
          go_wp2_with fail
          refine (free_any g t cap R C f _ _ _ hg1).mono ?_
          rw [HE.out]
          rintro e w1 ⟨rfl, hk1⟩
          go_wp2_with fail
          go_roundw
          case rel => exact ⟨k + 1, by omega, by go_num, HK2, hkp.trans hk1⟩
          case measure => simp [intOf]; omega
        · have HE : Hid (freeE R C f (r : Int) ((k : Int) + 1) = 15) := by
            show _ = _
            rw [show (k : Int) + 1 = ((k + 1 : Nat) : Int) by omega, freeE_at R C f r (k + 1) hr (by omega), hb]; rfl
          have HK2 : Hid (k = V) := by
            have := HK.out
            rw [hn] at this
            unfold hi at this
            rw [hb] at this
            exact this
          clear HK hb
          go_wp2_with fail
          refine (free_any g t cap R C f _ _ _ hg1).mono ?_
          rw [HE.out]
          rintro e w1 ⟨rfl, hk1⟩
          go_wp2_with fail
          go_step3
          refine ⟨rfl, hkp.trans hk1, ?_⟩
          rw [← HK2.out]
          exact ⟨_, _, _, _, _, _, _, _, _, _, _, _, _, rfl⟩
  · rintro a w1 ⟨hkp, u7, u8, u9, u10, u11, u12, u13, u14, u15, u16, u17, u18, u19, rfl⟩
    go_wp2
    change bodyPost Tryz.prog Tryz.f160 (fun e w' => e = Ending.returned (Value.int IntKind.i64 (V : Int)) ∧ Kept0 w w') Exit.ret _ _
    go_ret
    exact ⟨rfl, hkp⟩

/-- The run of columns around a place, to both sides. -/
def side (C : Nat) (f : Nat → Cel) (r c : Nat) (s : Int) : Int := if s = 1 then (hi (gd C f r) (C - 1 - c) c : Int) else (lo (gd C f r) c : Int)

set_option maxHeartbeats 1000000 in
theorem field_ok (g t cap R C : Nat) (f : Nat → Cel) (r c : Nat) (w : World) (hg : GridAt w g t cap R C f) (hr : r < R) (hc : c < C) (hb : gd C f r c = false) :
    Calls Tryz.prog 144 #[.pointer (some ⟨g, 0, none⟩), .agg #[.int .i64 (r : Int), .int .i64 (c : Int)]] w fun e w' => e = .returned (.tuple #[.int .i64 (lo (gd C f r) c : Int), .int .i64 (hi (gd C f r) (C - 1 - c) c : Int), .int .i64 0]) ∧ Kept0 w w' := by
  have HE : Hid (freeE R C f (r : Int) (c : Int) = 0) := by
    show _ = _
    rw [freeE_at R C f r c hr hc, hb]; rfl
  have HG : Hid (∀ (w1 : World) (s : Int) (bx pb : Nat), GridAt w1 g t cap R C f → w1.cell? ⟨bx, 0, none⟩ = some (.pointer (some ⟨g, 0, none⟩)) → w1.cell? ⟨pb, 0, none⟩ = some (.int .i64 (r : Int)) → w1.cell? ⟨pb, 1, none⟩ = some (.int .i64 (c : Int)) → (s = 1 ∨ s = -1) →
      Calls Tryz.prog 160 #[.int .i64 (c : Int), .int .i64 s, .pointer (some ⟨bx, 0, none⟩), .pointer (some ⟨pb, 0, none⟩)] w1 fun e w' => e = .returned (.int .i64 (side C f r c s)) ∧ Kept0 w1 w') := by
    rintro w1 s bx pb h1 h2 h3 h4 (rfl | rfl)
    · exact grow_right bx pb g t cap R C f r c _ w1 h1 hr hc h2 h3 h4
    · exact grow_left bx pb g t cap R C f r c _ w1 h1 hr hc h2 h3 h4
  have e1 : side C f r c 1 = (hi (gd C f r) (C - 1 - c) c : Int) := rfl
  have e2 : side C f r c (-1) = (lo (gd C f r) c : Int) := rfl
  rw [← e1, ← e2]
  generalize hS : side C f r c = S at *
  have HGR := Lib.hid hg
  clear e1 e2 hS hb
  go_enter Tryz.func144, Tryz.ntmps144
  go_wp2_with fail
  have k0 : Kept0 w ((w.alloc (.cells #[.pointer (some ⟨g, 0, none⟩)] 65)).alloc (.cells #[.int .i64 (r : Int), .int .i64 (c : Int)] 40)) := ((Kept.refl _ w).alloc _).alloc _
  refine (free_any g t cap R C f _ _ _ (hg.kept k0 (fun e => e) (fun e => e))).mono ?_
  rw [HE.out]
  rintro e w1 ⟨rfl, hk1⟩
  have q0 : w1.cell? ⟨w.heap.size, 0, none⟩ = some (.pointer (some ⟨g, 0, none⟩)) := kcell hk1 (by simp [go_sem])
  have q1 : w1.cell? ⟨w.heap.size + 1, 0, none⟩ = some (.int .i64 (r : Int)) := kcell hk1 (by simp [go_sem])
  have q2 : w1.cell? ⟨w.heap.size + 1, 1, none⟩ = some (.int .i64 (c : Int)) := kcell hk1 (by simp [go_sem])
  have kk : Kept0 w w1 := k0.trans hk1
  clear hk1 hg
  have hs1 : w.heap.size + 1 < w1.heap.size := World.block_lt_of_cell? w1 _ q1
  have kd : Hid (Kept0 w1 w1.drew) := (Kept.refl (fun _ => False) w1).drew
  have HG1 := Lib.hid (HGR.out.kept kk (fun e => e) (fun e => e))
  clear HGR
  go_wp2_with fail
  go_region_held3 (fun w' => w'.cell? ⟨w.heap.size, 0, none⟩ = some (.pointer (some ⟨g, 0, none⟩)) ∧ w'.cell? ⟨w.heap.size + 1, 0, none⟩ = some (.int .i64 (r : Int)) ∧ w'.cell? ⟨w.heap.size + 1, 1, none⟩ = some (.int .i64 (c : Int)) ∧ Hid (Kept0 w1 w')) (go_keep)
    (first
      | (go_at_call 160; refine (HG.out _ _ _ _ (HG1.out.kept (Hid.out (by assumption)) (fun e => e) (fun e => e)) (by assumption) (by assumption) (by assumption) (by simp)).mono ?_; rintro e w3 ⟨rfl, hk3⟩; have kn : Hid (Kept0 w1 w3) := Kept.trans (Hid.out (by assumption)) hk3; have v0 := kcell kn.out q0; have v1 := kcell kn.out q1; have v2 := kcell kn.out q2))
  all_goals
    go_wp2
    refine bodyPost_ret (v := .tuple #[.int .i64 (S (-1)), .int .i64 (S 1), .int .i64 0]) (by simp [results, Tryz.results144, go_sem]) rfl ⟨rfl, kk.trans (Hid.out (by assumption))⟩

set_option maxHeartbeats 400000 in
theorem field_no (g : Value) (gp : Option Addr) (hgp : g = .pointer gp) (r c E : Int) (w : World) (hE : ¬ E = 0)
    (hfree : ∀ w', Kept0 w w' → Calls Tryz.prog 159 #[g, .agg #[.int .i64 r, .int .i64 c]] w' fun e w'' => e = .returned (.int .i64 E) ∧ Kept0 w' w'') :
    Calls Tryz.prog 144 #[g, .agg #[.int .i64 r, .int .i64 c]] w fun e w' => e = .returned (.tuple #[.int .i64 0, .int .i64 0, .int .i64 E]) ∧ Kept0 w w' := by
  subst hgp
  have HF := Lib.hid hfree
  clear hfree
  go_enter Tryz.func144, Tryz.ntmps144
  go_wp2_with fail
  refine (HF.out _ (((Kept.refl _ w).alloc _).alloc _)).mono ?_
  rintro e w1 ⟨rfl, hk1⟩
  go_wp2_with fail
  refine bodyPost_ret (v := .tuple #[.int .i64 0, .int .i64 0, .int .i64 E]) (by simp [results, Tryz.results144, go_sem]) rfl ⟨rfl, (((Kept.refl _ w).alloc _).alloc _).later hk1 (fun _ _ e => e)⟩

theorem field_taken (g t cap R C : Nat) (f : Nat → Cel) (r c : Nat) (w : World) (hg : GridAt w g t cap R C f) (hr : r < R) (hc : c < C) (hb : gd C f r c = true) :
    Calls Tryz.prog 144 #[.pointer (some ⟨g, 0, none⟩), .agg #[.int .i64 (r : Int), .int .i64 (c : Int)]] w fun e w' => e = .returned (.tuple #[.int .i64 0, .int .i64 0, .int .i64 15]) ∧ Kept0 w w' := by
  refine field_no _ _ rfl _ _ 15 w (by omega) (fun w' k => ?_)
  have := free_any g t cap R C f (r : Int) (c : Int) w' (hg.kept k (fun e => e) (fun e => e))
  rw [freeE_at R C f r c hr hc, hb] at this
  exact this

theorem field_out (g t cap R C : Nat) (f : Nat → Cel) (r c : Int) (w : World) (hg : GridAt w g t cap R C f) (h : ¬ (0 ≤ r ∧ r < R ∧ 0 ≤ c ∧ c < C)) :
    Calls Tryz.prog 144 #[.pointer (some ⟨g, 0, none⟩), .agg #[.int .i64 r, .int .i64 c]] w fun e w' => e = .returned (.tuple #[.int .i64 0, .int .i64 0, .int .i64 11]) ∧ Kept0 w w' := by
  refine field_no _ _ rfl _ _ 11 w (by omega) (fun w' k => ?_)
  have := free_any g t cap R C f r c w' (hg.kept k (fun e => e) (fun e => e))
  rwa [show freeE R C f r c = 11 from if_neg h] at this

theorem field_nil (r c : Int) (w : World) :
    Calls Tryz.prog 144 #[.pointer none, .agg #[.int .i64 r, .int .i64 c]] w fun e w' => e = .returned (.tuple #[.int .i64 0, .int .i64 0, .int .i64 2]) ∧ Kept0 w w' :=
  field_no _ _ rfl _ _ 2 w (by omega) (fun w' _ => free_nil r c w')
end Sh
end Go.Proofs.YtkpfhgfdfndliaaGreatDoor

/-
  What Guarded, Up, Lines and Chars of package shift do.
-/
namespace Go.Proofs.YtkpfhgfdfndliaaGreatDoor
namespace Sh
open Go.RowKit

/-- How many of n cells are guarded, from one on. -/
def cnt (f : Nat → Cel) (a : Nat) : Nat → Nat
  | 0 => 0
  | n + 1 => cnt f a n + (if (f (a + n)).b = true then 1 else 0)
theorem cnt_le (f : Nat → Cel) (a : Nat) : ∀ n, cnt f a n ≤ n
  | 0 => Nat.le_refl _
  | n + 1 => by
    have := cnt_le f a n
    unfold cnt
    split <;> omega

set_option maxHeartbeats 1000000 in
theorem guarded_ok (g t cap R C : Nat) (f : Nat → Cel) (r : Nat) (w : World) (hg : GridAt w g t cap R C f) (hr : r < R) :
    Calls Tryz.prog 142 #[.pointer (some ⟨g, 0, none⟩), .int .i64 (r : Int)] w fun e w' => e = .returned (.tuple #[.int .i64 (cnt f (r * C) ((R - r) * C) : Int), .int .i64 0]) ∧ Kept0 w w' := by
  have hC1 := hg.C1
  have hC2 := hg.C2
  have hR2 := hg.R2
  have hT : Hid (There R C (r : Int) 0) := ⟨by omega, by omega, by omega, by omega⟩
  obtain ⟨V, hV⟩ : ∃ V, V = cnt f (r * C) ((R - r) * C) := ⟨_, rfl⟩
  rw [← hV]
  have HV := Lib.hid hV
  clear hV
  go_enter Tryz.func142, Tryz.ntmps142
  go_wp2_with fail
  refine (at_in g t cap R C f _ _ _ hg hT.out).mono ?_
  rintro e w1 ⟨rfl, hk1⟩
  go_wp2_with fail
  have hk1' := hk1.alloc (.cells #[.int .i32 (f (idx C (r : Int) 0)).g, .int .i64 (f (idx C (r : Int) 0)).a, .bool (f (idx C (r : Int) 0)).b, .int .i64 (f (idx C (r : Int) 0)).m] 36)
  refine (size_any g R C _ (kcell hk1' hg.c0) (kcell hk1' hg.c1)).mono ?_
  rintro e w2 ⟨rfl, hk2⟩
  replace hk2 := hk1'.trans hk2
  clear hk1 hk1'
  obtain ⟨W, hW⟩ : ∃ W, W = w2.alloc (.cells #[.int .i64 (R : Int), .int .i64 (C : Int)] 23) := ⟨_, rfl⟩
  have q0 : W.cell? ⟨w2.heap.size, 0, none⟩ = some (.int .i64 (R : Int)) := by rw [hW]; simp [go_sem]
  have q1 : W.cell? ⟨w2.heap.size, 1, none⟩ = some (.int .i64 (C : Int)) := by rw [hW]; simp [go_sem]
  have hkW : Kept0 w W := by rw [hW]; exact hk2.alloc _
  have hgW := hg.kept hkW (fun e => e) (fun e => e)
  go_wp2_with fail
  rw [← hW]
  clear hW hk2
  go_loopw [1, 8] (fun s1 s8 wr => ∃ i : Nat, r ≤ i ∧ i ≤ R ∧ s1 = .int .i64 i ∧ s8 = .int .i64 (cnt f (r * C) ((i - r) * C) : Int) ∧ Kept0 W wr) (fun s1 _ _ => R - (intOf s1).toNat)
  case atStart => exact ⟨r, Nat.le_refl _, by omega, rfl, by simp [cnt], Kept.refl _ _⟩
  case round =>
    obtain ⟨i, hi1, hi2, rfl, rfl, hkp⟩ := hrel
    have p0 := kcell hkp q0
    have p1 := kcell hkp q1
    by_cases hlt : i < R
    · go_wp2_with fail
      have hle : (i - r) * C + C ≤ 65025 := by
        have : (i - r + 1) * C ≤ 255 * 255 := Nat.mul_le_mul (by omega) (by omega)
        rw [Nat.add_mul] at this
        omega
      obtain ⟨a, ha⟩ : ∃ a, a = (i - r) * C := ⟨_, rfl⟩
      rw [← ha] at hle ⊢
      have HA := Lib.hid ha
      clear ha
      go_loopw [31, 8] (fun s31 s8 wr => ∃ c : Nat, c ≤ C ∧ s31 = .int .i64 c ∧ s8 = .int .i64 (cnt f (r * C) (a + c) : Int) ∧ Kept0 W wr) (fun s31 _ _ => C - (intOf s31).toNat)
      case atStart => exact ⟨0, by omega, rfl, by simp, hkp⟩
      case round =>
        obtain ⟨c, hc, rfl, rfl, hkp2⟩ := hrel
        by_cases hlt2 : c < C
        · have hle2 := cnt_le f (r * C) (a + c)
          have hg2 := hgW.kept hkp2 (fun e => e) (fun e => e)
          have hpos : r * C + (a + c) = i * C + c := by
            rw [HA.out, ← Nat.add_assoc, ← Nat.add_mul]; congr 2; omega
          cases hb : gd C f i c
          · have HE : Hid (freeE R C f (i : Int) (c : Int) = 0) := by
              show _ = _
              rw [freeE_at R C f i c hlt hlt2, hb]; rfl
            have HC : Hid (cnt f (r * C) (a + (c + 1)) = cnt f (r * C) (a + c)) := by
              show cnt f (r * C) (a + c + 1) = _
              rw [cnt, hpos]
              unfold gd at hb
              rw [hb]; rfl
            clear hb hpos
            generalize hm : cnt f (r * C) (a + c) = m at *
            have HM := Lib.hid hm
            clear hm
            go_wp2_with fail
            refine (free_any g t cap R C f _ _ _ hg2).mono ?_
            rw [HE.out]
            rintro e w3 ⟨rfl, hk3⟩
            go_wp2_with fail
            go_roundw
            case rel => exact ⟨c + 1, by omega, by go_num, by rw [HC.out], hkp2.trans hk3⟩
            case measure => simp [intOf]; omega
          · have HE : Hid (freeE R C f (i : Int) (c : Int) = 15) := by
              show _ = _
              rw [freeE_at R C f i c hlt hlt2, hb]; rfl
            have HC : Hid (cnt f (r * C) (a + (c + 1)) = cnt f (r * C) (a + c) + 1) := by
              show cnt f (r * C) (a + c + 1) = _
              rw [cnt, hpos]
              unfold gd at hb
              rw [hb]; rfl
            clear hb hpos
            generalize hm : cnt f (r * C) (a + c) = m at *
            have HM := Lib.hid hm
            clear hm
            go_wp2_with fail
            refine (free_any g t cap R C f _ _ _ hg2).mono ?_
            rw [HE.out]
            rintro e w3 ⟨rfl, hk3⟩
            go_wp2_with fail
            go_roundw
            case rel => exact ⟨c + 1, by omega, by go_num, by rw [HC.out]; go_num, hkp2.trans hk3⟩
            case measure => simp [intOf]; omega
        · obtain rfl : c = C := by omega
          have HC : Hid (a + c = (i + 1 - r) * c) := by
            show _ = _
            rw [HA.out, show i + 1 - r = i - r + 1 by omega, Nat.add_mul, Nat.one_mul]
          go_wp2_with fail
          go_roundw
          case rel => exact ⟨i + 1, by omega, by omega, by go_num, by rw [HC.out], hkp2⟩
          case measure => simp [intOf]; omega
    · obtain rfl : i = R := by omega
      go_wp2_with fail
      refine bodyPost_ret (v := .tuple #[.int .i64 (V : Int), .int .i64 0]) (by rw [HV.out]; simp [results, Tryz.results142, go_sem]) rfl ⟨rfl, hkW.trans hkp⟩

set_option maxHeartbeats 400000 in
theorem guarded_no (g : Value) (gp : Option Addr) (hgp : g = .pointer gp) (r E : Int) (w : World) (hE : ¬ E = 0)
    (hat : ∀ w', Kept0 w w' → Calls Tryz.prog 59 #[g, .agg #[.int .i64 r, .int .i64 0]] w' fun e w'' => e = .returned (.tuple #[(.agg #[.int .i32 zc.g, .int .i64 zc.a, .bool zc.b, .int .i64 zc.m]), .int .i64 E]) ∧ Kept0 w' w'') :
    Calls Tryz.prog 142 #[g, .int .i64 r] w fun e w' => e = .returned (.tuple #[.int .i64 0, .int .i64 E]) ∧ Kept0 w w' := by
  subst hgp
  have HF := Lib.hid hat
  clear hat
  go_enter Tryz.func142, Tryz.ntmps142
  go_wp2_with fail
  refine (HF.out _ (Kept.refl _ w)).mono ?_
  rintro e w1 ⟨rfl, hk1⟩
  go_wp2_with fail
  refine bodyPost_ret (v := .tuple #[.int .i64 0, .int .i64 E]) (by simp [results, Tryz.results142, go_sem]) rfl ⟨rfl, hk1.alloc _⟩

theorem guarded_out (g t cap R C : Nat) (f : Nat → Cel) (r : Int) (w : World) (hg : GridAt w g t cap R C f) (h : ¬ (0 ≤ r ∧ r < R)) :
    Calls Tryz.prog 142 #[.pointer (some ⟨g, 0, none⟩), .int .i64 r] w fun e w' => e = .returned (.tuple #[.int .i64 0, .int .i64 11]) ∧ Kept0 w w' :=
  guarded_no _ _ rfl r 11 w (by omega) fun w' k => at_out g R C r 0 w' (kcell k hg.c0) (kcell k hg.c1) (fun e => h ⟨e.1, e.2.1⟩)
theorem guarded_nil (r : Int) (w : World) :
    Calls Tryz.prog 142 #[.pointer none, .int .i64 r] w fun e w' => e = .returned (.tuple #[.int .i64 0, .int .i64 2]) ∧ Kept0 w w' :=
  guarded_no _ _ rfl r 2 w (by omega) fun w' _ => at_nil r 0 w'
end Sh
end Go.Proofs.YtkpfhgfdfndliaaGreatDoor

/-
  What Up, Lines and Chars of package shift do.
-/
namespace Go.Proofs.YtkpfhgfdfndliaaGreatDoor
namespace Sh
open Go.RowKit



set_option maxHeartbeats 1000000 in
theorem lines_core (T : Nat → Prop) (P : World → Prop) (gp : Option Addr) (R C r n E : Int) (x : Cel) (b : Bool) (w : World) (hT : ∀ k, T k → k < w.heap.size) (hR : 0 ≤ R ∧ R ≤ 255) (hn : n ≤ 9223372036854775807)
    (hgd : b = true → ∀ w', Kept0 w w' → Calls Tryz.prog 142 #[.pointer gp, .int .i64 r] w' fun e w'' => e = .returned (.tuple #[.int .i64 0, .int .i64 0]) ∧ Kept0 w' w'')
    (hsize : ∀ w', Kept0 w w' → Calls Tryz.prog 56 #[.pointer gp] w' fun e w'' => e = .returned (.agg #[.int .i64 R, .int .i64 C]) ∧ Kept0 w' w'')
    (hroll : ∀ w', Kept0 w w' → Calls Tryz.prog 96 #[.pointer gp, .int .i64 r, .int .i64 (R - 1), .int .i64 (opp n), x.v] w' fun e w'' => e = .returned (.int .i64 E) ∧ P w'' ∧ Kept T w' w'') :
    Calls Tryz.prog 108 #[.pointer gp, .int .i64 r, .int .i64 n, x.v, .bool b] w fun e w' => e = .returned (.int .i64 E) ∧ P w' := by
  have HS := Lib.hid hsize
  have HRL := Lib.hid hroll
  have HGD := Lib.hid hgd
  have Hs : Hid (IntKind.i64.wrap (R - 1) = R - 1) := by
    show _ = _
    rw [IntWalk.i64_left, w64 (by omega) (by omega)]
  have hfld : ∀ w, (Instr.field 23 (.agg #[.int .i64 R, .int .i64 C]) 0).run Tryz.prog w = .ok (.int .i64 R) w := fun _ => by kernel_rfl
  have HT := Lib.hid hT
  have Hn := Lib.hid hn
  clear hsize hroll hT hR hgd hn
  have hx := CelAt.new w x 36
  have FIN : ∀ (W : World), Hid (Kept0 w W) → CelAt W w.heap.size x → True := fun _ _ _ => trivial
  cases b
  · go_enter Tryz.func108, Tryz.ntmps108
    go_wp2_with fail
    obtain ⟨W, hW⟩ : ∃ W, W = w.alloc (.cells #[.int .i32 x.g, .int .i64 x.a, .bool x.b, .int .i64 x.m] 36) := ⟨_, rfl⟩
    have k0 : Kept0 w W := by rw [hW]; exact (Kept.refl _ w).alloc _
    rw [← hW] at hx ⊢
    clear hW FIN
    have KK := Lib.hid k0
    obtain ⟨z0, z1, z2, z3⟩ := hx
    have hx2 : Hid (CelAt W w.heap.size x) := ⟨z0, z1, z2, z3⟩
    clear k0
    go_region_held3 (fun w' => w'.cell? ⟨w.heap.size, 0, none⟩ = some (.int .i32 x.g) ∧ w'.cell? ⟨w.heap.size, 1, none⟩ = some (.int .i64 x.a) ∧ w'.cell? ⟨w.heap.size, 2, none⟩ = some (.bool x.b) ∧ w'.cell? ⟨w.heap.size, 3, none⟩ = some (.int .i64 x.m)) (go_keep)
      (first
        | (go_at_call 143; refine (opposite_any _ _ Hn.out).mono ?_; rintro e w5 ⟨rfl, rfl⟩)
        | (go_at_call 56; refine (HS.out _ (Kept.drew KK.out)).mono ?_; rintro e w3 ⟨rfl, hk3⟩; have kn : Hid (Kept0 W w3) := (Kept.refl _ W).drew.trans hk3; obtain ⟨v0, v1, v2, v3⟩ := hx2.out.kept kn.out (fun e => e))
        | (go_at_call 96; rw [Hs.out]; refine (HRL.out _ (KK.out.trans kn.out)).mono ?_; rintro e w4 ⟨rfl, hP, hk4⟩; obtain ⟨v0, v1, v2, v3⟩ := (hx2.out.kept kn.out (fun e => e)).kept hk4 (fun e => Nat.lt_irrefl _ (HT.out _ e))))
    all_goals
      go_wp2
      go_ret
      exact ⟨rfl, hP⟩
  · have HG1 := Lib.hid (HGD.out rfl)
    clear HGD
    go_enter Tryz.func108, Tryz.ntmps108
    go_wp2_with fail
    obtain ⟨V, hV⟩ : ∃ V, V = w.alloc (.cells #[.int .i32 x.g, .int .i64 x.a, .bool x.b, .int .i64 x.m] 36) := ⟨_, rfl⟩
    have k0 : Kept0 w V := by rw [hV]; exact (Kept.refl _ w).alloc _
    rw [← hV] at hx ⊢
    clear hV FIN
    refine (HG1.out _ k0).mono ?_
    rintro e W ⟨rfl, hk1⟩
    have KK := Lib.hid (k0.trans hk1)
    obtain ⟨z0, z1, z2, z3⟩ := hx.kept hk1 (fun e => e)
    have hx2 : Hid (CelAt W w.heap.size x) := ⟨z0, z1, z2, z3⟩
    clear k0 hk1 hx
    go_wp2_with fail
    go_region_held3 (fun w' => w'.cell? ⟨w.heap.size, 0, none⟩ = some (.int .i32 x.g) ∧ w'.cell? ⟨w.heap.size, 1, none⟩ = some (.int .i64 x.a) ∧ w'.cell? ⟨w.heap.size, 2, none⟩ = some (.bool x.b) ∧ w'.cell? ⟨w.heap.size, 3, none⟩ = some (.int .i64 x.m)) (go_keep)
      (first
        | (go_at_call 143; refine (opposite_any _ _ Hn.out).mono ?_; rintro e w5 ⟨rfl, rfl⟩)
        | (go_at_call 56; refine (HS.out _ (Kept.drew KK.out)).mono ?_; rintro e w3 ⟨rfl, hk3⟩; have kn : Hid (Kept0 W w3) := (Kept.refl _ W).drew.trans hk3; obtain ⟨v0, v1, v2, v3⟩ := hx2.out.kept kn.out (fun e => e))
        | (go_at_call 96; rw [Hs.out]; refine (HRL.out _ (KK.out.trans kn.out)).mono ?_; rintro e w4 ⟨rfl, hP, hk4⟩; obtain ⟨v0, v1, v2, v3⟩ := (hx2.out.kept kn.out (fun e => e)).kept hk4 (fun e => Nat.lt_irrefl _ (HT.out _ e))))
    all_goals
      go_wp2
      go_ret
      exact ⟨rfl, hP⟩

set_option maxHeartbeats 400000 in
theorem lines_stop (gp : Option Addr) (r n E : Int) (k : Int) (x : Cel) (w : World) (hE : ¬ E = 0 ∨ 0 < k)
    (hgd : ∀ w', Kept0 w w' → Calls Tryz.prog 142 #[.pointer gp, .int .i64 r] w' fun e w'' => e = .returned (.tuple #[.int .i64 k, .int .i64 E]) ∧ Kept0 w' w'') :
    Calls Tryz.prog 108 #[.pointer gp, .int .i64 r, .int .i64 n, x.v, .bool true] w fun e w' => e = .returned (.int .i64 E) ∧ Kept0 w w' := by
  have HGD := Lib.hid hgd
  clear hgd
  rcases hE with hE | hE
  · go_enter Tryz.func108, Tryz.ntmps108
    go_wp2_with fail
    refine (HGD.out _ ((Kept.refl _ w).alloc _)).mono ?_
    rintro e W ⟨rfl, hk1⟩
    go_wp2_with fail
    go_ret
    exact ⟨rfl, ((Kept.refl _ w).alloc _).trans hk1⟩
  · by_cases h0 : E = 0
    · subst h0
      go_enter Tryz.func108, Tryz.ntmps108
      go_wp2_with fail
      refine (HGD.out _ ((Kept.refl _ w).alloc _)).mono ?_
      rintro e W ⟨rfl, hk1⟩
      go_wp2_with fail
      go_ret
      exact ⟨rfl, ((Kept.refl _ w).alloc _).trans hk1⟩
    · go_enter Tryz.func108, Tryz.ntmps108
      go_wp2_with fail
      refine (HGD.out _ ((Kept.refl _ w).alloc _)).mono ?_
      rintro e W ⟨rfl, hk1⟩
      go_wp2_with fail
      go_ret
      exact ⟨rfl, ((Kept.refl _ w).alloc _).trans hk1⟩

set_option maxHeartbeats 1000000 in
theorem chars_core (T : Nat → Prop) (P : World → Prop) (gp : Option Addr) (R C r c n E L fr : Int) (x : Cel) (b : Bool) (w : World) (hT : ∀ k, T k → k < w.heap.size) (hC : 0 ≤ C ∧ C ≤ 255) (hn : n ≤ 9223372036854775807)
    (hL : b = false → L = C - 1)
    (hgd : b = true → ∀ w', Kept0 w w' → Calls Tryz.prog 144 #[.pointer gp, .agg #[.int .i64 r, .int .i64 c]] w' fun e w'' => e = .returned (.tuple #[.int .i64 fr, .int .i64 L, .int .i64 0]) ∧ Kept0 w' w'')
    (hsize : ∀ w', Kept0 w w' → Calls Tryz.prog 56 #[.pointer gp] w' fun e w'' => e = .returned (.agg #[.int .i64 R, .int .i64 C]) ∧ Kept0 w' w'')
    (hslide : ∀ w', Kept0 w w' → Calls Tryz.prog 145 #[.pointer gp, .int .i64 r, .int .i64 c, .int .i64 L, .int .i64 (opp n), x.v] w' fun e w'' => e = .returned (.int .i64 E) ∧ P w'' ∧ Kept T w' w'') :
    Calls Tryz.prog 109 #[.pointer gp, .agg #[.int .i64 r, .int .i64 c], .int .i64 n, x.v, .bool b] w fun e w' => e = .returned (.int .i64 E) ∧ P w' := by
  have HS := Lib.hid hsize
  have HRL := Lib.hid hslide
  have HGD := Lib.hid hgd
  have HL := Lib.hid hL
  have Hs : wrap64 (C - 1) = C - 1 := w64 (by omega) (by omega)
  have Hs2 : IntKind.i64.wrap (C - 1) = C - 1 := by rw [IntWalk.i64_left]; exact Hs
  have hfld : ∀ w, (Instr.field 23 (.agg #[.int .i64 R, .int .i64 C]) 1).run Tryz.prog w = .ok (.int .i64 C) w := fun _ => by kernel_rfl
  have HT := Lib.hid hT
  have Hn := Lib.hid hn
  clear hsize hslide hT hgd hn hL
  have hp0 : ∀ o, ((w.alloc (.cells #[.int .i64 r, .int .i64 c] 40)).alloc o).cell? ⟨w.heap.size, 0, none⟩ = some (.int .i64 r) := fun o => by simp [go_sem]
  have hp1 : ∀ o, ((w.alloc (.cells #[.int .i64 r, .int .i64 c] 40)).alloc o).cell? ⟨w.heap.size, 1, none⟩ = some (.int .i64 c) := fun o => by simp [go_sem]
  have hx := CelAt.new (w.alloc (.cells #[.int .i64 r, .int .i64 c] 40)) x 36
  rw [World.size_alloc] at hx
  go_enter Tryz.func109, Tryz.ntmps109
  go_wp2_with fail
  obtain ⟨V, hV⟩ : ∃ V, V = (w.alloc (.cells #[.int .i64 r, .int .i64 c] 40)).alloc (.cells #[.int .i32 x.g, .int .i64 x.a, .bool x.b, .int .i64 x.m] 36) := ⟨_, rfl⟩
  have k0 : Kept0 w V := by rw [hV]; exact ((Kept.refl _ w).alloc _).alloc _
  replace hp0 : V.cell? ⟨w.heap.size, 0, none⟩ = some (.int .i64 r) := by rw [hV]; exact hp0 _
  replace hp1 : V.cell? ⟨w.heap.size, 1, none⟩ = some (.int .i64 c) := by rw [hV]; exact hp1 _
  rw [← hV] at hx ⊢
  clear hV
  refine (HS.out _ k0).mono ?_
  rintro e V1 ⟨rfl, hk1⟩
  replace hp0 := kcell hk1 hp0
  replace hp1 := kcell hk1 hp1
  replace hx := hx.kept hk1 (fun e => e)
  replace k0 := k0.trans hk1
  clear hk1
  cases b
  · have hL2 := HL.out rfl
    clear HL
    subst hL2
    go_wp2_with fail
    have KK := Lib.hid k0
    obtain ⟨z0, z1, z2, z3⟩ := hx
    have hx2 : Hid (CelAt V1 (w.heap.size + 1) x) := ⟨z0, z1, z2, z3⟩
    clear k0
    go_region_held3 (fun w' => w'.cell? ⟨w.heap.size, 0, none⟩ = some (.int .i64 r) ∧ w'.cell? ⟨w.heap.size, 1, none⟩ = some (.int .i64 c) ∧ w'.cell? ⟨w.heap.size + 1, 0, none⟩ = some (.int .i32 x.g) ∧ w'.cell? ⟨w.heap.size + 1, 1, none⟩ = some (.int .i64 x.a) ∧ w'.cell? ⟨w.heap.size + 1, 2, none⟩ = some (.bool x.b) ∧ w'.cell? ⟨w.heap.size + 1, 3, none⟩ = some (.int .i64 x.m)) (go_keep)
      (first
        | (go_at_call 143; refine (opposite_any _ _ Hn.out).mono ?_; rintro e w5 ⟨rfl, rfl⟩)
        | (go_at_call 145; refine (HRL.out _ (Kept.drew KK.out)).mono ?_; rintro e w4 ⟨rfl, hP, hk4⟩; obtain ⟨v0, v1, v2, v3⟩ := (CelAt.drew hx2.out).kept hk4 (fun e => by have := HT.out _ e; omega); have u0 := kcellS hk4 (show V1.drew.cell? _ = _ from hp0) (fun e => Nat.lt_irrefl _ (HT.out _ e)); have u1 := kcellS hk4 (show V1.drew.cell? _ = _ from hp1) (fun e => Nat.lt_irrefl _ (HT.out _ e))))
    all_goals
      go_wp2
      go_ret
      exact ⟨rfl, hP⟩
  · clear HL
    have HG1 := Lib.hid (HGD.out rfl)
    clear HGD
    go_wp2_with fail
    refine (HG1.out _ k0).mono ?_
    rintro e V2 ⟨rfl, hk1⟩
    have KK := Lib.hid (k0.trans hk1)
    obtain ⟨z0, z1, z2, z3⟩ := hx.kept hk1 (fun e => e)
    replace hp0 := kcell hk1 hp0
    replace hp1 := kcell hk1 hp1
    have hx2 : Hid (CelAt V2 (w.heap.size + 1) x) := ⟨z0, z1, z2, z3⟩
    clear k0 hk1 hx
    go_wp2_with fail
    go_region_held3 (fun w' => w'.cell? ⟨w.heap.size, 0, none⟩ = some (.int .i64 r) ∧ w'.cell? ⟨w.heap.size, 1, none⟩ = some (.int .i64 c) ∧ w'.cell? ⟨w.heap.size + 1, 0, none⟩ = some (.int .i32 x.g) ∧ w'.cell? ⟨w.heap.size + 1, 1, none⟩ = some (.int .i64 x.a) ∧ w'.cell? ⟨w.heap.size + 1, 2, none⟩ = some (.bool x.b) ∧ w'.cell? ⟨w.heap.size + 1, 3, none⟩ = some (.int .i64 x.m)) (go_keep)
      (first
        | (go_at_call 143; refine (opposite_any _ _ Hn.out).mono ?_; rintro e w5 ⟨rfl, rfl⟩)
        | (go_at_call 145; refine (HRL.out _ (Kept.drew KK.out)).mono ?_; rintro e w4 ⟨rfl, hP, hk4⟩; obtain ⟨v0, v1, v2, v3⟩ := (CelAt.drew hx2.out).kept hk4 (fun e => by have := HT.out _ e; omega); have u0 := kcellS hk4 (show V2.drew.cell? _ = _ from hp0) (fun e => Nat.lt_irrefl _ (HT.out _ e)); have u1 := kcellS hk4 (show V2.drew.cell? _ = _ from hp1) (fun e => Nat.lt_irrefl _ (HT.out _ e))))
    all_goals
      go_wp2
      go_ret
      exact ⟨rfl, hP⟩

set_option maxHeartbeats 400000 in
theorem chars_stop (gp : Option Addr) (R C r c n E fr to : Int) (x : Cel) (w : World) (hE : ¬ E = 0)
    (hgd : ∀ w', Kept0 w w' → Calls Tryz.prog 144 #[.pointer gp, .agg #[.int .i64 r, .int .i64 c]] w' fun e w'' => e = .returned (.tuple #[.int .i64 fr, .int .i64 to, .int .i64 E]) ∧ Kept0 w' w'')
    (hsize : ∀ w', Kept0 w w' → Calls Tryz.prog 56 #[.pointer gp] w' fun e w'' => e = .returned (.agg #[.int .i64 R, .int .i64 C]) ∧ Kept0 w' w'') :
    Calls Tryz.prog 109 #[.pointer gp, .agg #[.int .i64 r, .int .i64 c], .int .i64 n, x.v, .bool true] w fun e w' => e = .returned (.int .i64 (if E = 15 then 0 else E)) ∧ Kept0 w w' := by
  have HS := Lib.hid hsize
  have HGD := Lib.hid hgd
  have hfld : ∀ w, (Instr.field 23 (.agg #[.int .i64 R, .int .i64 C]) 1).run Tryz.prog w = .ok (.int .i64 C) w := fun _ => by kernel_rfl
  clear hsize hgd
  obtain ⟨D, hD⟩ : ∃ D, D = if E = 15 then 0 else E := ⟨_, rfl⟩
  rw [← hD]
  have HD := Lib.hid hD
  clear hD
  have hp0 : ∀ o, ((w.alloc (.cells #[.int .i64 r, .int .i64 c] 40)).alloc o).cell? ⟨w.heap.size, 0, none⟩ = some (.int .i64 r) := fun o => by simp [go_sem]
  have hp1 : ∀ o, ((w.alloc (.cells #[.int .i64 r, .int .i64 c] 40)).alloc o).cell? ⟨w.heap.size, 1, none⟩ = some (.int .i64 c) := fun o => by simp [go_sem]
  go_enter Tryz.func109, Tryz.ntmps109
  go_wp2_with fail
  obtain ⟨V, hV⟩ : ∃ V, V = (w.alloc (.cells #[.int .i64 r, .int .i64 c] 40)).alloc (.cells #[.int .i32 x.g, .int .i64 x.a, .bool x.b, .int .i64 x.m] 36) := ⟨_, rfl⟩
  have k0 : Kept0 w V := by rw [hV]; exact ((Kept.refl _ w).alloc _).alloc _
  replace hp0 : V.cell? ⟨w.heap.size, 0, none⟩ = some (.int .i64 r) := by rw [hV]; exact hp0 _
  replace hp1 : V.cell? ⟨w.heap.size, 1, none⟩ = some (.int .i64 c) := by rw [hV]; exact hp1 _
  rw [← hV]
  clear hV
  refine (HS.out _ k0).mono ?_
  rintro e V1 ⟨rfl, hk1⟩
  replace hp0 := kcell hk1 hp0
  replace hp1 := kcell hk1 hp1
  replace k0 := k0.trans hk1
  clear hk1
  by_cases h15 : E = 15
  · subst h15
    go_wp2_with fail
    refine (HGD.out _ k0).mono ?_
    rintro e V2 ⟨rfl, hk1⟩
    go_wp2_with fail
    go_ret
    exact ⟨ret_int HD.out.symm, k0.trans hk1⟩
  · go_wp2_with fail
    refine (HGD.out _ k0).mono ?_
    rintro e V2 ⟨rfl, hk1⟩
    go_wp2_with fail
    go_ret
    exact ⟨ret_int (by rw [HD.out, if_neg h15]), k0.trans hk1⟩
end Sh
end Go.Proofs.YtkpfhgfdfndliaaGreatDoor

/-
  What Up, Lines and Chars of package shift come to, over all that they may be called with.
-/
namespace Go.Proofs.YtkpfhgfdfndliaaGreatDoor
namespace Sh
open Go.RowKit




def linesE (R : Nat) (r : Int) : Int := if 0 ≤ r ∧ r < R then 0 else 11
/-- Lines at a row, n of them. -/
def linesF (R C : Nat) (f : Nat → Cel) (r n : Int) (x : Cel) (b : Bool) : Nat → Cel :=
  if (0 ≤ r ∧ r < R) ∧ (b = true → cnt f (r.toNat * C) ((R - r.toNat) * C) = 0) then moveF f (r.toNat * C) ((R - r.toNat) * C) (opp n * C) x else f
def charsE (R C : Nat) (r c : Int) : Int := if 0 ≤ r ∧ r < R ∧ 0 ≤ c ∧ c < C then 0 else 11
/-- The last column that is moved. -/
def lastC (C : Nat) (f : Nat → Cel) (r c : Nat) (b : Bool) : Nat := if b = true then hi (gd C f r) (C - 1 - c) c else C - 1
/-- Cells at a place, n of them. -/
def charsF (R C : Nat) (f : Nat → Cel) (r c n : Int) (x : Cel) (b : Bool) : Nat → Cel :=
  if (0 ≤ r ∧ r < R ∧ 0 ≤ c ∧ c < C) ∧ ¬ (b = true ∧ gd C f r.toNat c.toNat = true) then moveF f (idx C r c) (lastC C f r.toNat c.toNat b + 1 - c.toNat) (opp n) x else f


theorem lines_any (g t cap R C : Nat) (f : Nat → Cel) (r n : Int) (x : Cel) (b : Bool) (w : World) (hg : GridAt w g t cap R C f) (hn : n ≤ 9223372036854775807) :
    Calls Tryz.prog 108 #[.pointer (some ⟨g, 0, none⟩), .int .i64 r, .int .i64 n, x.v, .bool b] w fun e w' => e = .returned (.int .i64 (linesE R r)) ∧ GridAt w' g t cap R C (linesF R C f r n x b) ∧ Kept (· = t) w w' := by
  have hR1 := hg.R1
  have hR2 := hg.R2
  have hl := hg.row.lt
  by_cases hr : 0 ≤ r ∧ r < R
  · rw [show linesE R r = 0 from if_pos hr]
    by_cases hb : b = true → cnt f (r.toNat * C) ((R - r.toNat) * C) = 0
    · rw [show linesF R C f r n x b = moveF f (r.toNat * C) ((R - r.toNat) * C) (opp n * C) x from if_pos ⟨hr, hb⟩]
      refine lines_core (· = t) _ _ (R : Int) (C : Int) r n 0 x b w (fun k e => by omega) ⟨by omega, by omega⟩ hn (fun e w' k => ?_) (fun w' k => size_any g R C w' (kcell k hg.c0) (kcell k hg.c1)) (fun w' k => ?_)
      · have := guarded_ok g t cap R C f r.toNat w' (hg.kept k (fun e => e) (fun e => e)) (by omega)
        rw [hb e, Int.toNat_of_nonneg hr.1] at this
        exact this
      · refine (roll_in g t cap R C f r ((R : Int) - 1) (opp n) x w' (hg.kept k (fun e => e) (fun e => e)) (by omega) (by omega) (by omega) (by omega) (by omega)).mono ?_
        rintro e w2 ⟨rfl, h2, k2⟩
        refine ⟨rfl, ⟨h2.congr (fun j hj => ?_), (Kept0.to k).trans k2⟩, k2⟩
        have e1 : ((R : Int) - 1 - r + 1) = ((R - r.toNat : Nat) : Int) := by omega
        rw [e1]
        simp only [Int.toNat_natCast]
        exact moveF_bndC f _ _ C _ x j hg.C1
    · rw [show linesF R C f r n x b = f from if_neg (fun e => hb e.2)]
      obtain ⟨rfl, hc⟩ : b = true ∧ ¬ cnt f (r.toNat * C) ((R - r.toNat) * C) = 0 := by
        constructor
        · cases b
          · exact (hb (fun e => by cases e)).elim
          · rfl
        · exact fun e => hb (fun _ => e)
      refine (lines_stop (some ⟨g, 0, none⟩) r n 0 (cnt f (r.toNat * C) ((R - r.toNat) * C) : Int) x w (Or.inr (by omega)) (fun w' k => ?_)).mono ?_
      · have := guarded_ok g t cap R C f r.toNat w' (hg.kept k (fun e => e) (fun e => e)) (by omega)
        rw [Int.toNat_of_nonneg hr.1] at this
        exact this
      · rintro e w2 ⟨rfl, k2⟩
        exact ⟨rfl, hg.kept k2 (fun e => e) (fun e => e), Kept0.to k2⟩
  · rw [show linesE R r = 11 from if_neg hr, show linesF R C f r n x b = f from if_neg (fun e => hr e.1)]
    cases b
    · refine lines_core (· = t) _ _ (R : Int) (C : Int) r n 11 x false w (fun k e => by omega) ⟨by omega, by omega⟩ hn (fun e w' k => by cases e) (fun w' k => size_any g R C w' (kcell k hg.c0) (kcell k hg.c1)) (fun w' k => ?_)
      refine (roll_out g t cap R C f r ((R : Int) - 1) (opp n) x w' (hg.kept k (fun e => e) (fun e => e)) (Or.inl hr)).mono ?_
      rintro e w2 ⟨rfl, k2⟩
      exact ⟨rfl, ⟨hg.kept (k.trans k2) (fun e => e) (fun e => e), Kept0.to (k.trans k2)⟩, Kept0.to k2⟩
    · refine (lines_stop (some ⟨g, 0, none⟩) r n 11 0 x w (Or.inl (by omega)) (fun w' k => guarded_out g t cap R C f r w' (hg.kept k (fun e => e) (fun e => e)) hr)).mono ?_
      rintro e w2 ⟨rfl, k2⟩
      exact ⟨rfl, hg.kept k2 (fun e => e) (fun e => e), Kept0.to k2⟩

theorem chars_any (g t cap R C : Nat) (f : Nat → Cel) (r c n : Int) (x : Cel) (b : Bool) (w : World) (hg : GridAt w g t cap R C f) (hn : n ≤ 9223372036854775807) :
    Calls Tryz.prog 109 #[.pointer (some ⟨g, 0, none⟩), .agg #[.int .i64 r, .int .i64 c], .int .i64 n, x.v, .bool b] w fun e w' => e = .returned (.int .i64 (charsE R C r c)) ∧ GridAt w' g t cap R C (charsF R C f r c n x b) ∧ Kept (· = t) w w' := by
  have hC1 := hg.C1
  have hC2 := hg.C2
  have hl := hg.row.lt
  by_cases hr : 0 ≤ r ∧ r < R ∧ 0 ≤ c ∧ c < C
  · rw [show charsE R C r c = 0 from if_pos hr]
    obtain ⟨h1, h2, h3, h4⟩ := hr
    by_cases hb : b = true ∧ gd C f r.toNat c.toNat = true
    · rw [show charsF R C f r c n x b = f from if_neg (fun e => e.2 hb)]
      obtain ⟨rfl, hb⟩ := hb
      refine (chars_stop (some ⟨g, 0, none⟩) (R : Int) (C : Int) r c n 15 0 0 x w (by omega) (fun w' k => ?_) (fun w' k => size_any g R C w' (kcell k hg.c0) (kcell k hg.c1))).mono ?_
      · have := field_taken g t cap R C f r.toNat c.toNat w' (hg.kept k (fun e => e) (fun e => e)) (by omega) (by omega) hb
        rw [Int.toNat_of_nonneg h1, Int.toNat_of_nonneg h3] at this
        exact this
      · rintro e w2 ⟨rfl, k2⟩
        exact ⟨rfl, hg.kept k2 (fun e => e) (fun e => e), Kept0.to k2⟩
    · rw [show charsF R C f r c n x b = moveF f (idx C r c) (lastC C f r.toNat c.toNat b + 1 - c.toNat) (opp n) x from if_pos ⟨⟨h1, h2, h3, h4⟩, hb⟩]
      have hla : c.toNat ≤ lastC C f r.toNat c.toNat b ∧ lastC C f r.toNat c.toNat b < C := by
        unfold lastC
        split
        · have := hi_le (gd C f r.toNat) (C - 1 - c.toNat) c.toNat
          omega
        · omega
      refine chars_core (· = t) _ _ (R : Int) (C : Int) r c n 0 (lastC C f r.toNat c.toNat b : Int) (lo (gd C f r.toNat) c.toNat : Int) x b w (fun k e => by omega) ⟨by omega, by omega⟩ hn (fun e => ?_) (fun e w' k => ?_) (fun w' k => size_any g R C w' (kcell k hg.c0) (kcell k hg.c1)) (fun w' k => ?_)
      · subst e
        unfold lastC
        rw [if_neg (by decide)]
        omega
      · subst e
        have hgd : gd C f r.toNat c.toNat = false := Bool.eq_false_iff.2 (fun h => hb ⟨rfl, h⟩)
        have := field_ok g t cap R C f r.toNat c.toNat w' (hg.kept k (fun e => e) (fun e => e)) (by omega) (by omega) hgd
        rw [Int.toNat_of_nonneg h1, Int.toNat_of_nonneg h3] at this
        exact this
      · have hle : idx C r c ≤ idx C r (lastC C f r.toNat c.toNat b : Int) := by
          simp only [idx, Int.toNat_natCast]; omega
        refine (slide_in g t cap R C f r c (lastC C f r.toNat c.toNat b : Int) (opp n) x w' (hg.kept k (fun e => e) (fun e => e)) ⟨h1, h2, h3, h4⟩ ⟨h1, h2, by omega, by omega⟩ hle).mono ?_
        rintro e w2 ⟨rfl, h2, k2⟩
        refine ⟨rfl, ⟨h2.congr (fun j hj => ?_), (Kept0.to k).trans k2⟩, k2⟩
        rw [moveF_bnd]
        congr 1
        simp only [idx, Int.toNat_natCast]
        omega
  · rw [show charsE R C r c = 11 from if_neg hr, show charsF R C f r c n x b = f from if_neg (fun e => hr e.1)]
    cases b
    · refine chars_core (· = t) _ _ (R : Int) (C : Int) r c n 11 ((C : Int) - 1) 0 x false w (fun k e => by omega) ⟨by omega, by omega⟩ hn (fun _ => rfl) (fun e w' k => by cases e) (fun w' k => size_any g R C w' (kcell k hg.c0) (kcell k hg.c1)) (fun w' k => ?_)
      refine (slide_out g R C r c ((C : Int) - 1) (opp n) x w' (kcell k hg.c0) (kcell k hg.c1) (Or.inl hr)).mono ?_
      rintro e w2 ⟨rfl, k2⟩
      exact ⟨rfl, ⟨hg.kept (k.trans k2) (fun e => e) (fun e => e), Kept0.to (k.trans k2)⟩, Kept0.to k2⟩
    · refine (chars_stop (some ⟨g, 0, none⟩) (R : Int) (C : Int) r c n 11 0 0 x w (by omega) (fun w' k => field_out g t cap R C f r c w' (hg.kept k (fun e => e) (fun e => e)) hr) (fun w' k => size_any g R C w' (kcell k hg.c0) (kcell k hg.c1))).mono ?_
      rintro e w2 ⟨rfl, k2⟩
      exact ⟨rfl, hg.kept k2 (fun e => e) (fun e => e), Kept0.to k2⟩

/-- Of a nil grid. -/
theorem up_nil (n : Int) (x : Cel) (w : World) : Calls Tryz.prog 58 #[.pointer none, .int .i64 n, x.v] w fun e w' => e = .returned (.int .i64 2) ∧ Kept0 w w' :=
  up_core (fun _ => False) _ _ 0 0 n 2 x w (fun k e => e.elim) ⟨by omega, by omega⟩ (fun w' _ => size_nil w') (fun w' k => (roll_nil 0 (0 - 1) n x w').mono (by
    rintro e w2 ⟨rfl, k2⟩
    exact ⟨rfl, k.trans k2, k2⟩))
theorem lines_nil (r n : Int) (x : Cel) (w : World) : Calls Tryz.prog 108 #[.pointer none, .int .i64 r, .int .i64 n, x.v, .bool true] w fun e w' => e = .returned (.int .i64 2) ∧ Kept0 w w' :=
  lines_stop none r n 2 0 x w (Or.inl (by omega)) (fun w' _ => guarded_nil r w')
theorem chars_nil (r c n : Int) (x : Cel) (b : Bool) (w : World) (hn : n ≤ 9223372036854775807) : Calls Tryz.prog 109 #[.pointer none, .agg #[.int .i64 r, .int .i64 c], .int .i64 n, x.v, .bool b] w fun e w' => e = .returned (.int .i64 2) ∧ Kept0 w w' := by
  cases b
  · exact chars_core (fun _ => False) _ none 0 0 r c n 2 (0 - 1) 0 x false w (fun k e => e.elim) ⟨by omega, by omega⟩ hn (fun _ => rfl) (fun e w' k => by cases e) (fun w' _ => size_nil w') (fun w' k => (slide_nil r c (0 - 1) (opp n) x w').mono (by
      rintro e w2 ⟨rfl, k2⟩
      exact ⟨rfl, k.trans k2, k2⟩))
  · exact chars_stop none 0 0 r c n 2 0 0 x w (by omega) (fun w' _ => field_nil r c w') (fun w' _ => size_nil w')
end Sh
end Go.Proofs.YtkpfhgfdfndliaaGreatDoor
