/-
  What the small calls of package shift do: free, opposite, the run of a field.
-/
import Derived.Test.YtljfbocjnpnaiaaRoll
import Derived.ScopeJumps
import Derived.WalkMore
namespace Go.Proofs.Ytljfbocjnpnaiaa
open Go.RowKit

/-- Why a cell is none of a field. -/
def freeE (R C : Nat) (f : Nat → Cel) (r c : Int) : Int := if 0 ≤ r ∧ r < R ∧ 0 ≤ c ∧ c < C then (if (f (idx C r c)).b = true then 15 else 0) else 11

set_option maxHeartbeats 400000 in
theorem free_core (g : Value) (r c : Int) (x : Cel) (E V : Int) (w : World)
    (hat : ∀ w', Kept0 w w' → Calls Try.prog 28 #[g, .agg #[.int .i64 r, .int .i64 c]] w' fun e w'' => e = .returned (.tuple #[(.agg #[.int .i32 x.g, .int .i64 x.a, .bool x.b, .int .i64 x.m]), .int .i64 E]) ∧ Kept0 w' w'') (hV : V = if x.b = true then 15 else E) :
    Calls Try.prog 33 #[g, .agg #[.int .i64 r, .int .i64 c]] w fun e w' => e = .returned (.int .i64 V) ∧ Kept0 w w' := by
  have HA := Lib.hid hat
  have HV := Lib.hid hV
  clear hat hV
  go_enter Try.func33, Try.ntmps33
  go_wp2_with fail
  refine (HA.out _ ((Kept.refl _ w).alloc _)).mono ?_
  rintro e w1 ⟨rfl, hk1⟩
  have kk : Kept0 w w1 := ((Kept.refl _ w).alloc _).later hk1 (fun _ _ e => e)
  have hs := kk.size
  cases hb : x.b
  · rw [hb] at HV
    go_wp2_with fail
    go_ret
    exact ⟨ret_int (by have := HV.out; simpa using this.symm), (kk.alloc _)⟩
  · rw [hb] at HV
    go_wp2_with fail
    go_ret
    exact ⟨ret_int (by have := HV.out; simpa using this.symm), (kk.alloc _)⟩

theorem free_any (g t cap R C : Nat) (f : Nat → Cel) (r c : Int) (w : World) (hg : GridAt w g t cap R C f) :
    Calls Try.prog 33 #[.pointer (some ⟨g, 0, none⟩), .agg #[.int .i64 r, .int .i64 c]] w fun e w' => e = .returned (.int .i64 (freeE R C f r c)) ∧ Kept0 w w' := by
  by_cases h : 0 ≤ r ∧ r < R ∧ 0 ≤ c ∧ c < C
  · refine free_core _ r c (f (idx C r c)) 0 _ w (fun w' k => at_in g t cap R C f r c w' (hg.kept k (fun e => e) (fun e => e)) h) ?_
    unfold freeE
    rw [if_pos h]
  · refine free_core _ r c zc 11 _ w (fun w' k => at_out g R C r c w' (kcell k hg.c0) (kcell k hg.c1) h) ?_
    unfold freeE
    rw [if_neg h]
    rfl

theorem free_nil (r c : Int) (w : World) :
    Calls Try.prog 33 #[.pointer none, .agg #[.int .i64 r, .int .i64 c]] w fun e w' => e = .returned (.int .i64 2) ∧ Kept0 w w' :=
  free_core _ r c zc 2 _ w (fun w' _ => at_nil r c w') rfl

/-- A number as far to the other side of 0. -/
def opp (n : Int) : Int := -(max n (-9223372036854775807))

set_option maxHeartbeats 400000 in
theorem opposite_any (n : Int) (w : World) (h : n ≤ 9223372036854775807) :
    Calls Try.prog 35 #[.int .i64 n] w fun e w' => e = .returned (.int .i64 (opp n)) ∧ w = w' := by
  go_enter Try.func35, Try.ntmps35
  go_wp2
  all_goals
    go_ret
    exact ⟨ret_int (by unfold opp; omega), rfl⟩

/-- The first, and the last, of a run of numbers of which none is taken. -/
def lo (p : Nat → Bool) : Nat → Nat
  | 0 => 0
  | c + 1 => if p c = true then c + 1 else lo p c
def hi (p : Nat → Bool) : Nat → Nat → Nat
  | 0, c => c
  | n + 1, c => if p (c + 1) = true then c else hi p n (c + 1)
theorem lo_le (p : Nat → Bool) : ∀ c, lo p c ≤ c
  | 0 => Nat.le_refl _
  | c + 1 => by
    unfold lo
    split
    · exact Nat.le_refl _
    · exact Nat.le_trans (lo_le p c) (by omega)
theorem hi_le (p : Nat → Bool) : ∀ n c, c ≤ hi p n c ∧ hi p n c ≤ c + n
  | 0, c => ⟨Nat.le_refl _, Nat.le_refl _⟩
  | n + 1, c => by
    unfold hi
    split
    · exact ⟨Nat.le_refl _, by omega⟩
    · have := hi_le p n (c + 1)
      exact ⟨by omega, by omega⟩

/-- Whether a column of a row is guarded. -/
def gd (C : Nat) (f : Nat → Cel) (r : Nat) (c : Nat) : Bool := (f (r * C + c)).b

theorem freeE_at (R C : Nat) (f : Nat → Cel) (r c : Nat) (hr : r < R) (hc : c < C) : freeE R C f (r : Int) (c : Int) = if gd C f r c = true then 15 else 0 := by
  unfold freeE
  rw [if_pos ⟨by omega, by omega, by omega, by omega⟩]
  have e : idx C (r : Int) (c : Int) = r * C + c := by simp [idx]
  rw [e]
  rfl

set_option maxHeartbeats 1000000 in
theorem grow_left (bx pb g t cap R C : Nat) (f : Nat → Cel) (r c : Nat) (pc : Value) (w : World) (hg : GridAt w g t cap R C f) (hr : r < R) (hc : c < C) (hb : w.cell? ⟨bx, 0, none⟩ = some (.pointer (some ⟨g, 0, none⟩))) (hp : w.cell? ⟨pb, 0, none⟩ = some (.int .i64 (r : Int))) (hp1 : w.cell? ⟨pb, 1, none⟩ = some pc) :
    Calls Try.prog 38 #[.int .i64 (c : Int), .int .i64 (-1), .pointer (some ⟨bx, 0, none⟩), .pointer (some ⟨pb, 0, none⟩)] w fun e w' => e = .returned (.int .i64 (lo (gd C f r) c : Int)) ∧ Kept0 w w' := by
  have hC2 := hg.C2
  obtain ⟨V, hV⟩ : ∃ V, V = lo (gd C f r) c := ⟨_, rfl⟩
  rw [← hV]
  have HV := Lib.hid hV
  clear hV
  go_enter Try.func38, Try.ntmps38
  go_wp2
  refine wp_scope_jumps 0 (fun a' w' => Kept0 w w' ∧ ∃ (u7 u8 u9 u10 u11 u12 u13 u14 u15 u16 u17 u18 u19 : Value), a' = { tmps := #[.int .i64 (V : Int), .int .i64 (-1), .pointer (some ⟨bx, 0, none⟩), .pointer (some ⟨pb, 0, none⟩), undef, undef, .int .i64 0, u7, u8, u9, u10, u11, u12, u13, u14, u15, u16, u17, u18, u19], defers := [] }) (fun _ _ => 0) rfl ?_ ?_
  · go_wp2
    go_loopw [0] (fun s0 wr => ∃ k : Nat, k ≤ c ∧ s0 = .int .i64 k ∧ Hid (lo (gd C f r) k = V) ∧ Kept0 w wr) (fun s0 _ => (intOf s0).toNat)
    case atStart => exact ⟨c, Nat.le_refl _, rfl, HV.out.symm, Kept.refl _ _⟩
    case round =>
      obtain ⟨k, hk, rfl, HK, hkp⟩ := hrel
      have hb1 := kcell hkp hb
      have hp2 := kcell hkp hp
      have hp3 := kcell hkp hp1
      have hg1 := hg.kept hkp (fun e => e) (fun e => e)
      rcases Nat.eq_zero_or_pos k with rfl | hpos
      · have HE : Hid (freeE R C f (r : Int) (-1) = 11) := if_neg (by omega)
        have HK2 : Hid ((0 : Nat) = V) := HK.out
        go_wp2_with fail
        refine (free_any g t cap R C f _ _ _ hg1).mono ?_
        rw [HE.out]
        rintro e w1 ⟨rfl, hk1⟩
        go_wp2_with fail
        go_step3
        refine ⟨rfl, hkp.trans hk1, ?_⟩
        rw [← HK2.out]
        exact ⟨_, _, _, _, _, _, _, _, _, _, _, _, _, rfl⟩
      · obtain ⟨j, rfl⟩ : ∃ j, k = j + 1 := ⟨k - 1, by omega⟩
        cases hb : gd C f r j
        · have HE : Hid (freeE R C f (r : Int) ((j : Int) + 1 + -1) = 0) := by
            show _ = _
            rw [show (j : Int) + 1 + -1 = (j : Int) by omega, freeE_at R C f r j hr (by omega), hb]; rfl
          have HK2 : Hid (lo (gd C f r) j = V) := by
            have := HK.out
            unfold lo at this
            rw [hb] at this
            exact this
          clear HK hb
          go_wp2_with fail
          refine (free_any g t cap R C f _ _ _ hg1).mono ?_
          rw [HE.out]
          rintro e w1 ⟨rfl, hk1⟩
          go_wp2_with fail
          go_roundw
          case rel => exact ⟨j, by omega, by go_num, HK2, hkp.trans hk1⟩
          case measure => simp [intOf]; omega
        · have HE : Hid (freeE R C f (r : Int) ((j : Int) + 1 + -1) = 15) := by
            show _ = _
            rw [show (j : Int) + 1 + -1 = (j : Int) by omega, freeE_at R C f r j hr (by omega), hb]; rfl
          have HK2 : Hid (j + 1 = V) := by
            have := HK.out
            unfold lo at this
            rw [hb] at this
            exact this
          clear HK hb
          go_wp2_with fail
          refine (free_any g t cap R C f _ _ _ hg1).mono ?_
          rw [HE.out]
          rintro e w1 ⟨rfl, hk1⟩
          go_wp2_with fail
          go_step3
          refine ⟨rfl, hkp.trans hk1, ?_⟩
          rw [← HK2.out]
          exact ⟨_, _, _, _, _, _, _, _, _, _, _, _, _, rfl⟩
  · rintro a w1 ⟨hkp, u7, u8, u9, u10, u11, u12, u13, u14, u15, u16, u17, u18, u19, rfl⟩
    go_wp2
    change bodyPost Try.prog Try.f38 (fun e w' => e = Ending.returned (Value.int IntKind.i64 (V : Int)) ∧ Kept0 w w') Exit.ret _ _
    go_ret
    exact ⟨rfl, hkp⟩
set_option maxHeartbeats 1000000 in
theorem grow_right (bx pb g t cap R C : Nat) (f : Nat → Cel) (r c : Nat) (pc : Value) (w : World) (hg : GridAt w g t cap R C f) (hr : r < R) (hc : c < C) (hb : w.cell? ⟨bx, 0, none⟩ = some (.pointer (some ⟨g, 0, none⟩))) (hp : w.cell? ⟨pb, 0, none⟩ = some (.int .i64 (r : Int))) (hp1 : w.cell? ⟨pb, 1, none⟩ = some pc) :
    Calls Try.prog 38 #[.int .i64 (c : Int), .int .i64 1, .pointer (some ⟨bx, 0, none⟩), .pointer (some ⟨pb, 0, none⟩)] w fun e w' => e = .returned (.int .i64 (hi (gd C f r) (C - 1 - c) c : Int)) ∧ Kept0 w w' := by
  have hC2 := hg.C2
  obtain ⟨V, hV⟩ : ∃ V, V = hi (gd C f r) (C - 1 - c) c := ⟨_, rfl⟩
  rw [← hV]
  have HV := Lib.hid hV
  clear hV
  go_enter Try.func38, Try.ntmps38
  go_wp2
  refine wp_scope_jumps 0 (fun a' w' => Kept0 w w' ∧ ∃ (u7 u8 u9 u10 u11 u12 u13 u14 u15 u16 u17 u18 u19 : Value), a' = { tmps := #[.int .i64 (V : Int), .int .i64 1, .pointer (some ⟨bx, 0, none⟩), .pointer (some ⟨pb, 0, none⟩), undef, undef, .int .i64 0, u7, u8, u9, u10, u11, u12, u13, u14, u15, u16, u17, u18, u19], defers := [] }) (fun _ _ => 0) rfl ?_ ?_
  · go_wp2
    go_loopw [0] (fun s0 wr => ∃ k : Nat, k < C ∧ s0 = .int .i64 k ∧ Hid (hi (gd C f r) (C - 1 - k) k = V) ∧ Kept0 w wr) (fun s0 _ => C - (intOf s0).toNat)
    case atStart => exact ⟨c, hc, rfl, HV.out.symm, Kept.refl _ _⟩
    case round =>
      obtain ⟨k, hk, rfl, HK, hkp⟩ := hrel
      have hb1 := kcell hkp hb
      have hp2 := kcell hkp hp
      have hp3 := kcell hkp hp1
      have hg1 := hg.kept hkp (fun e => e) (fun e => e)
      by_cases hpos : k + 1 = C
      · have HE : Hid (freeE R C f (r : Int) ((k : Int) + 1) = 11) := if_neg (by omega)
        have HK2 : Hid (k = V) := by
          have := HK.out
          rw [show C - 1 - k = 0 by omega] at this
          exact this
        go_wp2_with fail
        refine (free_any g t cap R C f _ _ _ hg1).mono ?_
        rw [HE.out]
        rintro e w1 ⟨rfl, hk1⟩
        go_wp2_with fail
        go_step3
        refine ⟨rfl, hkp.trans hk1, ?_⟩
        rw [← HK2.out]
        exact ⟨_, _, _, _, _, _, _, _, _, _, _, _, _, rfl⟩
      · obtain ⟨n, hn⟩ : ∃ n, C - 1 - k = n + 1 := ⟨C - 2 - k, by omega⟩
        cases hb : gd C f r (k + 1)
        · have HE : Hid (freeE R C f (r : Int) ((k : Int) + 1) = 0) := by
            show _ = _
            rw [show (k : Int) + 1 = ((k + 1 : Nat) : Int) by omega, freeE_at R C f r (k + 1) hr (by omega), hb]; rfl
          have HK2 : Hid (hi (gd C f r) (C - 1 - (k + 1)) (k + 1) = V) := by
            have := HK.out
            rw [hn] at this
            unfold hi at this
            rw [hb] at this
            rw [show C - 1 - (k + 1) = n by omega]
            exact this
          clear HK hb
          go_wp2_with fail
          refine (free_any g t cap R C f _ _ _ hg1).mono ?_
          rw [HE.out]
          rintro e w1 ⟨rfl, hk1⟩
          go_wp2_with fail
          go_roundw
          case rel => exact ⟨k + 1, by omega, by go_num, HK2, hkp.trans hk1⟩
          case measure => simp [intOf]; omega
        · have HE : Hid (freeE R C f (r : Int) ((k : Int) + 1) = 15) := by
            show _ = _
            rw [show (k : Int) + 1 = ((k + 1 : Nat) : Int) by omega, freeE_at R C f r (k + 1) hr (by omega), hb]; rfl
          have HK2 : Hid (k = V) := by
            have := HK.out
            rw [hn] at this
            unfold hi at this
            rw [hb] at this
            exact this
          clear HK hb
          go_wp2_with fail
          refine (free_any g t cap R C f _ _ _ hg1).mono ?_
          rw [HE.out]
          rintro e w1 ⟨rfl, hk1⟩
          go_wp2_with fail
          go_step3
          refine ⟨rfl, hkp.trans hk1, ?_⟩
          rw [← HK2.out]
          exact ⟨_, _, _, _, _, _, _, _, _, _, _, _, _, rfl⟩
  · rintro a w1 ⟨hkp, u7, u8, u9, u10, u11, u12, u13, u14, u15, u16, u17, u18, u19, rfl⟩
    go_wp2
    change bodyPost Try.prog Try.f38 (fun e w' => e = Ending.returned (Value.int IntKind.i64 (V : Int)) ∧ Kept0 w w') Exit.ret _ _
    go_ret
    exact ⟨rfl, hkp⟩

/-- The run of columns around a place, to both sides. -/
def side (C : Nat) (f : Nat → Cel) (r c : Nat) (s : Int) : Int := if s = 1 then (hi (gd C f r) (C - 1 - c) c : Int) else (lo (gd C f r) c : Int)

set_option maxHeartbeats 1000000 in
theorem field_ok (g t cap R C : Nat) (f : Nat → Cel) (r c : Nat) (w : World) (hg : GridAt w g t cap R C f) (hr : r < R) (hc : c < C) (hb : gd C f r c = false) :
    Calls Try.prog 20 #[.pointer (some ⟨g, 0, none⟩), .agg #[.int .i64 (r : Int), .int .i64 (c : Int)]] w fun e w' => e = .returned (.tuple #[.int .i64 (lo (gd C f r) c : Int), .int .i64 (hi (gd C f r) (C - 1 - c) c : Int), .int .i64 0]) ∧ Kept0 w w' := by
  have HE : Hid (freeE R C f (r : Int) (c : Int) = 0) := by
    show _ = _
    rw [freeE_at R C f r c hr hc, hb]; rfl
  have HG : Hid (∀ (w1 : World) (s : Int) (bx pb : Nat), GridAt w1 g t cap R C f → w1.cell? ⟨bx, 0, none⟩ = some (.pointer (some ⟨g, 0, none⟩)) → w1.cell? ⟨pb, 0, none⟩ = some (.int .i64 (r : Int)) → w1.cell? ⟨pb, 1, none⟩ = some (.int .i64 (c : Int)) → (s = 1 ∨ s = -1) →
      Calls Try.prog 38 #[.int .i64 (c : Int), .int .i64 s, .pointer (some ⟨bx, 0, none⟩), .pointer (some ⟨pb, 0, none⟩)] w1 fun e w' => e = .returned (.int .i64 (side C f r c s)) ∧ Kept0 w1 w') := by
    rintro w1 s bx pb h1 h2 h3 h4 (rfl | rfl)
    · exact grow_right bx pb g t cap R C f r c _ w1 h1 hr hc h2 h3 h4
    · exact grow_left bx pb g t cap R C f r c _ w1 h1 hr hc h2 h3 h4
  have e1 : side C f r c 1 = (hi (gd C f r) (C - 1 - c) c : Int) := rfl
  have e2 : side C f r c (-1) = (lo (gd C f r) c : Int) := rfl
  rw [← e1, ← e2]
  generalize hS : side C f r c = S at *
  have HGR := Lib.hid hg
  clear e1 e2 hS hb
  go_enter Try.func20, Try.ntmps20
  go_wp2_with fail
  have k0 : Kept0 w ((w.alloc (.cells #[.pointer (some ⟨g, 0, none⟩)] 31)).alloc (.cells #[.int .i64 (r : Int), .int .i64 (c : Int)] 26)) := ((Kept.refl _ w).alloc _).alloc _
  refine (free_any g t cap R C f _ _ _ (hg.kept k0 (fun e => e) (fun e => e))).mono ?_
  rw [HE.out]
  rintro e w1 ⟨rfl, hk1⟩
  have q0 : w1.cell? ⟨w.heap.size, 0, none⟩ = some (.pointer (some ⟨g, 0, none⟩)) := kcell hk1 (by simp [go_sem])
  have q1 : w1.cell? ⟨w.heap.size + 1, 0, none⟩ = some (.int .i64 (r : Int)) := kcell hk1 (by simp [go_sem])
  have q2 : w1.cell? ⟨w.heap.size + 1, 1, none⟩ = some (.int .i64 (c : Int)) := kcell hk1 (by simp [go_sem])
  have kk : Kept0 w w1 := k0.trans hk1
  clear hk1 hg
  have hs1 : w.heap.size + 1 < w1.heap.size := World.block_lt_of_cell? w1 _ q1
  have kd : Hid (Kept0 w1 w1.drew) := (Kept.refl (fun _ => False) w1).drew
  have HG1 := Lib.hid (HGR.out.kept kk (fun e => e) (fun e => e))
  clear HGR
  go_wp2_with fail
  go_region_held3 (fun w' => w'.cell? ⟨w.heap.size, 0, none⟩ = some (.pointer (some ⟨g, 0, none⟩)) ∧ w'.cell? ⟨w.heap.size + 1, 0, none⟩ = some (.int .i64 (r : Int)) ∧ w'.cell? ⟨w.heap.size + 1, 1, none⟩ = some (.int .i64 (c : Int)) ∧ Hid (Kept0 w1 w')) (go_keep)
    (first
      | (go_at_call 38; refine (HG.out _ _ _ _ (HG1.out.kept (Hid.out (by assumption)) (fun e => e) (fun e => e)) (by assumption) (by assumption) (by assumption) (by simp)).mono ?_; rintro e w3 ⟨rfl, hk3⟩; have kn : Hid (Kept0 w1 w3) := Kept.trans (Hid.out (by assumption)) hk3; have v0 := kcell kn.out q0; have v1 := kcell kn.out q1; have v2 := kcell kn.out q2))
  all_goals
    go_wp2
    refine bodyPost_ret (v := .tuple #[.int .i64 (S (-1)), .int .i64 (S 1), .int .i64 0]) (by simp [results, Try.results20, go_sem]) rfl ⟨rfl, kk.trans (Hid.out (by assumption))⟩

set_option maxHeartbeats 400000 in
theorem field_no (g : Value) (gp : Option Addr) (hgp : g = .pointer gp) (r c E : Int) (w : World) (hE : ¬ E = 0)
    (hfree : ∀ w', Kept0 w w' → Calls Try.prog 33 #[g, .agg #[.int .i64 r, .int .i64 c]] w' fun e w'' => e = .returned (.int .i64 E) ∧ Kept0 w' w'') :
    Calls Try.prog 20 #[g, .agg #[.int .i64 r, .int .i64 c]] w fun e w' => e = .returned (.tuple #[.int .i64 0, .int .i64 0, .int .i64 E]) ∧ Kept0 w w' := by
  subst hgp
  have HF := Lib.hid hfree
  clear hfree
  go_enter Try.func20, Try.ntmps20
  go_wp2_with fail
  refine (HF.out _ (((Kept.refl _ w).alloc _).alloc _)).mono ?_
  rintro e w1 ⟨rfl, hk1⟩
  go_wp2_with fail
  refine bodyPost_ret (v := .tuple #[.int .i64 0, .int .i64 0, .int .i64 E]) (by simp [results, Try.results20, go_sem]) rfl ⟨rfl, (((Kept.refl _ w).alloc _).alloc _).later hk1 (fun _ _ e => e)⟩

theorem field_taken (g t cap R C : Nat) (f : Nat → Cel) (r c : Nat) (w : World) (hg : GridAt w g t cap R C f) (hr : r < R) (hc : c < C) (hb : gd C f r c = true) :
    Calls Try.prog 20 #[.pointer (some ⟨g, 0, none⟩), .agg #[.int .i64 (r : Int), .int .i64 (c : Int)]] w fun e w' => e = .returned (.tuple #[.int .i64 0, .int .i64 0, .int .i64 15]) ∧ Kept0 w w' := by
  refine field_no _ _ rfl _ _ 15 w (by omega) (fun w' k => ?_)
  have := free_any g t cap R C f (r : Int) (c : Int) w' (hg.kept k (fun e => e) (fun e => e))
  rw [freeE_at R C f r c hr hc, hb] at this
  exact this

theorem field_out (g t cap R C : Nat) (f : Nat → Cel) (r c : Int) (w : World) (hg : GridAt w g t cap R C f) (h : ¬ (0 ≤ r ∧ r < R ∧ 0 ≤ c ∧ c < C)) :
    Calls Try.prog 20 #[.pointer (some ⟨g, 0, none⟩), .agg #[.int .i64 r, .int .i64 c]] w fun e w' => e = .returned (.tuple #[.int .i64 0, .int .i64 0, .int .i64 11]) ∧ Kept0 w w' := by
  refine field_no _ _ rfl _ _ 11 w (by omega) (fun w' k => ?_)
  have := free_any g t cap R C f r c w' (hg.kept k (fun e => e) (fun e => e))
  rwa [show freeE R C f r c = 11 from if_neg h] at this

theorem field_nil (r c : Int) (w : World) :
    Calls Try.prog 20 #[.pointer none, .agg #[.int .i64 r, .int .i64 c]] w fun e w' => e = .returned (.tuple #[.int .i64 0, .int .i64 0, .int .i64 2]) ∧ Kept0 w w' :=
  field_no _ _ rfl _ _ 2 w (by omega) (fun w' _ => free_nil r c w')
end Go.Proofs.Ytljfbocjnpnaiaa
