/-
  What Wipe, Dye and Shield do, and the statements' own call of one of them.
-/
import Derived.Test.YtedgnjideemfbaaTurn
namespace Go.Proofs.Ytedgnjideemfbaa
open Go.RowKit

set_option maxHeartbeats 1000000 in
set_option maxRecDepth 100000 in
theorem turn_bad (gp : Option Addr) (r c r' c' : Int) (b : Bool) (fv cb : Nat) (E : Int) (w : World) (hE : ¬ E = 0)
    (hc : ∀ w', Kept0 w w' → Calls Try.prog 43 #[.pointer gp, .agg #[.int .i64 r, .int .i64 c], .agg #[.int .i64 r', .int .i64 c']] w' fun e w'' => e = .returned (.int .i64 E) ∧ Kept0 w' w'') :
    Calls Try.prog 36 #[.pointer gp, .agg #[.int .i64 r, .int .i64 c], .agg #[.int .i64 r', .int .i64 c'], .bool b, .func (.func fv) #[] #[.pointer (some ⟨cb, 0, none⟩)]] w fun e w' => e = .returned (.tuple #[.int .i64 0, .int .i64 E]) ∧ Kept0 w w' := by
  have HC := Lib.hid hc
  clear hc
  go_enter Try.func36, Try.ntmps36
  go_wp2_with fail
  refine (HC.out _ ((((((Kept.refl _ w).alloc _).alloc _).alloc _).alloc _).alloc _)).mono ?_
  rintro e w1 ⟨rfl, hk1⟩
  have kk : Kept0 w w1 := ((((((Kept.refl _ w).alloc _).alloc _).alloc _).alloc _).alloc _).trans hk1
  clear hk1
  go_wp2_with fail
  go_ret2
  exact ⟨rfl, kk⟩

/-- The cells, and how many were turned, of a call from one place to another one. -/
def wipeF (R C : Nat) (f : Nat → Cel) (o : Cel → Cel) (r c r' c' : Int) : Nat → Cel := if wipeE R C r c r' c' = 0 then partT f o (idx C r c) (idx C r' c' + 1 - idx C r c) else f
def wipeN (R C : Nat) (f : Nat → Cel) (o : Cel → Cel) (r c r' c' : Int) : Nat := if wipeE R C r c r' c' = 0 then cntT f o (idx C r c) (idx C r' c' + 1 - idx C r c) else 0

theorem wipeE_zero {R C : Nat} {r c r' c' : Int} (h : wipeE R C r c r' c' = 0) : There R C r c ∧ There R C r' c' ∧ idx C r c ≤ idx C r' c' := by
  unfold wipeE at h
  by_cases h1 : (0 ≤ r ∧ r < R ∧ 0 ≤ c ∧ c < C) ∧ (0 ≤ r' ∧ r' < R ∧ 0 ≤ c' ∧ c' < C)
  · rw [if_pos h1] at h
    refine ⟨h1.1, h1.2, ?_⟩
    by_cases h2 : idx C r' c' < idx C r c
    · rw [if_pos h2] at h
      exact absurd h (by decide)
    · omega
  · rw [if_neg h1] at h
    exact absurd h (by decide)

theorem row_idx {R C : Nat} {r c : Int} (h : There R C r c) : (rowOf C (idx C r c) : Int) = r ∧ (colOf C (idx C r c) : Int) = c := by
  obtain ⟨h1, h2, h3, h4⟩ := h
  obtain ⟨a, rfl⟩ := Int.eq_ofNat_of_zero_le h1
  obtain ⟨b, rfl⟩ := Int.eq_ofNat_of_zero_le h3
  unfold rowOf colOf idx
  simp only [Int.toNat_natCast]
  have hC : 0 < C := by omega
  constructor
  · rw [Nat.mul_comm, Nat.mul_add_div hC, Nat.div_eq_of_lt (by omega)]
    simp
  · rw [Nat.mul_comm, Nat.mul_add_mod, Nat.mod_eq_of_lt (by omega)]

theorem turn_any (g t cap R C : Nat) (f : Nat → Cel) (b : Bool) (fv cb : Nat) (ob : Obj) (h : Cel → Cel) (r c r' c' : Int) (w : World) (hg : GridAt w g t cap R C f) (hB : Becomes fv cb ob h) (ho : w.heap[cb]? = some ob) (hct : cb ≠ t) :
    Calls Try.prog 36 #[.pointer (some ⟨g, 0, none⟩), .agg #[.int .i64 r, .int .i64 c], .agg #[.int .i64 r', .int .i64 c'], .bool b, .func (.func fv) #[] #[.pointer (some ⟨cb, 0, none⟩)]] w fun e w' =>
      e = .returned (.tuple #[.int .i64 (wipeN R C f (one b h) r c r' c' : Int), .int .i64 (wipeE R C r c r' c')]) ∧ GridAt w' g t cap R C (wipeF R C f (one b h) r c r' c') ∧ Kept (· = t) w w' := by
  by_cases hE : wipeE R C r c r' c' = 0
  · obtain ⟨h1, h2, h3⟩ := wipeE_zero hE
    obtain ⟨m, hm⟩ : ∃ m, idx C r' c' = idx C r c + m := ⟨idx C r' c' - idx C r c, by omega⟩
    have := turn_ok g t cap R C f b fv cb ob h (idx C r c) m w hg hB ho hct (by rw [← hm]; exact idx_lt h2)
    rw [← hm, (row_idx h1).1, (row_idx h1).2, (row_idx h2).1, (row_idx h2).2] at this
    unfold wipeN wipeF
    rw [if_pos hE, if_pos hE, hE, show idx C r' c' + 1 - idx C r c = m + 1 by omega]
    exact this
  · unfold wipeN wipeF
    rw [if_neg hE, if_neg hE]
    refine (turn_bad (some ⟨g, 0, none⟩) r c r' c' b fv cb _ w hE (fun w' k => check_grid g t cap R C f r c r' c' w' (hg.kept k (fun e => e) (fun e => e)))).mono ?_
    rintro e w' ⟨rfl, k⟩
    exact ⟨rfl, hg.kept k (fun e => e) (fun e => e), k.to⟩

theorem turn_nil (r c r' c' : Int) (b : Bool) (fv cb : Nat) (w : World) :
    Calls Try.prog 36 #[.pointer none, .agg #[.int .i64 r, .int .i64 c], .agg #[.int .i64 r', .int .i64 c'], .bool b, .func (.func fv) #[] #[.pointer (some ⟨cb, 0, none⟩)]] w fun e w' => e = .returned (.tuple #[.int .i64 0, .int .i64 2]) ∧ Kept0 w w' :=
  turn_bad none r c r' c' b fv cb 2 w (by decide) (fun w' _ => check_none r c r' c' w')

theorem celAt_of {w : World} {b : Nat} {x : Cel} {t : TypeId} (h : w.heap[b]? = some (.cells #[.int .i32 x.g, .int .i64 x.a, .bool x.b, .int .i64 x.m] t)) : CelAt w b x := by
  exact ⟨by simp [World.cell?, h], by simp [World.cell?, h], by simp [World.cell?, h], by simp [World.cell?, h]⟩

theorem becomes_wipe (cb : Nat) (x : Cel) : Becomes 37 cb (.cells #[.int .i32 x.g, .int .i64 x.a, .bool x.b, .int .i64 x.m] 38) (fun _ => x) :=
  ⟨enters_of Try.func37 (by kernel_rfl) rfl, fun y w hw => wipe1 cb x y w (celAt_of hw)⟩
theorem becomes_dye (cb : Nat) (n : Int) : Becomes 39 cb (.cells #[.int .i64 n] 3) (dyed n) :=
  ⟨enters_of Try.func39 (by kernel_rfl) rfl, fun y w hw => dye1 cb n y w (by simp [World.cell?, hw])⟩
theorem becomes_shield (cb : Nat) (b : Bool) : Becomes 40 cb (.cells #[.bool b] 4) (shielded b) :=
  ⟨enters_of Try.func40 (by kernel_rfl) rfl, fun y w hw => shield1 cb b y w (by simp [World.cell?, hw])⟩

set_option maxHeartbeats 1000000 in
theorem wipe_core (gp : Option Addr) (r c r' c' : Int) (x : Cel) (b : Bool) (n E : Int) (w : World) (K : World → World → Prop)
    (hc : ∀ w' cb, Kept0 w w' → w.heap.size ≤ cb → w'.heap[cb]? = some (.cells #[.int .i32 x.g, .int .i64 x.a, .bool x.b, .int .i64 x.m] 38) → Calls Try.prog 36 #[.pointer gp, .agg #[.int .i64 r, .int .i64 c], .agg #[.int .i64 r', .int .i64 c'], .bool b, .func (.func 37) #[] #[.pointer (some ⟨cb, 0, none⟩)]] w' fun e w'' => e = .returned (.tuple #[.int .i64 n, .int .i64 E]) ∧ K w' w'') :
    Calls Try.prog 22 #[.pointer gp, .agg #[.int .i64 r, .int .i64 c], .agg #[.int .i64 r', .int .i64 c'], x.v, .bool b] w fun e w' => e = .returned (.tuple #[.int .i64 n, .int .i64 E]) ∧ ∃ w1, Kept0 w w1 ∧ K w1 w' := by
  have HC := Lib.hid hc
  have hmf : ∀ (fn : Fn) (first cap : Array Value) (w : World), (Instr.makeFunc fn first cap).run Try.prog w = .ok (.func fn first cap) w := fun _ _ _ _ => rfl
  clear hc
  go_enter Try.func22, Try.ntmps22
  go_wp2_with fail
  have kk : Kept0 w (((w.alloc (.cells #[.int .i64 r, .int .i64 c] 36)).alloc (.cells #[.int .i64 r', .int .i64 c'] 36)).alloc (.cells #[.int .i32 x.g, .int .i64 x.a, .bool x.b, .int .i64 x.m] 38)) := (((Kept.refl _ w).alloc _).alloc _).alloc _
  refine (HC.out _ (w.heap.size + 1 + 1) kk (by omega) ?_).mono ?_
  · have := heap_new ((w.alloc (.cells #[.int .i64 r, .int .i64 c] 36)).alloc (.cells #[.int .i64 r', .int .i64 c'] 36)) (.cells #[.int .i32 x.g, .int .i64 x.a, .bool x.b, .int .i64 x.m] 38)
    rwa [World.size_alloc, World.size_alloc] at this
  rintro e w1 ⟨rfl, hk1⟩
  have HK := Lib.hid (show ∃ w2, Kept0 w w2 ∧ K w2 w1 from ⟨_, kk, hk1⟩)
  clear hk1 kk
  go_wp2_with fail
  go_ret2
  exact ⟨rfl, HK.out⟩

set_option maxHeartbeats 1000000 in
theorem dye_core (gp : Option Addr) (r c r' c' a : Int) (b : Bool) (n E : Int) (w : World) (K : World → World → Prop)
    (hc : ∀ w' cb, Kept0 w w' → w.heap.size ≤ cb → w'.heap[cb]? = some (.cells #[.int .i64 a] 3) → Calls Try.prog 36 #[.pointer gp, .agg #[.int .i64 r, .int .i64 c], .agg #[.int .i64 r', .int .i64 c'], .bool b, .func (.func 39) #[] #[.pointer (some ⟨cb, 0, none⟩)]] w' fun e w'' => e = .returned (.tuple #[.int .i64 n, .int .i64 E]) ∧ K w' w'') :
    Calls Try.prog 25 #[.pointer gp, .agg #[.int .i64 r, .int .i64 c], .agg #[.int .i64 r', .int .i64 c'], .int .i64 a, .bool b] w fun e w' => e = .returned (.tuple #[.int .i64 n, .int .i64 E]) ∧ ∃ w1, Kept0 w w1 ∧ K w1 w' := by
  have HC := Lib.hid hc
  have hmf : ∀ (fn : Fn) (first cap : Array Value) (w : World), (Instr.makeFunc fn first cap).run Try.prog w = .ok (.func fn first cap) w := fun _ _ _ _ => rfl
  clear hc
  go_enter Try.func25, Try.ntmps25
  go_wp2_with fail
  have kk : Kept0 w (((w.alloc (.cells #[.int .i64 r, .int .i64 c] 36)).alloc (.cells #[.int .i64 r', .int .i64 c'] 36)).alloc (.cells #[.int .i64 a] 3)) := (((Kept.refl _ w).alloc _).alloc _).alloc _
  refine (HC.out _ (w.heap.size + 1 + 1) kk (by omega) ?_).mono ?_
  · have := heap_new ((w.alloc (.cells #[.int .i64 r, .int .i64 c] 36)).alloc (.cells #[.int .i64 r', .int .i64 c'] 36)) (.cells #[.int .i64 a] 3)
    rwa [World.size_alloc, World.size_alloc] at this
  rintro e w1 ⟨rfl, hk1⟩
  have HK := Lib.hid (show ∃ w2, Kept0 w w2 ∧ K w2 w1 from ⟨_, kk, hk1⟩)
  clear hk1 kk
  go_wp2_with fail
  go_ret2
  exact ⟨rfl, HK.out⟩

set_option maxHeartbeats 1000000 in
theorem shield_core (gp : Option Addr) (r c r' c' : Int) (b : Bool) (n E : Int) (w : World) (K : World → World → Prop)
    (hc : ∀ w' cb, Kept0 w w' → w.heap.size ≤ cb → w'.heap[cb]? = some (.cells #[.bool b] 4) → Calls Try.prog 36 #[.pointer gp, .agg #[.int .i64 r, .int .i64 c], .agg #[.int .i64 r', .int .i64 c'], .bool false, .func (.func 40) #[] #[.pointer (some ⟨cb, 0, none⟩)]] w' fun e w'' => e = .returned (.tuple #[.int .i64 n, .int .i64 E]) ∧ K w' w'') :
    Calls Try.prog 26 #[.pointer gp, .agg #[.int .i64 r, .int .i64 c], .agg #[.int .i64 r', .int .i64 c'], .bool b] w fun e w' => e = .returned (.tuple #[.int .i64 n, .int .i64 E]) ∧ ∃ w1, Kept0 w w1 ∧ K w1 w' := by
  have HC := Lib.hid hc
  have hmf : ∀ (fn : Fn) (first cap : Array Value) (w : World), (Instr.makeFunc fn first cap).run Try.prog w = .ok (.func fn first cap) w := fun _ _ _ _ => rfl
  clear hc
  go_enter Try.func26, Try.ntmps26
  go_wp2_with fail
  have kk : Kept0 w (((w.alloc (.cells #[.int .i64 r, .int .i64 c] 36)).alloc (.cells #[.int .i64 r', .int .i64 c'] 36)).alloc (.cells #[.bool b] 4)) := (((Kept.refl _ w).alloc _).alloc _).alloc _
  refine (HC.out _ (w.heap.size + 1 + 1) kk (by omega) ?_).mono ?_
  · have := heap_new ((w.alloc (.cells #[.int .i64 r, .int .i64 c] 36)).alloc (.cells #[.int .i64 r', .int .i64 c'] 36)) (.cells #[.bool b] 4)
    rwa [World.size_alloc, World.size_alloc] at this
  rintro e w1 ⟨rfl, hk1⟩
  have HK := Lib.hid (show ∃ w2, Kept0 w w2 ∧ K w2 w1 from ⟨_, kk, hk1⟩)
  clear hk1 kk
  go_wp2_with fail
  go_ret2
  exact ⟨rfl, HK.out⟩

/-- What a call leaves: cells that are turned in their row, nothing else. -/
abbrev Turns (g t cap R C : Nat) (f : Nat → Cel) (o : Cel → Cel) (r c r' c' : Int) (w : World) (e : Ending) (w' : World) : Prop :=
  e = .returned (.tuple #[.int .i64 (wipeN R C f o r c r' c' : Int), .int .i64 (wipeE R C r c r' c')]) ∧ GridAt w' g t cap R C (wipeF R C f o r c r' c') ∧ Kept (· = t) w w'

theorem wipe_any (g t cap R C : Nat) (f : Nat → Cel) (r c r' c' : Int) (x : Cel) (b : Bool) (w : World) (hg : GridAt w g t cap R C f) :
    Calls Try.prog 22 #[.pointer (some ⟨g, 0, none⟩), .agg #[.int .i64 r, .int .i64 c], .agg #[.int .i64 r', .int .i64 c'], x.v, .bool b] w (Turns g t cap R C f (one b (fun _ => x)) r c r' c' w) := by
  have htl := hg.row.lt
  refine (wipe_core (some ⟨g, 0, none⟩) r c r' c' x b _ _ w (fun w1 w' => GridAt w' g t cap R C (wipeF R C f (one b (fun _ => x)) r c r' c') ∧ Kept (· = t) w1 w')
    (fun w' cb k hcb ho => turn_any g t cap R C f b 37 cb _ (fun _ => x) r c r' c' w' (hg.kept k (fun e => e) (fun e => e)) (becomes_wipe cb x) ho (by omega))).mono ?_
  rintro e w' ⟨rfl, w1, k, h1, h2⟩
  exact ⟨rfl, h1, k.to.trans h2⟩
theorem dye_any (g t cap R C : Nat) (f : Nat → Cel) (r c r' c' a : Int) (b : Bool) (w : World) (hg : GridAt w g t cap R C f) :
    Calls Try.prog 25 #[.pointer (some ⟨g, 0, none⟩), .agg #[.int .i64 r, .int .i64 c], .agg #[.int .i64 r', .int .i64 c'], .int .i64 a, .bool b] w (Turns g t cap R C f (one b (dyed a)) r c r' c' w) := by
  have htl := hg.row.lt
  refine (dye_core (some ⟨g, 0, none⟩) r c r' c' a b _ _ w (fun w1 w' => GridAt w' g t cap R C (wipeF R C f (one b (dyed a)) r c r' c') ∧ Kept (· = t) w1 w')
    (fun w' cb k hcb ho => turn_any g t cap R C f b 39 cb _ (dyed a) r c r' c' w' (hg.kept k (fun e => e) (fun e => e)) (becomes_dye cb a) ho (by omega))).mono ?_
  rintro e w' ⟨rfl, w1, k, h1, h2⟩
  exact ⟨rfl, h1, k.to.trans h2⟩
theorem shield_any (g t cap R C : Nat) (f : Nat → Cel) (r c r' c' : Int) (b : Bool) (w : World) (hg : GridAt w g t cap R C f) :
    Calls Try.prog 26 #[.pointer (some ⟨g, 0, none⟩), .agg #[.int .i64 r, .int .i64 c], .agg #[.int .i64 r', .int .i64 c'], .bool b] w (Turns g t cap R C f (one false (shielded b)) r c r' c' w) := by
  have htl := hg.row.lt
  refine (shield_core (some ⟨g, 0, none⟩) r c r' c' b _ _ w (fun w1 w' => GridAt w' g t cap R C (wipeF R C f (one false (shielded b)) r c r' c') ∧ Kept (· = t) w1 w')
    (fun w' cb k hcb ho => turn_any g t cap R C f false 40 cb _ (shielded b) r c r' c' w' (hg.kept k (fun e => e) (fun e => e)) (becomes_shield cb b) ho (by omega))).mono ?_
  rintro e w' ⟨rfl, w1, k, h1, h2⟩
  exact ⟨rfl, h1, k.to.trans h2⟩

theorem wipe_nil (r c r' c' : Int) (x : Cel) (b : Bool) (w : World) :
    Calls Try.prog 22 #[.pointer none, .agg #[.int .i64 r, .int .i64 c], .agg #[.int .i64 r', .int .i64 c'], x.v, .bool b] w fun e w' => e = .returned (.tuple #[.int .i64 0, .int .i64 2]) ∧ Kept0 w w' := by
  refine (wipe_core none r c r' c' x b 0 2 w Kept0 (fun w' cb _ _ _ => turn_nil r c r' c' b 37 cb w')).mono ?_
  rintro e w' ⟨rfl, w1, k, h⟩
  exact ⟨rfl, k.trans h⟩
theorem dye_nil (r c r' c' a : Int) (b : Bool) (w : World) :
    Calls Try.prog 25 #[.pointer none, .agg #[.int .i64 r, .int .i64 c], .agg #[.int .i64 r', .int .i64 c'], .int .i64 a, .bool b] w fun e w' => e = .returned (.tuple #[.int .i64 0, .int .i64 2]) ∧ Kept0 w w' := by
  refine (dye_core none r c r' c' a b 0 2 w Kept0 (fun w' cb _ _ _ => turn_nil r c r' c' b 39 cb w')).mono ?_
  rintro e w' ⟨rfl, w1, k, h⟩
  exact ⟨rfl, k.trans h⟩
theorem shield_nil (r c r' c' : Int) (b : Bool) (w : World) :
    Calls Try.prog 26 #[.pointer none, .agg #[.int .i64 r, .int .i64 c], .agg #[.int .i64 r', .int .i64 c'], .bool b] w fun e w' => e = .returned (.tuple #[.int .i64 0, .int .i64 2]) ∧ Kept0 w w' := by
  refine (shield_core none r c r' c' b 0 2 w Kept0 (fun w' cb _ _ _ => turn_nil r c r' c' false 40 cb w')).mono ?_
  rintro e w' ⟨rfl, w1, k, h⟩
  exact ⟨rfl, k.trans h⟩

/-- What the statements' call does to a cell. -/
def oOf (ask : Int) (x : Cel) (b : Bool) : Cel → Cel := if ask = 0 then one b (fun _ => x) else if ask = 1 then one b (dyed x.a) else one false (shielded x.b)

/-- A call as a value. -/
abbrev opV (ask r c r' c' : Int) (x : Cel) (b : Bool) : Value := .agg #[.int .i64 ask, .int .i64 r, .int .i64 c, .int .i64 r', .int .i64 c', .int .i32 x.g, .int .i64 x.a, .bool x.b, .int .i64 x.m, .bool b]

set_option maxHeartbeats 1000000 in
theorem does_core (gp : Option Addr) (ask r c r' c' : Int) (x : Cel) (b : Bool) (w : World) (K : World → World → Prop) (n E : Int)
    (h0 : ask = 0 → ∀ w', Kept0 w w' → Calls Try.prog 22 #[.pointer gp, .agg #[.int .i64 r, .int .i64 c], .agg #[.int .i64 r', .int .i64 c'], x.v, .bool b] w' fun e w'' => e = .returned (.tuple #[.int .i64 n, .int .i64 E]) ∧ K w' w'')
    (h1 : ask = 1 → ∀ w', Kept0 w w' → Calls Try.prog 25 #[.pointer gp, .agg #[.int .i64 r, .int .i64 c], .agg #[.int .i64 r', .int .i64 c'], .int .i64 x.a, .bool b] w' fun e w'' => e = .returned (.tuple #[.int .i64 n, .int .i64 E]) ∧ K w' w'')
    (h2 : ¬ ask = 0 → ¬ ask = 1 → ∀ w', Kept0 w w' → Calls Try.prog 26 #[.pointer gp, .agg #[.int .i64 r, .int .i64 c], .agg #[.int .i64 r', .int .i64 c'], .bool x.b] w' fun e w'' => e = .returned (.tuple #[.int .i64 n, .int .i64 E]) ∧ K w' w'') :
    Calls Try.prog 12 #[.pointer gp, opV ask r c r' c' x b] w fun e w' => e = .returned (.tuple #[.int .i64 n, .int .i64 E]) ∧ ∃ w1, Kept0 w w1 ∧ K w1 w' := by
  have kk : Kept0 w (w.alloc (.cells #[.int .i64 ask, .int .i64 r, .int .i64 c, .int .i64 r', .int .i64 c', .int .i32 x.g, .int .i64 x.a, .bool x.b, .int .i64 x.m, .bool b] 40)) := (Kept.refl _ w).alloc _
  have KK := Lib.hid kk
  clear kk
  by_cases a0 : ask = 0
  · have H0 := Lib.hid (h0 a0)
    subst a0
    clear h0 h1 h2
    go_enter Try.func12, Try.ntmps12
    go_wp2_with fail
    refine (H0.out _ KK.out).mono ?_
    rintro e w1 ⟨rfl, hk1⟩
    have HK := Lib.hid (show ∃ w2, Kept0 w w2 ∧ K w2 w1 from ⟨_, KK.out, hk1⟩)
    clear hk1 KK H0
    go_wp2_with fail
    go_ret2
    exact ⟨rfl, HK.out⟩
  · by_cases a1 : ask = 1
    · have H1 := Lib.hid (h1 a1)
      subst a1
      clear h0 h1 h2
      go_enter Try.func12, Try.ntmps12
      go_wp2_with fail
      refine (H1.out _ KK.out).mono ?_
      rintro e w1 ⟨rfl, hk1⟩
      have HK := Lib.hid (show ∃ w2, Kept0 w w2 ∧ K w2 w1 from ⟨_, KK.out, hk1⟩)
      clear hk1 KK H1
      go_wp2_with fail
      go_ret2
      exact ⟨rfl, HK.out⟩
    · have H2 := Lib.hid (h2 a0 a1)
      clear h0 h1 h2
      go_enter Try.func12, Try.ntmps12
      go_wp2_with fail
      refine (H2.out _ KK.out).mono ?_
      rintro e w1 ⟨rfl, hk1⟩
      have HK := Lib.hid (show ∃ w2, Kept0 w w2 ∧ K w2 w1 from ⟨_, KK.out, hk1⟩)
      clear hk1 KK H2
      go_wp2_with fail
      go_ret2
      exact ⟨rfl, HK.out⟩

theorem does_any (g t cap R C : Nat) (f : Nat → Cel) (ask r c r' c' : Int) (x : Cel) (b : Bool) (w : World) (hg : GridAt w g t cap R C f) :
    Calls Try.prog 12 #[.pointer (some ⟨g, 0, none⟩), opV ask r c r' c' x b] w (Turns g t cap R C f (oOf ask x b) r c r' c' w) := by
  refine (does_core (some ⟨g, 0, none⟩) ask r c r' c' x b w (fun w1 w' => GridAt w' g t cap R C (wipeF R C f (oOf ask x b) r c r' c') ∧ Kept (· = t) w1 w') (wipeN R C f (oOf ask x b) r c r' c') (wipeE R C r c r' c') ?_ ?_ ?_).mono ?_
  · rintro rfl w' k
    exact wipe_any g t cap R C f r c r' c' x b w' (hg.kept k (fun e => e) (fun e => e))
  · rintro rfl w' k
    exact dye_any g t cap R C f r c r' c' x.a b w' (hg.kept k (fun e => e) (fun e => e))
  · intro h0 h1 w' k
    rw [show oOf ask x b = one false (shielded x.b) by unfold oOf; rw [if_neg h0, if_neg h1]]
    exact shield_any g t cap R C f r c r' c' x.b w' (hg.kept k (fun e => e) (fun e => e))
  rintro e w' ⟨rfl, w1, k, h1, h2⟩
  exact ⟨rfl, h1, k.to.trans h2⟩

theorem does_nil (ask r c r' c' : Int) (x : Cel) (b : Bool) (w : World) :
    Calls Try.prog 12 #[.pointer none, opV ask r c r' c' x b] w fun e w' => e = .returned (.tuple #[.int .i64 0, .int .i64 2]) ∧ Kept0 w w' := by
  refine (does_core none ask r c r' c' x b w Kept0 0 2 (fun _ w' _ => wipe_nil r c r' c' x b w') (fun _ w' _ => dye_nil r c r' c' x.a b w') (fun _ _ w' _ => shield_nil r c r' c' x.b w')).mono ?_
  rintro e w' ⟨rfl, w1, k, h⟩
  exact ⟨rfl, k.trans h⟩
end Go.Proofs.Ytedgnjideemfbaa
