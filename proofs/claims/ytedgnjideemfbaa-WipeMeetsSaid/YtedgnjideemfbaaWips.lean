/-
  What the small calls of package wipe do: ahead, next, check, the closures, visit.
-/
import Derived.Test.YtedgnjideemfbaaAllC
namespace Go.Proofs.Ytedgnjideemfbaa
open Go.RowKit

/-- What is done to a cell: nothing, if it is guarded and that counts. -/
def one (b : Bool) (h : Cel → Cel) (x : Cel) : Cel := if b = true ∧ x.b = true then x else h x
/-- Those from i on, n of them, are turned. -/
def partT (f : Nat → Cel) (o : Cel → Cel) (i n : Nat) : Nat → Cel := fun k => if i ≤ k ∧ k < i + n then o (f k) else f k
/-- How many of those from i on, n of them, are turned to other ones. -/
def cntT (f : Nat → Cel) (o : Cel → Cel) (i : Nat) : Nat → Nat
  | 0 => 0
  | n + 1 => cntT f o i n + if o (f (i + n)) = f (i + n) then 0 else 1
theorem cntT_le (f : Nat → Cel) (o : Cel → Cel) (i : Nat) : ∀ n, cntT f o i n ≤ n
  | 0 => Nat.le_refl _
  | n + 1 => by
    have := cntT_le f o i n
    unfold cntT
    split <;> omega
theorem partT_step (f : Nat → Cel) (o : Cel → Cel) (i n k : Nat) : upd (partT f o i n) (i + n) (o (f (i + n))) k = partT f o i (n + 1) k := by
  unfold upd partT
  by_cases h : k = i + n
  · subst h; rw [if_pos rfl, if_pos (by omega)]
  · rw [if_neg h]
    by_cases h2 : i ≤ k ∧ k < i + n
    · rw [if_pos h2, if_pos (by omega)]
    · rw [if_neg h2, if_neg (by omega)]

/-- A place is ahead of another one. -/
def aheadB (r c r' c' : Int) : Bool := decide (r < r' ∨ r = r' ∧ c < c')

set_option maxHeartbeats 400000 in
theorem ahead_any (r c r' c' : Int) (w : World) :
    Calls Try.prog 45 #[.agg #[.int .i64 r, .int .i64 c], .agg #[.int .i64 r', .int .i64 c']] w fun e w' => e = .returned (.bool (aheadB r c r' c')) ∧ Kept0 w w' := by
  obtain ⟨B, hB⟩ : ∃ B, B = aheadB r c r' c' := ⟨_, rfl⟩
  rw [← hB]
  have HB := Lib.hid hB
  clear hB
  go_enter Try.func45, Try.ntmps45
  go_wp2
  all_goals
    go_ret
    refine ⟨ret_bool ?_, ((Kept.refl _ w).alloc _).alloc _⟩
    rw [HB.out]
    unfold aheadB
    rw [Bool.eq_iff_iff]
    simp
    try omega

theorem ahead_idx {R C : Nat} {r c r' c' : Int} (h : There R C r c) (h' : There R C r' c') : aheadB r c r' c' = decide (idx C r c < idx C r' c') := by
  obtain ⟨h1, h2, h3, h4⟩ := h
  obtain ⟨g1, g2, g3, g4⟩ := h'
  obtain ⟨a, rfl⟩ := Int.eq_ofNat_of_zero_le h1
  obtain ⟨b, rfl⟩ := Int.eq_ofNat_of_zero_le h3
  obtain ⟨a', rfl⟩ := Int.eq_ofNat_of_zero_le g1
  obtain ⟨b', rfl⟩ := Int.eq_ofNat_of_zero_le g3
  unfold aheadB idx
  simp only [Int.toNat_natCast]
  rw [decide_eq_decide]
  constructor
  · rintro (h | ⟨h, h'⟩)
    · have : (a + 1) * C ≤ a' * C := Nat.mul_le_mul_right _ (by omega)
      rw [Nat.add_mul] at this
      omega
    · obtain rfl : a = a' := by omega
      omega
  · intro h
    by_cases e : a = a'
    · subst e
      exact Or.inr ⟨rfl, by omega⟩
    · by_cases l : a < a'
      · exact Or.inl (by omega)
      · have : (a' + 1) * C ≤ a * C := Nat.mul_le_mul_right _ (by omega)
        rw [Nat.add_mul] at this
        omega

theorem ahead_row_col {C j k : Nat} (hC : 1 ≤ C) : aheadB (rowOf C j) (colOf C j) (rowOf C k) (colOf C k) = decide (j < k) := by
  have hj := colOf_lt (k := j) hC
  have hk := colOf_lt (k := k) hC
  have := ahead_idx (R := rowOf C j + rowOf C k + 1) (C := C) (r := rowOf C j) (c := colOf C j) (r' := rowOf C k) (c' := colOf C k) ⟨by omega, by omega, by omega, by omega⟩ ⟨by omega, by omega, by omega, by omega⟩
  rw [this, idx_row_col, idx_row_col]

set_option maxHeartbeats 400000 in
theorem next_any (C k : Nat) (w : World) (hC1 : 1 ≤ C) (hC2 : C ≤ 255) (hk : k < 70000) :
    Calls Try.prog 46 #[.agg #[.int .i64 (rowOf C k : Int), .int .i64 (colOf C k : Int)], .int .i64 (C : Int)] w fun e w' => e = .returned (.agg #[.int .i64 (rowOf C (k + 1) : Int), .int .i64 (colOf C (k + 1) : Int)]) ∧ Kept0 w w' := by
  have hlt := colOf_lt (k := k) hC1
  have hr : rowOf C k ≤ k := Nat.div_le_self _ _
  obtain ⟨n1, n2⟩ := next_place (k := k) hC1
  by_cases h : colOf C k + 1 < C
  · obtain ⟨e1, e2⟩ := n1 h
    rw [e1, e2]
    clear n1 n2 e1 e2
    have d : ¬ ((colOf C k : Int) + 1 = (C : Int)) := by omega
    generalize rowOf C k = x at *
    generalize colOf C k = y at *
    go_enter Try.func46, Try.ntmps46
    go_wp2
    refine bodyPost_ret (v := .agg #[.int .i64 (x : Int), .int .i64 ((y + 1 : Nat) : Int)]) (by simp [results, Try.results46, go_sem]) rfl ⟨rfl, ?_⟩
    exact ((Kept.refl _ w).alloc _).alloc _
  · obtain ⟨e1, e2⟩ := n2 (by omega)
    rw [e1, e2]
    clear n1 n2 e1 e2
    have d : (colOf C k : Int) + 1 = (C : Int) := by omega
    generalize rowOf C k = x at *
    generalize colOf C k = y at *
    go_enter Try.func46, Try.ntmps46
    go_wp2
    refine bodyPost_ret (v := .agg #[.int .i64 ((x + 1 : Nat) : Int), .int .i64 ((0 : Nat) : Int)]) (by simp [results, Try.results46, go_sem]) rfl ⟨rfl, ?_⟩
    exact ((Kept.refl _ w).alloc _).alloc _

/-- Two cells are compared part by part. -/
theorem eq_cel (x y : Cel) (w : World) : (Op.equalIn 10000 38 x.v y.v).run Try.prog w = .ok (decide (x = y)) w := by
  obtain ⟨xg, xa, xb, xm⟩ := x
  obtain ⟨yg, ya, yb, ym⟩ := y
  rw [run_equalIn_agg w 9999 38 _ _ (by kernel_rfl) (by kernel_rfl)]
  simp [go_sem]
  by_cases h1 : xg = yg <;> by_cases h2 : xa = ya <;> by_cases h3 : xb = yb <;> by_cases h4 : xm = ym <;> simp [h1, h2, h3, h4]

set_option maxHeartbeats 400000 in
theorem wipe1 (cb : Nat) (c x : Cel) (w : World) (h : CelAt w cb c) :
    Calls Try.prog 37 #[x.v, .pointer (some ⟨cb, 0, none⟩)] w fun e w' => e = .returned c.v ∧ Kept0 w w' := by
  obtain ⟨h0, h1, h2, h3⟩ := h
  have hl := World.block_lt_of_cell? w _ h0
  go_enter Try.func37, Try.ntmps37
  go_wp2
  refine bodyPost_ret (v := c.v) (by simp [results, Try.results37, go_sem]) rfl ⟨rfl, ?_⟩
  exact ((Kept.refl _ w).alloc _).alloc _

/-- What Dye, and Shield, make of a cell. -/
def dyed (n : Int) (x : Cel) : Cel := { x with a := n }
def shielded (b : Bool) (x : Cel) : Cel := { x with b := b }

set_option maxHeartbeats 400000 in
theorem dye1 (cb : Nat) (n : Int) (x : Cel) (w : World) (h : w.cell? ⟨cb, 0, none⟩ = some (.int .i64 n)) :
    Calls Try.prog 39 #[x.v, .pointer (some ⟨cb, 0, none⟩)] w fun e w' => e = .returned (dyed n x).v ∧ Kept0 w w' := by
  have hl := World.block_lt_of_cell? w _ h
  go_enter Try.func39, Try.ntmps39
  go_wp2
  refine bodyPost_ret (v := (dyed n x).v) (by simp [results, Try.results39, go_sem, dyed]) rfl ⟨rfl, ?_⟩
  exact ((Kept.refl _ w).alloc _).alloc _

set_option maxHeartbeats 400000 in
theorem shield1 (cb : Nat) (b : Bool) (x : Cel) (w : World) (h : w.cell? ⟨cb, 0, none⟩ = some (.bool b)) :
    Calls Try.prog 40 #[x.v, .pointer (some ⟨cb, 0, none⟩)] w fun e w' => e = .returned (shielded b x).v ∧ Kept0 w w' := by
  have hl := World.block_lt_of_cell? w _ h
  go_enter Try.func40, Try.ntmps40
  go_wp2
  refine bodyPost_ret (v := (shielded b x).v) (by simp [results, Try.results40, go_sem, shielded]) rfl ⟨rfl, ?_⟩
  exact ((Kept.refl _ w).alloc _).alloc _

/-- Why there are no cells from one place to another one. -/
def errW (E1 E2 : Int) (b : Bool) : Int := if E1 = 0 then (if E2 = 0 then (if b = true then 1 else 0) else E2) else E1

set_option maxHeartbeats 1000000 in
theorem check_core (g : Value) (r c r' c' : Int) (x1 x2 : Cel) (E1 E2 : Int) (w : World)
    (h1 : ∀ w', Kept0 w w' → Calls Try.prog 19 #[g, .agg #[.int .i64 r, .int .i64 c]] w' fun e w'' => e = .returned (.tuple #[x1.v, .int .i64 E1]) ∧ Kept0 w' w'')
    (h2 : ∀ w', Kept0 w w' → Calls Try.prog 19 #[g, .agg #[.int .i64 r', .int .i64 c']] w' fun e w'' => e = .returned (.tuple #[x2.v, .int .i64 E2]) ∧ Kept0 w' w'') :
    Calls Try.prog 43 #[g, .agg #[.int .i64 r, .int .i64 c], .agg #[.int .i64 r', .int .i64 c']] w fun e w' => e = .returned (.int .i64 (errW E1 E2 (aheadB r' c' r c))) ∧ Kept0 w w' := by
  have H1 := Lib.hid h1
  have H2 := Lib.hid h2
  obtain ⟨V, hV⟩ : ∃ V, V = errW E1 E2 (aheadB r' c' r c) := ⟨_, rfl⟩
  rw [← hV]
  have HV := Lib.hid hV
  clear h1 h2 hV
  go_enter Try.func43, Try.ntmps43
  go_wp2_with fail
  refine (H1.out _ (((Kept.refl _ w).alloc _).alloc _)).mono ?_
  rintro e w1 ⟨rfl, hk1⟩
  have kk : Kept0 w w1 := (((Kept.refl _ w).alloc _).alloc _).trans hk1
  have a0 : w1.cell? ⟨w.heap.size, 0, none⟩ = some (.int .i64 r) := kcell hk1 (by simp [go_sem])
  have a1 : w1.cell? ⟨w.heap.size, 1, none⟩ = some (.int .i64 c) := kcell hk1 (by simp [go_sem])
  have b0 : w1.cell? ⟨w.heap.size + 1, 0, none⟩ = some (.int .i64 r') := kcell hk1 (by simp [go_sem])
  have b1 : w1.cell? ⟨w.heap.size + 1, 1, none⟩ = some (.int .i64 c') := kcell hk1 (by simp [go_sem])
  have s0 : w.heap.size < w1.heap.size := World.block_lt_of_cell? w1 _ a0
  have s1 : w.heap.size + 1 < w1.heap.size := World.block_lt_of_cell? w1 _ b0
  clear hk1 H1
  by_cases e1 : E1 = 0
  · subst e1
    go_wp2_with fail
    obtain ⟨W, hW⟩ : ∃ W, W = w1.alloc (.cells #[.int .i32 x1.g, .int .i64 x1.a, .bool x1.b, .int .i64 x1.m] 38) := ⟨_, rfl⟩
    have kW : Kept0 w1 W := by rw [hW]; exact (Kept.refl _ w1).alloc _
    rw [← hW]
    clear hW
    refine (H2.out _ (kk.trans kW)).mono ?_
    rintro e w2 ⟨rfl, hk2⟩
    have kx := kW.trans hk2
    replace a0 := kcell kx a0
    replace a1 := kcell kx a1
    replace b0 := kcell kx b0
    replace b1 := kcell kx b1
    replace kk := kk.trans kx
    replace s0 : w.heap.size < w2.heap.size := World.block_lt_of_cell? w2 _ a0
    replace s1 : w.heap.size + 1 < w2.heap.size := World.block_lt_of_cell? w2 _ b0
    clear kW hk2 kx H2
    by_cases e2 : E2 = 0
    · subst e2
      go_wp2_with fail
      obtain ⟨W2, hW2⟩ : ∃ W2, W2 = w2.alloc (.cells #[.int .i32 x2.g, .int .i64 x2.a, .bool x2.b, .int .i64 x2.m] 38) := ⟨_, rfl⟩
      have kW : Kept0 w2 W2 := by rw [hW2]; exact (Kept.refl _ w2).alloc _
      rw [← hW2]
      clear hW2
      refine (ahead_any _ _ _ _ _).mono ?_
      rintro e w3 ⟨rfl, hk3⟩
      generalize aheadB r' c' r c = B at *
      cases B
      · go_wp2_with fail
        go_ret
        exact ⟨ret_int (by rw [HV.out]; rfl), kk.trans (kW.trans hk3)⟩
      · go_wp2_with fail
        go_ret
        exact ⟨ret_int (by rw [HV.out]; rfl), kk.trans (kW.trans hk3)⟩
    · go_wp2_with fail
      go_ret
      exact ⟨ret_int (by rw [HV.out]; unfold errW; rw [if_pos rfl, if_neg e2]), kk.alloc _⟩
  · go_wp2_with fail
    go_ret
    exact ⟨ret_int (by rw [HV.out]; unfold errW; rw [if_neg e1]), kk.alloc _⟩

/-- What is wrong with two places of a grid. -/
def wipeE (R C : Nat) (r c r' c' : Int) : Int := if (0 ≤ r ∧ r < R ∧ 0 ≤ c ∧ c < C) ∧ (0 ≤ r' ∧ r' < R ∧ 0 ≤ c' ∧ c' < C) then (if idx C r' c' < idx C r c then 1 else 0) else 11

theorem check_grid (g t cap R C : Nat) (f : Nat → Cel) (r c r' c' : Int) (w : World) (hg : GridAt w g t cap R C f) :
    Calls Try.prog 43 #[.pointer (some ⟨g, 0, none⟩), .agg #[.int .i64 r, .int .i64 c], .agg #[.int .i64 r', .int .i64 c']] w fun e w' => e = .returned (.int .i64 (wipeE R C r c r' c')) ∧ Kept0 w w' := by
  have key : ∀ r c : Int, ∃ (x : Cel) (E : Int), (E = if 0 ≤ r ∧ r < R ∧ 0 ≤ c ∧ c < C then 0 else 11) ∧ ∀ w', Kept0 w w' → Calls Try.prog 19 #[.pointer (some ⟨g, 0, none⟩), .agg #[.int .i64 r, .int .i64 c]] w' fun e w'' => e = .returned (.tuple #[x.v, .int .i64 E]) ∧ Kept0 w' w'' := by
    intro r c
    by_cases h : 0 ≤ r ∧ r < R ∧ 0 ≤ c ∧ c < C
    · exact ⟨f (idx C r c), 0, by rw [if_pos h], fun w' k => at_in g t cap R C f r c w' (hg.kept k (fun e => e) (fun e => e)) h⟩
    · exact ⟨zc, 11, by rw [if_neg h], fun w' k => at_out g R C r c w' (kcell k hg.c0) (kcell k hg.c1) h⟩
  obtain ⟨x1, E1, e1, k1⟩ := key r c
  obtain ⟨x2, E2, e2, k2⟩ := key r' c'
  have := check_core _ r c r' c' x1 x2 E1 E2 w k1 k2
  have hE : errW E1 E2 (aheadB r' c' r c) = wipeE R C r c r' c' := by
    by_cases h : 0 ≤ r ∧ r < R ∧ 0 ≤ c ∧ c < C
    · rw [if_pos h] at e1
      subst e1
      by_cases h' : 0 ≤ r' ∧ r' < R ∧ 0 ≤ c' ∧ c' < C
      · rw [if_pos h'] at e2
        subst e2
        rw [show wipeE R C r c r' c' = if idx C r' c' < idx C r c then 1 else 0 from if_pos ⟨h, h'⟩, ahead_idx (R := R) (C := C) h' h]
        unfold errW
        simp
      · rw [if_neg h'] at e2
        subst e2
        rw [show wipeE R C r c r' c' = 11 from if_neg (fun e => h' e.2)]
        unfold errW
        simp
    · rw [if_neg h] at e1
      subst e1
      rw [show wipeE R C r c r' c' = 11 from if_neg (fun e => h e.1)]
      unfold errW
      simp
  rw [hE] at this
  exact this

theorem check_none (r c r' c' : Int) (w : World) :
    Calls Try.prog 43 #[.pointer none, .agg #[.int .i64 r, .int .i64 c], .agg #[.int .i64 r', .int .i64 c']] w fun e w' => e = .returned (.int .i64 2) ∧ Kept0 w w' :=
  check_core _ r c r' c' zc zc 2 2 w (fun w' _ => at_nil r c w') (fun w' _ => at_nil r' c' w')
end Go.Proofs.Ytedgnjideemfbaa
