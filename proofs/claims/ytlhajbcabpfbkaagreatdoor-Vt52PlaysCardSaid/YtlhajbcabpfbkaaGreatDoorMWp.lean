/-
  Texts merged: WpWips WpVisit WpTurn WpDoes.
-/
import Derived.Test.YtlhajbcabpfbkaaGreatDoorMIt
/-
  What the small calls of package wipe do: ahead, next, check, the closures, visit.
-/
namespace Go.Proofs.YtlhajbcabpfbkaaGreatDoor
namespace Wp
open Go.RowKit

/-- What is done to a cell: nothing, if it is guarded and that counts. -/
def one (b : Bool) (h : Cel → Cel) (x : Cel) : Cel := if b = true ∧ x.b = true then x else h x
/-- Those from i on, n of them, are turned. -/
def partT (f : Nat → Cel) (o : Cel → Cel) (i n : Nat) : Nat → Cel := fun k => if i ≤ k ∧ k < i + n then o (f k) else f k
/-- How many of those from i on, n of them, are turned to other ones. -/
def cntT (f : Nat → Cel) (o : Cel → Cel) (i : Nat) : Nat → Nat
  | 0 => 0
  | n + 1 => cntT f o i n + if o (f (i + n)) = f (i + n) then 0 else 1
theorem cntT_le (f : Nat → Cel) (o : Cel → Cel) (i : Nat) : ∀ n, cntT f o i n ≤ n
  | 0 => Nat.le_refl _
  | n + 1 => by
    have := cntT_le f o i n
    unfold cntT
    split <;> omega
theorem partT_step (f : Nat → Cel) (o : Cel → Cel) (i n k : Nat) : upd (partT f o i n) (i + n) (o (f (i + n))) k = partT f o i (n + 1) k := by
  unfold upd partT
  by_cases h : k = i + n
  · subst h; rw [if_pos rfl, if_pos (by omega)]
  · rw [if_neg h]
    by_cases h2 : i ≤ k ∧ k < i + n
    · rw [if_pos h2, if_pos (by omega)]
    · rw [if_neg h2, if_neg (by omega)]

/-- A place is ahead of another one. -/
def aheadB (r c r' c' : Int) : Bool := decide (r < r' ∨ r = r' ∧ c < c')

set_option maxHeartbeats 400000 in
theorem ahead_any (r c r' c' : Int) (w : World) :
    Calls Tryz.prog 91 #[.agg #[.int .i64 r, .int .i64 c], .agg #[.int .i64 r', .int .i64 c']] w fun e w' => e = .returned (.bool (aheadB r c r' c')) ∧ Kept0 w w' := by
  obtain ⟨B, hB⟩ : ∃ B, B = aheadB r c r' c' := ⟨_, rfl⟩
  rw [← hB]
  have HB := Lib.hid hB
  clear hB
  go_enter Tryz.func91, Tryz.ntmps91
  go_wp2
  all_goals
    go_ret
    refine ⟨ret_bool ?_, ((Kept.refl _ w).alloc _).alloc _⟩
    rw [HB.out]
    unfold aheadB
    rw [Bool.eq_iff_iff]
    simp
    try omega

theorem ahead_idx {R C : Nat} {r c r' c' : Int} (h : There R C r c) (h' : There R C r' c') : aheadB r c r' c' = decide (idx C r c < idx C r' c') := by
  obtain ⟨h1, h2, h3, h4⟩ := h
  obtain ⟨g1, g2, g3, g4⟩ := h'
  obtain ⟨a, rfl⟩ := Int.eq_ofNat_of_zero_le h1
  obtain ⟨b, rfl⟩ := Int.eq_ofNat_of_zero_le h3
  obtain ⟨a', rfl⟩ := Int.eq_ofNat_of_zero_le g1
  obtain ⟨b', rfl⟩ := Int.eq_ofNat_of_zero_le g3
  unfold aheadB idx
  simp only [Int.toNat_natCast]
  rw [decide_eq_decide]
  constructor
  · rintro (h | ⟨h, h'⟩)
    · have : (a + 1) * C ≤ a' * C := Nat.mul_le_mul_right _ (by omega)
      rw [Nat.add_mul] at this
      omega
    · obtain rfl : a = a' := by omega
      omega
  · intro h
    by_cases e : a = a'
    · subst e
      exact Or.inr ⟨rfl, by omega⟩
    · by_cases l : a < a'
      · exact Or.inl (by omega)
      · have : (a' + 1) * C ≤ a * C := Nat.mul_le_mul_right _ (by omega)
        rw [Nat.add_mul] at this
        omega

theorem ahead_row_col {C j k : Nat} (hC : 1 ≤ C) : aheadB (rowOf C j) (colOf C j) (rowOf C k) (colOf C k) = decide (j < k) := by
  have hj := colOf_lt (k := j) hC
  have hk := colOf_lt (k := k) hC
  have := ahead_idx (R := rowOf C j + rowOf C k + 1) (C := C) (r := rowOf C j) (c := colOf C j) (r' := rowOf C k) (c' := colOf C k) ⟨by omega, by omega, by omega, by omega⟩ ⟨by omega, by omega, by omega, by omega⟩
  rw [this, idx_row_col, idx_row_col]

set_option maxHeartbeats 400000 in
theorem next_any (C k : Nat) (w : World) (hC1 : 1 ≤ C) (hC2 : C ≤ 255) (hk : k < 70000) :
    Calls Tryz.prog 92 #[.agg #[.int .i64 (rowOf C k : Int), .int .i64 (colOf C k : Int)], .int .i64 (C : Int)] w fun e w' => e = .returned (.agg #[.int .i64 (rowOf C (k + 1) : Int), .int .i64 (colOf C (k + 1) : Int)]) ∧ Kept0 w w' := by
  have hlt := colOf_lt (k := k) hC1
  have hr : rowOf C k ≤ k := Nat.div_le_self _ _
  obtain ⟨n1, n2⟩ := next_place (k := k) hC1
  by_cases h : colOf C k + 1 < C
  · obtain ⟨e1, e2⟩ := n1 h
    rw [e1, e2]
    clear n1 n2 e1 e2
    have d : ¬ ((colOf C k : Int) + 1 = (C : Int)) := by omega
    generalize rowOf C k = x at *
    generalize colOf C k = y at *
    go_enter Tryz.func92, Tryz.ntmps92
    go_wp2
    refine bodyPost_ret (v := .agg #[.int .i64 (x : Int), .int .i64 ((y + 1 : Nat) : Int)]) (by simp [results, Tryz.results92, go_sem]) rfl ⟨rfl, ?_⟩
    exact ((Kept.refl _ w).alloc _).alloc _
  · obtain ⟨e1, e2⟩ := n2 (by omega)
    rw [e1, e2]
    clear n1 n2 e1 e2
    have d : (colOf C k : Int) + 1 = (C : Int) := by omega
    generalize rowOf C k = x at *
    generalize colOf C k = y at *
    go_enter Tryz.func92, Tryz.ntmps92
    go_wp2
    refine bodyPost_ret (v := .agg #[.int .i64 ((x + 1 : Nat) : Int), .int .i64 ((0 : Nat) : Int)]) (by simp [results, Tryz.results92, go_sem]) rfl ⟨rfl, ?_⟩
    exact ((Kept.refl _ w).alloc _).alloc _

/-- Two cells are compared part by part. -/
theorem eq_cel (x y : Cel) (w : World) : (Op.equalIn 10000 52 x.v y.v).run Tryz.prog w = .ok (decide (x = y)) w := by
  obtain ⟨xg, xa, xb, xm⟩ := x
  obtain ⟨yg, ya, yb, ym⟩ := y
  rw [run_equalIn_agg w 9999 52 _ _ (by kernel_rfl) (by kernel_rfl)]
  simp [go_sem]
  by_cases h1 : xg = yg <;> by_cases h2 : xa = ya <;> by_cases h3 : xb = yb <;> by_cases h4 : xm = ym <;> simp [h1, h2, h3, h4]

set_option maxHeartbeats 400000 in
theorem wipe1 (cb : Nat) (c x : Cel) (w : World) (h : CelAt w cb c) :
    Calls Tryz.prog 70 #[x.v, .pointer (some ⟨cb, 0, none⟩)] w fun e w' => e = .returned c.v ∧ Kept0 w w' := by
  obtain ⟨h0, h1, h2, h3⟩ := h
  have hl := World.block_lt_of_cell? w _ h0
  go_enter Tryz.func70, Tryz.ntmps70
  go_wp2
  refine bodyPost_ret (v := c.v) (by simp [results, Tryz.results70, go_sem]) rfl ⟨rfl, ?_⟩
  exact ((Kept.refl _ w).alloc _).alloc _

/-- What Dye, and Shield, make of a cell. -/
def dyed (n : Int) (x : Cel) : Cel := { x with a := n }
def shielded (b : Bool) (x : Cel) : Cel := { x with b := b }



/-- Why there are no cells from one place to another one. -/
def errW (E1 E2 : Int) (b : Bool) : Int := if E1 = 0 then (if E2 = 0 then (if b = true then 1 else 0) else E2) else E1

set_option maxHeartbeats 1000000 in
theorem check_core (g : Value) (r c r' c' : Int) (x1 x2 : Cel) (E1 E2 : Int) (w : World)
    (h1 : ∀ w', Kept0 w w' → Calls Tryz.prog 35 #[g, .agg #[.int .i64 r, .int .i64 c]] w' fun e w'' => e = .returned (.tuple #[x1.v, .int .i64 E1]) ∧ Kept0 w' w'')
    (h2 : ∀ w', Kept0 w w' → Calls Tryz.prog 35 #[g, .agg #[.int .i64 r', .int .i64 c']] w' fun e w'' => e = .returned (.tuple #[x2.v, .int .i64 E2]) ∧ Kept0 w' w'') :
    Calls Tryz.prog 88 #[g, .agg #[.int .i64 r, .int .i64 c], .agg #[.int .i64 r', .int .i64 c']] w fun e w' => e = .returned (.int .i64 (errW E1 E2 (aheadB r' c' r c))) ∧ Kept0 w w' := by
  have H1 := Lib.hid h1
  have H2 := Lib.hid h2
  obtain ⟨V, hV⟩ : ∃ V, V = errW E1 E2 (aheadB r' c' r c) := ⟨_, rfl⟩
  rw [← hV]
  have HV := Lib.hid hV
  clear h1 h2 hV
  go_enter Tryz.func88, Tryz.ntmps88
  go_wp2_with fail
  refine (H1.out _ (((Kept.refl _ w).alloc _).alloc _)).mono ?_
  rintro e w1 ⟨rfl, hk1⟩
  have kk : Kept0 w w1 := (((Kept.refl _ w).alloc _).alloc _).trans hk1
  have a0 : w1.cell? ⟨w.heap.size, 0, none⟩ = some (.int .i64 r) := kcell hk1 (by simp [go_sem])
  have a1 : w1.cell? ⟨w.heap.size, 1, none⟩ = some (.int .i64 c) := kcell hk1 (by simp [go_sem])
  have b0 : w1.cell? ⟨w.heap.size + 1, 0, none⟩ = some (.int .i64 r') := kcell hk1 (by simp [go_sem])
  have b1 : w1.cell? ⟨w.heap.size + 1, 1, none⟩ = some (.int .i64 c') := kcell hk1 (by simp [go_sem])
  have s0 : w.heap.size < w1.heap.size := World.block_lt_of_cell? w1 _ a0
  have s1 : w.heap.size + 1 < w1.heap.size := World.block_lt_of_cell? w1 _ b0
  clear hk1 H1
  by_cases e1 : E1 = 0
  · subst e1
    go_wp2_with fail
    obtain ⟨W, hW⟩ : ∃ W, W = w1.alloc (.cells #[.int .i32 x1.g, .int .i64 x1.a, .bool x1.b, .int .i64 x1.m] 52) := ⟨_, rfl⟩
    have kW : Kept0 w1 W := by rw [hW]; exact (Kept.refl _ w1).alloc _
    rw [← hW]
    clear hW
    refine (H2.out _ (kk.trans kW)).mono ?_
    rintro e w2 ⟨rfl, hk2⟩
    have kx := kW.trans hk2
    replace a0 := kcell kx a0
    replace a1 := kcell kx a1
    replace b0 := kcell kx b0
    replace b1 := kcell kx b1
    replace kk := kk.trans kx
    replace s0 : w.heap.size < w2.heap.size := World.block_lt_of_cell? w2 _ a0
    replace s1 : w.heap.size + 1 < w2.heap.size := World.block_lt_of_cell? w2 _ b0
    clear kW hk2 kx H2
    by_cases e2 : E2 = 0
    · subst e2
      go_wp2_with fail
      obtain ⟨W2, hW2⟩ : ∃ W2, W2 = w2.alloc (.cells #[.int .i32 x2.g, .int .i64 x2.a, .bool x2.b, .int .i64 x2.m] 52) := ⟨_, rfl⟩
      have kW : Kept0 w2 W2 := by rw [hW2]; exact (Kept.refl _ w2).alloc _
      rw [← hW2]
      clear hW2
      refine (ahead_any _ _ _ _ _).mono ?_
      rintro e w3 ⟨rfl, hk3⟩
      generalize aheadB r' c' r c = B at *
      cases B
      · go_wp2_with fail
        go_ret
        exact ⟨ret_int (by rw [HV.out]; rfl), kk.trans (kW.trans hk3)⟩
      · go_wp2_with fail
        go_ret
        exact ⟨ret_int (by rw [HV.out]; rfl), kk.trans (kW.trans hk3)⟩
    · go_wp2_with fail
      go_ret
      exact ⟨ret_int (by rw [HV.out]; unfold errW; rw [if_pos rfl, if_neg e2]), kk.alloc _⟩
  · go_wp2_with fail
    go_ret
    exact ⟨ret_int (by rw [HV.out]; unfold errW; rw [if_neg e1]), kk.alloc _⟩

/-- What is wrong with two places of a grid. -/
def wipeE (R C : Nat) (r c r' c' : Int) : Int := if (0 ≤ r ∧ r < R ∧ 0 ≤ c ∧ c < C) ∧ (0 ≤ r' ∧ r' < R ∧ 0 ≤ c' ∧ c' < C) then (if idx C r' c' < idx C r c then 1 else 0) else 11

theorem check_grid (g t cap R C : Nat) (f : Nat → Cel) (r c r' c' : Int) (w : World) (hg : GridAt w g t cap R C f) :
    Calls Tryz.prog 88 #[.pointer (some ⟨g, 0, none⟩), .agg #[.int .i64 r, .int .i64 c], .agg #[.int .i64 r', .int .i64 c']] w fun e w' => e = .returned (.int .i64 (wipeE R C r c r' c')) ∧ Kept0 w w' := by
  have key : ∀ r c : Int, ∃ (x : Cel) (E : Int), (E = if 0 ≤ r ∧ r < R ∧ 0 ≤ c ∧ c < C then 0 else 11) ∧ ∀ w', Kept0 w w' → Calls Tryz.prog 35 #[.pointer (some ⟨g, 0, none⟩), .agg #[.int .i64 r, .int .i64 c]] w' fun e w'' => e = .returned (.tuple #[x.v, .int .i64 E]) ∧ Kept0 w' w'' := by
    intro r c
    by_cases h : 0 ≤ r ∧ r < R ∧ 0 ≤ c ∧ c < C
    · exact ⟨f (idx C r c), 0, by rw [if_pos h], fun w' k => at_in g t cap R C f r c w' (hg.kept k (fun e => e) (fun e => e)) h⟩
    · exact ⟨zc, 11, by rw [if_neg h], fun w' k => at_out g R C r c w' (kcell k hg.c0) (kcell k hg.c1) h⟩
  obtain ⟨x1, E1, e1, k1⟩ := key r c
  obtain ⟨x2, E2, e2, k2⟩ := key r' c'
  have := check_core _ r c r' c' x1 x2 E1 E2 w k1 k2
  have hE : errW E1 E2 (aheadB r' c' r c) = wipeE R C r c r' c' := by
    by_cases h : 0 ≤ r ∧ r < R ∧ 0 ≤ c ∧ c < C
    · rw [if_pos h] at e1
      subst e1
      by_cases h' : 0 ≤ r' ∧ r' < R ∧ 0 ≤ c' ∧ c' < C
      · rw [if_pos h'] at e2
        subst e2
        rw [show wipeE R C r c r' c' = if idx C r' c' < idx C r c then 1 else 0 from if_pos ⟨h, h'⟩, ahead_idx (R := R) (C := C) h' h]
        unfold errW
        simp
      · rw [if_neg h'] at e2
        subst e2
        rw [show wipeE R C r c r' c' = 11 from if_neg (fun e => h' e.2)]
        unfold errW
        simp
    · rw [if_neg h] at e1
      subst e1
      rw [show wipeE R C r c r' c' = 11 from if_neg (fun e => h e.1)]
      unfold errW
      simp
  rw [hE] at this
  exact this

theorem check_none (r c r' c' : Int) (w : World) :
    Calls Tryz.prog 88 #[.pointer none, .agg #[.int .i64 r, .int .i64 c], .agg #[.int .i64 r', .int .i64 c']] w fun e w' => e = .returned (.int .i64 2) ∧ Kept0 w w' :=
  check_core _ r c r' c' zc zc 2 2 w (fun w' _ => at_nil r c w') (fun w' _ => at_nil r' c' w')
end Wp
end Go.Proofs.YtlhajbcabpfbkaaGreatDoor

/-
  What visit does to a cell, and turn to those from one place to another one.
-/
namespace Go.Proofs.YtlhajbcabpfbkaaGreatDoor
namespace Wp
open Go.RowKit

/-- A closure whose variable lies in block cb makes h of a cell. -/
def Becomes (fv cb : Nat) (ob : Obj) (h : Cel → Cel) : Prop := (∀ args w, (callFunc fv args).run Tryz.prog w = .ok (.enter fv args) w) ∧ ∀ (x : Cel) (w : World), w.heap[cb]? = some ob → Calls Tryz.prog fv #[x.v, .pointer (some ⟨cb, 0, none⟩)] w fun e w' => e = .returned (h x).v ∧ Kept0 w w'

/-- What visit is told: the grid, whether what is guarded counts, what is made of a cell, how many were turned. -/
structure Told (w : World) (gb bb fb nb cb g : Nat) (b : Bool) (fv : Nat) (ob : Obj) (n : Nat) : Prop where
  hg : w.cell? ⟨gb, 0, none⟩ = some (.pointer (some ⟨g, 0, none⟩))
  hb : w.cell? ⟨bb, 0, none⟩ = some (.bool b)
  hf : w.cell? ⟨fb, 0, none⟩ = some (.func (.func fv) #[] #[.pointer (some ⟨cb, 0, none⟩)])
  ho : w.heap[cb]? = some ob
  hn : w.cell? ⟨nb, 0, none⟩ = some (.int .i64 (n : Int))
  hz : w.frozen? ⟨nb, 0, none⟩ = false

theorem Told.keep {w w' : World} {gb bb fb nb cb g : Nat} {b : Bool} {fv : Nat} {ob : Obj} {n : Nat} (h : Told w gb bb fb nb cb g b fv ob n) (k : Kept0 w w') : Told w' gb bb fb nb cb g b fv ob n :=
  ⟨kcell k h.hg, kcell k h.hb, kcell k h.hf, (k.block _ (Array.getElem?_eq_some_iff.1 h.ho).1 (fun e => e)).trans h.ho, kcell k h.hn, kfrozen k h.hn h.hz⟩

theorem upd_self {f : Nat → Cel} {i : Nat} {x : Cel} (h : x = f i) (k : Nat) : f k = upd f i x k := by
  unfold upd
  by_cases e : k = i
  · rw [if_pos e, e, h]
  · rw [if_neg e]

set_option maxHeartbeats 2000000 in
theorem visit_any (gb bb fb nb cb g t cap R C : Nat) (b : Bool) (fv : Nat) (ob : Obj) (n : Nat) (h : Cel → Cel) (f : Nat → Cel) (r c : Int) (w : World) (hT : Told w gb bb fb nb cb g b fv ob n) (hB : Becomes fv cb ob h) (hg : GridAt w g t cap R C f) (hth : There R C r c) (hn : n ≤ 70000) (hnt : nb ≠ t) (hng : nb ≠ g) :
    Calls Tryz.prog 89 #[.agg #[.int .i64 r, .int .i64 c], .pointer (some ⟨gb, 0, none⟩), .pointer (some ⟨bb, 0, none⟩), .pointer (some ⟨fb, 0, none⟩), .pointer (some ⟨nb, 0, none⟩)] w fun e w' => e = .returned (.tuple #[]) ∧
      GridAt w' g t cap R C (upd f (idx C r c) (one b h (f (idx C r c)))) ∧ w'.cell? ⟨nb, 0, none⟩ = some (.int .i64 ((n + (if one b h (f (idx C r c)) = f (idx C r c) then 0 else 1) : Nat) : Int)) ∧ w'.frozen? ⟨nb, 0, none⟩ = false ∧ Kept (fun q => q = t ∨ q = nb) w w' := by
  obtain ⟨x, hx⟩ : ∃ x, x = f (idx C r c) := ⟨_, rfl⟩
  rw [← hx]
  obtain ⟨G, hG⟩ : ∃ G : World → Prop, G = fun w' => GridAt w' g t cap R C (upd f (idx C r c) (one b h x)) ∧ w'.cell? ⟨nb, 0, none⟩ = some (.int .i64 ((n + (if one b h x = x then 0 else 1) : Nat) : Int)) ∧ w'.frozen? ⟨nb, 0, none⟩ = false ∧ Kept (fun q => q = t ∨ q = nb) w w' := ⟨_, rfl⟩
  have hGi : ∀ w', (GridAt w' g t cap R C (upd f (idx C r c) (one b h x)) ∧ w'.cell? ⟨nb, 0, none⟩ = some (.int .i64 ((n + (if one b h x = x then 0 else 1) : Nat) : Int)) ∧ w'.frozen? ⟨nb, 0, none⟩ = false ∧ Kept (fun q => q = t ∨ q = nb) w w') → G w' := fun w' h => by rw [hG]; exact h
  suffices hs : Calls Tryz.prog 89 #[.agg #[.int .i64 r, .int .i64 c], .pointer (some ⟨gb, 0, none⟩), .pointer (some ⟨bb, 0, none⟩), .pointer (some ⟨fb, 0, none⟩), .pointer (some ⟨nb, 0, none⟩)] w fun e w' => e = .returned (.tuple #[]) ∧ G w' by
    rw [hG] at hs; exact hs
  have HGI := Lib.hid hGi
  clear hG hGi
  have HX := Lib.hid hx
  have HB := Lib.hid hB
  have HG := Lib.hid hg
  have HT := Lib.hid hth
  have h1 := hT.hg
  have hgl := World.block_lt_of_cell? w _ h1
  clear hx hB hg hth
  obtain ⟨xg, xa, xb, xm⟩ := x
  obtain ⟨y, hy⟩ : ∃ y, y = h ⟨xg, xa, xb, xm⟩ := ⟨_, rfl⟩
  have HC := Lib.hid (HB.out.2 ⟨xg, xa, xb, xm⟩)
  have eg := HB.out.1
  rw [← hy] at HC
  have HY := Lib.hid hy
  clear hy HB
  go_enter Tryz.func89, Tryz.ntmps89
  go_wp2_with fail
  have k0 : Kept0 w (w.alloc (.cells #[.int .i64 r, .int .i64 c] 45)) := (Kept.refl _ w).alloc _
  refine (at_in g t cap R C f r c _ (HG.out.kept k0 (fun e => e) (fun e => e)) HT.out).mono ?_
  rw [← HX.out]
  rintro e w1 ⟨rfl, hk1⟩
  have p0 : w1.cell? ⟨w.heap.size, 0, none⟩ = some (.int .i64 r) := kcell hk1 (by simp [go_sem])
  have p1 : w1.cell? ⟨w.heap.size, 1, none⟩ = some (.int .i64 c) := kcell hk1 (by simp [go_sem])
  have kk := k0.trans hk1
  have hT1 := Lib.hid (hT.keep kk)
  have hb := hT1.out.hb
  have hf := hT1.out.hf
  have hbl := World.block_lt_of_cell? w1 _ hb
  have hfl := World.block_lt_of_cell? w1 _ hf
  clear hk1 k0 hT h1
  have HG1 := Lib.hid (HG.out.kept kk (fun e => e) (fun e => e))
  clear HG
  cases b
  · have HE : Hid (one false h ⟨xg, xa, xb, xm⟩ = y) := by show _ = _; rw [HY.out]; rfl
    go_wp2_with fail
    obtain ⟨W, hW⟩ : ∃ W, W = w1.alloc (.cells #[.int .i32 xg, .int .i64 xa, .bool xb, .int .i64 xm] 52) := ⟨_, rfl⟩
    have kW : Kept0 w1 W := by rw [hW]; exact (Kept.refl _ w1).alloc _
    have hc : CelAt W w1.heap.size ⟨xg, xa, xb, xm⟩ := by rw [hW]; exact CelAt.new w1 ⟨xg, xa, xb, xm⟩ 52
    rw [← hW]
    clear hW
    refine (HC.out W (hT1.out.keep kW).ho).mono ?_
    rintro e w2 ⟨rfl, hk2⟩
    have k2 := kW.trans hk2
    have p2 := kcell k2 p0
    have p3 := kcell k2 p1
    obtain ⟨x0, x1, x2, x3⟩ := hc.kept hk2 (fun e => e)
    have hT2 := Lib.hid (hT1.out.keep k2)
    have q1 := hT2.out.hg
    have q2 := hT2.out.hn
    have q3 := hT2.out.hz
    have l1 := World.block_lt_of_cell? w2 _ p2
    have l2 := World.block_lt_of_cell? w2 _ q1
    have l3 := World.block_lt_of_cell? w2 _ q2
    have l4 := World.block_lt_of_cell? w2 _ x0
    have HG2 := Lib.hid (HG1.out.kept k2 (fun e => e) (fun e => e))
    have kk2 := Lib.hid (kk.trans k2)
    have heq := eq_cel y ⟨xg, xa, xb, xm⟩
    obtain ⟨D, hD⟩ : ∃ D, D = decide (y = ⟨xg, xa, xb, xm⟩) := ⟨_, rfl⟩
    rw [← hD] at heq
    have HD := Lib.hid hD
    simp only at x0 x1 x2 x3
    clear hD HC hT1 HG1 kk kW hk2 k2 p0 p1 hc
    cases D
    · have hyx : ¬ y = ⟨xg, xa, xb, xm⟩ := of_decide_eq_false HD.out.symm
      have HYX := Lib.hid hyx
      clear hyx
      go_wp2_with fail
      obtain ⟨V, hV⟩ : ∃ V, V = w2.alloc (.cells #[.int .i32 y.g, .int .i64 y.a, .bool y.b, .int .i64 y.m] 52) := ⟨_, rfl⟩
      have kV : Kept0 w2 V := by rw [hV]; exact (Kept.refl _ w2).alloc _
      rw [← hV]
      clear hV
      refine (set_in g t cap R C f r c y V (HG2.out.kept kV (fun e => e) (fun e => e)) HT.out).mono ?_
      rintro e w3 ⟨rfl, hG3, hk3⟩
      have r1 := kcellS hk3 (kcell kV q2) hnt
      have r2 : w3.frozen? ⟨nb, 0, none⟩ = false := (hk3.frozen (World.block_lt_of_cell? V _ (kcell kV q2)) hnt).trans (kfrozen kV q2 q3)
      have r3 := World.block_lt_of_cell? w3 _ r1
      have K3 : Hid (Kept (fun q => q = t ∨ q = nb) w w3) := ((show Kept0 w V from kk2.out.trans kV).to).trans (hk3.mono (fun _ _ e => Or.inl e))
      have HG3 := Lib.hid hG3
      clear hG3 hk3 kV
      go_wp2_with fail
      go_end0
      refine ⟨rfl, HGI.out _ ?_⟩
      rw [HE.out, if_neg HYX.out]
      have hk4 : Kept (· = nb) w3 (w3.setCell ⟨nb, 0, none⟩ (.int .i64 ((n : Int) + 1))) := Kept.set1 _ _ _ _
      exact ⟨HG3.out.kept hk4 (fun e => hng e.symm) (fun e => hnt e.symm), by simp [go_sem, r1], by simp [go_sem, r2], K3.out.setCell _ (Or.inr (Or.inr rfl)) _⟩
    · have hyx : y = ⟨xg, xa, xb, xm⟩ := of_decide_eq_true HD.out.symm
      have HYX := Lib.hid hyx
      clear hyx
      go_wp2_with fail
      go_end0
      refine ⟨rfl, HGI.out _ ?_⟩
      rw [HE.out, if_pos HYX.out]
      have k8 : Kept0 w2 (w2.alloc (.cells #[.int .i32 y.g, .int .i64 y.a, .bool y.b, .int .i64 y.m] 52)) := (Kept.refl _ w2).alloc _
      have k9 : Kept0 w (w2.alloc (.cells #[.int .i32 y.g, .int .i64 y.a, .bool y.b, .int .i64 y.m] 52)) := kk2.out.trans k8
      have hT3 := hT2.out.keep k8
      exact ⟨(HG2.out.kept k8 (fun e => e) (fun e => e)).congr (fun k _ => upd_self (HYX.out.trans HX.out) k), hT3.hn, hT3.hz, k9.to⟩
  · cases xb
    · have HE : Hid (one true h ⟨xg, xa, false, xm⟩ = y) := by show _ = _; rw [HY.out]; rfl
      go_wp2_with fail
      obtain ⟨W, hW⟩ : ∃ W, W = w1.alloc (.cells #[.int .i32 xg, .int .i64 xa, .bool false, .int .i64 xm] 52) := ⟨_, rfl⟩
      have kW : Kept0 w1 W := by rw [hW]; exact (Kept.refl _ w1).alloc _
      have hc : CelAt W w1.heap.size ⟨xg, xa, false, xm⟩ := by rw [hW]; exact CelAt.new w1 ⟨xg, xa, false, xm⟩ 52
      rw [← hW]
      clear hW
      refine (HC.out W (hT1.out.keep kW).ho).mono ?_
      rintro e w2 ⟨rfl, hk2⟩
      have k2 := kW.trans hk2
      have p2 := kcell k2 p0
      have p3 := kcell k2 p1
      obtain ⟨x0, x1, x2, x3⟩ := hc.kept hk2 (fun e => e)
      have hT2 := Lib.hid (hT1.out.keep k2)
      have q1 := hT2.out.hg
      have q2 := hT2.out.hn
      have q3 := hT2.out.hz
      have l1 := World.block_lt_of_cell? w2 _ p2
      have l2 := World.block_lt_of_cell? w2 _ q1
      have l3 := World.block_lt_of_cell? w2 _ q2
      have l4 := World.block_lt_of_cell? w2 _ x0
      have HG2 := Lib.hid (HG1.out.kept k2 (fun e => e) (fun e => e))
      have kk2 := Lib.hid (kk.trans k2)
      have heq := eq_cel y ⟨xg, xa, false, xm⟩
      obtain ⟨D, hD⟩ : ∃ D, D = decide (y = ⟨xg, xa, false, xm⟩) := ⟨_, rfl⟩
      rw [← hD] at heq
      have HD := Lib.hid hD
      simp only at x0 x1 x2 x3
      clear hD HC hT1 HG1 kk kW hk2 k2 p0 p1 hc
      cases D
      · have hyx : ¬ y = ⟨xg, xa, false, xm⟩ := of_decide_eq_false HD.out.symm
        have HYX := Lib.hid hyx
        clear hyx
        go_wp2_with fail
        obtain ⟨V, hV⟩ : ∃ V, V = w2.alloc (.cells #[.int .i32 y.g, .int .i64 y.a, .bool y.b, .int .i64 y.m] 52) := ⟨_, rfl⟩
        have kV : Kept0 w2 V := by rw [hV]; exact (Kept.refl _ w2).alloc _
        rw [← hV]
        clear hV
        refine (set_in g t cap R C f r c y V (HG2.out.kept kV (fun e => e) (fun e => e)) HT.out).mono ?_
        rintro e w3 ⟨rfl, hG3, hk3⟩
        have r1 := kcellS hk3 (kcell kV q2) hnt
        have r2 : w3.frozen? ⟨nb, 0, none⟩ = false := (hk3.frozen (World.block_lt_of_cell? V _ (kcell kV q2)) hnt).trans (kfrozen kV q2 q3)
        have r3 := World.block_lt_of_cell? w3 _ r1
        have K3 : Hid (Kept (fun q => q = t ∨ q = nb) w w3) := ((show Kept0 w V from kk2.out.trans kV).to).trans (hk3.mono (fun _ _ e => Or.inl e))
        have HG3 := Lib.hid hG3
        clear hG3 hk3 kV
        go_wp2_with fail
        go_end0
        refine ⟨rfl, HGI.out _ ?_⟩
        rw [HE.out, if_neg HYX.out]
        have hk4 : Kept (· = nb) w3 (w3.setCell ⟨nb, 0, none⟩ (.int .i64 ((n : Int) + 1))) := Kept.set1 _ _ _ _
        exact ⟨HG3.out.kept hk4 (fun e => hng e.symm) (fun e => hnt e.symm), by simp [go_sem, r1], by simp [go_sem, r2], K3.out.setCell _ (Or.inr (Or.inr rfl)) _⟩
      · have hyx : y = ⟨xg, xa, false, xm⟩ := of_decide_eq_true HD.out.symm
        have HYX := Lib.hid hyx
        clear hyx
        go_wp2_with fail
        go_end0
        refine ⟨rfl, HGI.out _ ?_⟩
        rw [HE.out, if_pos HYX.out]
        have k8 : Kept0 w2 (w2.alloc (.cells #[.int .i32 y.g, .int .i64 y.a, .bool y.b, .int .i64 y.m] 52)) := (Kept.refl _ w2).alloc _
        have k9 : Kept0 w (w2.alloc (.cells #[.int .i32 y.g, .int .i64 y.a, .bool y.b, .int .i64 y.m] 52)) := kk2.out.trans k8
        have hT3 := hT2.out.keep k8
        exact ⟨(HG2.out.kept k8 (fun e => e) (fun e => e)).congr (fun k _ => upd_self (HYX.out.trans HX.out) k), hT3.hn, hT3.hz, k9.to⟩
    · have HE : Hid (one true h ⟨xg, xa, true, xm⟩ = ⟨xg, xa, true, xm⟩) := rfl
      go_wp2_with fail
      refine bodyPost_ret (v := .tuple #[]) (by simp [results, Tryz.results89, go_sem]) rfl ⟨rfl, HGI.out _ ?_⟩
      rw [HE.out, if_pos rfl]
      have hT2 := hT1.out.keep ((Kept.refl _ w1).alloc (.cells #[.int .i32 xg, .int .i64 xa, .bool true, .int .i64 xm] 52))
      have k9 : Kept0 w (w1.alloc (.cells #[.int .i32 xg, .int .i64 xa, .bool true, .int .i64 xm] 52)) := kk.alloc _
      exact ⟨(HG1.out.kept ((Kept.refl (fun _ => False) w1).alloc _) (fun e => e) (fun e => e)).congr (fun k _ => upd_self HX.out k), hT2.hn, hT2.hz, k9.to⟩
end Wp
end Go.Proofs.YtlhajbcabpfbkaaGreatDoor

/-
  What turn does to the cells from one place to another one.
-/
namespace Go.Proofs.YtlhajbcabpfbkaaGreatDoor
namespace Wp
open Go.RowKit

/-- What stands when d cells from the i-th on were visited, and the last one is the j-th. -/
structure Trn (w wr : World) (gb tb bb fb nb cb g t cap R C : Nat) (b : Bool) (fv : Nat) (ob : Obj) (f : Nat → Cel) (o : Cel → Cel) (i j d : Nat) : Prop where
  told : Told wr gb bb fb nb cb g b fv ob (cntT f o i d)
  grid : GridAt wr g t cap R C (partT f o i d)
  to0 : wr.cell? ⟨tb, 0, none⟩ = some (.int .i64 (rowOf C j : Int))
  to1 : wr.cell? ⟨tb, 1, none⟩ = some (.int .i64 (colOf C j : Int))
  kept : Kept (· = t) w wr

theorem Trn.keep {w wr w' : World} {gb tb bb fb nb cb g t cap R C : Nat} {b : Bool} {fv : Nat} {ob : Obj} {f : Nat → Cel} {o : Cel → Cel} {i j d : Nat} (h : Trn w wr gb tb bb fb nb cb g t cap R C b fv ob f o i j d) (k : Kept0 wr w') : Trn w w' gb tb bb fb nb cb g t cap R C b fv ob f o i j d :=
  ⟨h.told.keep k, h.grid.kept k (fun e => e) (fun e => e), kcell k h.to0, kcell k h.to1, h.kept.trans k.to⟩

theorem Trn.step {w wr w' : World} {gb tb bb fb nb cb g t cap R C : Nat} {b : Bool} {fv : Nat} {ob : Obj} {f : Nat → Cel} {h : Cel → Cel} {i j d : Nat} (H : Trn w wr gb tb bb fb nb cb g t cap R C b fv ob f (one b h) i j d)
    (hg : GridAt w' g t cap R C (upd (partT f (one b h) i d) (i + d) (one b h (f (i + d))))) (hn : w'.cell? ⟨nb, 0, none⟩ = some (.int .i64 ((cntT f (one b h) i d + (if one b h (f (i + d)) = f (i + d) then 0 else 1) : Nat) : Int))) (hz : w'.frozen? ⟨nb, 0, none⟩ = false) (k : Kept (fun q => q = t ∨ q = nb) wr w')
    (n1 : gb ≠ t ∧ bb ≠ t ∧ fb ≠ t ∧ cb ≠ t ∧ tb ≠ t) (n2 : gb ≠ nb ∧ bb ≠ nb ∧ fb ≠ nb ∧ cb ≠ nb ∧ tb ≠ nb) (hnb : w.heap.size ≤ nb) : Trn w w' gb tb bb fb nb cb g t cap R C b fv ob f (one b h) i j (d + 1) :=
  ⟨⟨kcellS k H.told.hg (fun e => e.elim n1.1 n2.1), kcellS k H.told.hb (fun e => e.elim n1.2.1 n2.2.1), kcellS k H.told.hf (fun e => e.elim n1.2.2.1 n2.2.2.1),
    (k.block _ (Array.getElem?_eq_some_iff.1 H.told.ho).1 (fun e => e.elim n1.2.2.2.1 n2.2.2.2.1)).trans H.told.ho, hn, hz⟩,
    hg.congr (fun q _ => partT_step f (one b h) i d q), kcellS k H.to0 (fun e => e.elim n1.2.2.2.2 n2.2.2.2.2), kcellS k H.to1 (fun e => e.elim n1.2.2.2.2 n2.2.2.2.2),
    H.kept.later k (fun q hq e => e.elim id (fun e => by omega))⟩

theorem Trn.apart {w wr w' : World} {gb tb bb fb nb cb g t cap R C : Nat} {b : Bool} {fv : Nat} {ob : Obj} {f : Nat → Cel} {o : Cel → Cel} {i j d q : Nat} (h : Trn w wr gb tb bb fb nb cb g t cap R C b fv ob f o i j d) (k : Kept (· = q) wr w')
    (hq : gb ≠ q ∧ tb ≠ q ∧ bb ≠ q ∧ fb ≠ q ∧ nb ≠ q ∧ cb ≠ q ∧ g ≠ q ∧ t ≠ q) (hw : w.heap.size ≤ q) : Trn w w' gb tb bb fb nb cb g t cap R C b fv ob f o i j d := by
  obtain ⟨q1, q2, q3, q4, q5, q6, q7, q8⟩ := hq
  exact ⟨⟨kcellS k h.told.hg q1, kcellS k h.told.hb q3, kcellS k h.told.hf q4, (k.block _ (Array.getElem?_eq_some_iff.1 h.told.ho).1 q6).trans h.told.ho, kcellS k h.told.hn q5, (k.frozen (World.block_lt_of_cell? wr _ h.told.hn) q5).trans h.told.hz⟩,
    h.grid.kept k q7 q8, kcellS k h.to0 q2, kcellS k h.to1 q2, h.kept.later k (fun i hi e => by omega)⟩

/-- Which place a pointer tells. -/
def placeAt (C : Nat) (v : Value) (w : World) : Nat := match v with
  | .pointer (some a) => placeOf C a.block w
  | _ => 0

theorem partT_at (f : Nat → Cel) (o : Cel → Cel) (i d : Nat) : partT f o i d (i + d) = f (i + d) := if_neg (by omega)

theorem field_cols (R C : Nat) (w : World) : (Instr.field 23 (.agg #[.int .i64 (R : Int), .int .i64 (C : Int)]) 1).run Tryz.prog w = .ok (.int .i64 (C : Int)) w := by kernel_rfl

set_option maxHeartbeats 2000000 in
set_option maxRecDepth 100000 in
theorem turn_ok (g t cap R C : Nat) (f : Nat → Cel) (b : Bool) (fv cb : Nat) (ob : Obj) (h : Cel → Cel) (i m : Nat) (w : World) (hg : GridAt w g t cap R C f) (hB : Becomes fv cb ob h) (ho : w.heap[cb]? = some ob) (hct : cb ≠ t) (him : i + m < R * C) :
    Calls Tryz.prog 69 #[.pointer (some ⟨g, 0, none⟩), .agg #[.int .i64 (rowOf C i : Int), .int .i64 (colOf C i : Int)], .agg #[.int .i64 (rowOf C (i + m) : Int), .int .i64 (colOf C (i + m) : Int)], .bool b, .func (.func fv) #[] #[.pointer (some ⟨cb, 0, none⟩)]] w fun e w' =>
      e = .returned (.tuple #[.int .i64 (cntT f (one b h) i (m + 1) : Int), .int .i64 0]) ∧ GridAt w' g t cap R C (partT f (one b h) i (m + 1)) ∧ Kept (· = t) w w' := by
  have hC1 := hg.C1
  have hC2 := hg.C2
  have hRC : R * C ≤ 65025 := Nat.mul_le_mul hg.R2 hg.C2
  have hE : Hid (wipeE R C (rowOf C i) (colOf C i) (rowOf C (i + m)) (colOf C (i + m)) = 0) := by
    show _ = _
    have h1 := there_row_col (R := R) (C := C) (k := i) (by omega) hC1
    have h2 := there_row_col (R := R) (C := C) (k := i + m) him hC1
    unfold wipeE
    rw [if_pos ⟨h1, h2⟩, idx_row_col, idx_row_col, if_neg (by omega)]
  have hmf : ∀ (fn : Fn) (first cap : Array Value) (w : World), (Instr.makeFunc fn first cap).run Tryz.prog w = .ok (.func fn first cap) w := fun _ _ _ _ => rfl
  have HG := Lib.hid hg
  have HB := Lib.hid hB
  have HO := Lib.hid ho
  have hgl := hg.lt
  have htl := hg.row.lt
  have hcl : cb < w.heap.size := (Array.getElem?_eq_some_iff.1 ho).1
  have HM := Lib.hid him
  clear hg hB ho him
  go_enter Tryz.func69, Tryz.ntmps69
  go_wp2_with fail
  obtain ⟨w0, hw0⟩ : ∃ w0, w0 = ((((w.alloc (.cells #[.pointer (some ⟨g, 0, none⟩)] 86)).alloc (.cells #[.int .i64 (rowOf C i : Int), .int .i64 (colOf C i : Int)] 45)).alloc (.cells #[.int .i64 (rowOf C (i + m) : Int), .int .i64 (colOf C (i + m) : Int)] 45)).alloc (.cells #[.bool b] 4)).alloc (.cells #[.func (.func fv) #[] #[.pointer (some ⟨cb, 0, none⟩)]] 130) := ⟨_, rfl⟩
  have k0 : Kept0 w w0 := by rw [hw0]; exact (((((Kept.refl _ w).alloc _).alloc _).alloc _).alloc _).alloc _
  have a0 : w0.cell? ⟨w.heap.size, 0, none⟩ = some (.pointer (some ⟨g, 0, none⟩)) := by rw [hw0]; simp [go_sem]
  have a1 : w0.cell? ⟨w.heap.size + 1, 0, none⟩ = some (.int .i64 (rowOf C i : Int)) := by rw [hw0]; simp [go_sem]
  have a2 : w0.cell? ⟨w.heap.size + 1, 1, none⟩ = some (.int .i64 (colOf C i : Int)) := by rw [hw0]; simp [go_sem]
  have a3 : w0.cell? ⟨w.heap.size + 1 + 1, 0, none⟩ = some (.int .i64 (rowOf C (i + m) : Int)) := by rw [hw0]; simp [go_sem]
  have a4 : w0.cell? ⟨w.heap.size + 1 + 1, 1, none⟩ = some (.int .i64 (colOf C (i + m) : Int)) := by rw [hw0]; simp [go_sem]
  have a5 : w0.cell? ⟨w.heap.size + 1 + 1 + 1, 0, none⟩ = some (.bool b) := by rw [hw0]; simp [go_sem]
  have a6 : w0.cell? ⟨w.heap.size + 1 + 1 + 1 + 1, 0, none⟩ = some (.func (.func fv) #[] #[.pointer (some ⟨cb, 0, none⟩)]) := by rw [hw0]; simp [go_sem]
  rw [← hw0]
  clear hw0
  refine (check_grid g t cap R C f _ _ _ _ w0 (HG.out.kept k0 (fun e => e) (fun e => e))).mono ?_
  rw [hE.out]
  rintro e w1 ⟨rfl, hk1⟩
  replace a0 := kcell hk1 a0
  replace a1 := kcell hk1 a1
  replace a2 := kcell hk1 a2
  replace a3 := kcell hk1 a3
  replace a4 := kcell hk1 a4
  replace a5 := kcell hk1 a5
  replace a6 := kcell hk1 a6
  have s1 : w.heap.size + 1 + 1 + 1 + 1 < w1.heap.size := World.block_lt_of_cell? w1 _ a6
  have s2 : w.heap.size + 1 + 1 + 1 < w1.heap.size := by omega
  have s3 : w.heap.size + 1 + 1 < w1.heap.size := by omega
  have s4 : w.heap.size + 1 < w1.heap.size := by omega
  have s5 : w.heap.size < w1.heap.size := by omega
  have kk := k0.trans hk1
  clear k0 hk1
  go_wp2_with fail
  obtain ⟨W, hW⟩ : ∃ W, W = w1.alloc (.cells #[.int .i64 0] 3) := ⟨_, rfl⟩
  have kW : Kept0 w1 W := by rw [hW]; exact (Kept.refl _ w1).alloc _
  have a7 : W.cell? ⟨w1.heap.size, 0, none⟩ = some (.int .i64 0) := by rw [hW]; simp [go_sem]
  have a8 : W.frozen? ⟨w1.heap.size, 0, none⟩ = false := by rw [hW]; simp [go_sem]
  rw [← hW]
  clear hW
  have hG1 := HG.out.kept (kk.trans kW) (fun e => e) (fun e => e)
  refine (size_any g R C W hG1.c0 hG1.c1).mono ?_
  rintro e w2 ⟨rfl, hk2⟩
  have k2 := kW.trans hk2
  replace a0 := kcell k2 a0
  replace a1 := kcell k2 a1
  replace a2 := kcell k2 a2
  replace a3 := kcell k2 a3
  replace a4 := kcell k2 a4
  replace a5 := kcell k2 a5
  replace a6 := kcell k2 a6
  replace a8 := kfrozen hk2 a7 a8
  replace a7 := kcell hk2 a7
  replace kk := kk.trans k2
  have s6 : w1.heap.size < w2.heap.size := World.block_lt_of_cell? w2 _ a7
  have HT : Hid (Trn w w2 w.heap.size (w.heap.size + 1 + 1) (w.heap.size + 1 + 1 + 1) (w.heap.size + 1 + 1 + 1 + 1) w1.heap.size cb g t cap R C b fv ob f (one b h) i (i + m) 0) :=
    ⟨⟨a0, a5, a6, (kk.block _ hcl (fun e => e)).trans HO.out, a7, a8⟩, (HG.out.kept kk (fun e => e) (fun e => e)).congr (fun k _ => (if_neg (by omega)).symm), a3, a4, kk.mono (fun _ _ e => e.elim)⟩
  clear hk2 k2 kW hG1 a0 a3 a4 a5 a6 a7 a8
  replace s5 : w.heap.size + 1 < w2.heap.size := by omega
  have fm := field_cols R C
  go_wp2_with fail
  obtain ⟨W3, hW3⟩ : ∃ W3, W3 = w2.alloc (.cells #[.int .i64 (rowOf C i : Int), .int .i64 (colOf C i : Int)] 45) := ⟨_, rfl⟩
  have kW3 : Kept0 w2 W3 := by rw [hW3]; exact (Kept.refl _ w2).alloc _
  have hTw : TwoAt W3 w2.heap.size (rowOf C i : Int) (colOf C i : Int) := by rw [hW3]; exact ⟨by simp [go_sem], by simp [go_sem], by simp [go_sem], by simp [go_sem]⟩
  have HT3 := Lib.hid (HT.out.keep kW3)
  have hs3 : w2.heap.size < W3.heap.size := hTw.lt
  rw [← hW3]
  clear hW3 kW3 HT a1 a2 kk
  go_loopw [16] (fun s16 wr => ∃ (d pb : Nat), d ≤ m + 1 ∧ s16 = .pointer (some ⟨pb, 0, none⟩) ∧ w2.heap.size ≤ pb ∧ TwoAt wr pb (rowOf C (i + d) : Int) (colOf C (i + d) : Int) ∧ Hid (Trn w wr w.heap.size (w.heap.size + 1 + 1) (w.heap.size + 1 + 1 + 1) (w.heap.size + 1 + 1 + 1 + 1) w1.heap.size cb g t cap R C b fv ob f (one b h) i (i + m) d)) (fun s16 wr => i + m + 1 - placeAt C s16 wr)
  case atStart => exact ⟨0, _, by omega, rfl, Nat.le_refl _, hTw, HT3⟩
  case round =>
    clear hTw HT3 hs3
    obtain ⟨d, pb, hd, rfl, hpb, hTr, HTr⟩ := hrel
    have t0 := HTr.out.to0
    have t1 := HTr.out.to1
    have p0 := hTr.c0
    have p1 := hTr.c1
    have HPL : Hid (placeOf C pb wr = i + d) := by
      show placeOf C pb wr = i + d
      rw [placeOf_eq hTr.c0 hTr.c1, idx_row_col]
    go_wp2_with fail
    refine (ahead_any _ _ _ _ _).mono ?_
    rw [ahead_row_col hC1]
    rintro e wa ⟨rfl, hka⟩
    have HTa := Lib.hid (HTr.out.keep hka)
    have hTa := hTr.kept hka (fun e => e)
    clear HTr hTr p0 p1 t0 t1
    by_cases hlt : d ≤ m
    · rw [show decide (i + m < i + d) = false from decide_eq_false (by omega)]
      have p0 := hTa.c0
      have p1 := hTa.c1
      go_wp2_with fail
      have hle := cntT_le f (one b h) i d
      have hmm := HM.out
      refine (visit_any w.heap.size (w.heap.size + 1 + 1 + 1) (w.heap.size + 1 + 1 + 1 + 1) w1.heap.size cb g t cap R C b fv ob (cntT f (one b h) i d) h _ _ _ wa HTa.out.told HB.out HTa.out.grid (there_row_col (R := R) (C := C) (k := i + d) (by omega) hC1) (by omega) (by omega) (by omega)).mono ?_
      rw [idx_row_col, partT_at]
      rintro e wb ⟨rfl, hgb, hnb, hzb, hkb⟩
      have HTb := Lib.hid (HTa.out.step hgb hnb hzb hkb ⟨by omega, by omega, by omega, by omega, by omega⟩ ⟨by omega, by omega, by omega, by omega, by omega⟩ (by omega))
      have hTb := hTa.kept hkb (by omega)
      clear hgb hnb hzb hkb HTa hTa p0 p1 hle hmm hka
      have p0 := hTb.c0
      have p1 := hTb.c1
      have hpl := hTb.lt
      have hsb : w2.heap.size ≤ wb.heap.size := by omega
      go_wp2_with fail
      obtain ⟨V, hV⟩ : ∃ V, V = wb.alloc (.cells #[.int .i64 (rowOf C (i + d) : Int), .int .i64 (colOf C (i + d) : Int)] 45) := ⟨_, rfl⟩
      have kV : Kept0 wb V := by rw [hV]; exact (Kept.refl _ wb).alloc _
      have hTV : TwoAt V wb.heap.size (rowOf C (i + d) : Int) (colOf C (i + d) : Int) := by rw [hV]; exact ⟨by simp [go_sem], by simp [go_sem], by simp [go_sem], by simp [go_sem]⟩
      rw [← hV]
      clear hV
      refine (next_any C (i + d) V hC1 hC2 (by have := HM.out; omega)).mono ?_
      rintro e wc ⟨rfl, hkc⟩
      have HTc := Lib.hid ((HTb.out.keep kV).keep hkc)
      have hTc := hTV.kept hkc (fun e => e)
      clear HTb hTb p0 p1 hTV kV
      have p0 := hTc.c0
      have p1 := hTc.c1
      have p2 := hTc.f0
      have p3 := hTc.f1
      have hsc := hTc.lt
      go_wp2_with fail
      have hk9 : Kept (· = wb.heap.size) wc ((wc.setCell { block := wb.heap.size, off := 0 } (Value.int IntKind.i64 ↑(rowOf C (i + d + 1)))).setCell { block := wb.heap.size, off := 1 } (Value.int IntKind.i64 ↑(colOf C (i + d + 1)))) := (Kept.set1 _ _ _ _).trans (Kept.set1 _ _ _ _)
      have hT9 := (hTc.set0 (rowOf C (i + d + 1) : Int)).set1 (colOf C (i + d + 1) : Int)
      refine ⟨⟨d + 1, wb.heap.size, by omega, rfl, hsb, hT9, HTc.out.apart hk9 ⟨by omega, by omega, by omega, by omega, by omega, by omega, by omega, by omega⟩ (by omega)⟩, ?_⟩
      have e1 := placeOf_eq (C := C) hT9.c0 hT9.c1
      rw [idx_row_col] at e1
      have e2 := HPL.out
      simp only [placeAt]
      rw [e1, e2]
      omega
    · obtain rfl : d = m + 1 := by omega
      rw [show decide (i + m < i + (m + 1)) = true from decide_eq_true (by omega)]
      have hnn := HTa.out.told.hn
      go_wp2_with fail
      go_ret2
      exact ⟨rfl, HTa.out.grid, HTa.out.kept⟩
end Wp
end Go.Proofs.YtlhajbcabpfbkaaGreatDoor

/-
  What Wipe, Dye and Shield do, and the statements' own call of one of them.
-/
namespace Go.Proofs.YtlhajbcabpfbkaaGreatDoor
namespace Wp
open Go.RowKit

set_option maxHeartbeats 1000000 in
set_option maxRecDepth 100000 in
theorem turn_bad (gp : Option Addr) (r c r' c' : Int) (b : Bool) (fv cb : Nat) (E : Int) (w : World) (hE : ¬ E = 0)
    (hc : ∀ w', Kept0 w w' → Calls Tryz.prog 88 #[.pointer gp, .agg #[.int .i64 r, .int .i64 c], .agg #[.int .i64 r', .int .i64 c']] w' fun e w'' => e = .returned (.int .i64 E) ∧ Kept0 w' w'') :
    Calls Tryz.prog 69 #[.pointer gp, .agg #[.int .i64 r, .int .i64 c], .agg #[.int .i64 r', .int .i64 c'], .bool b, .func (.func fv) #[] #[.pointer (some ⟨cb, 0, none⟩)]] w fun e w' => e = .returned (.tuple #[.int .i64 0, .int .i64 E]) ∧ Kept0 w w' := by
  have HC := Lib.hid hc
  clear hc
  go_enter Tryz.func69, Tryz.ntmps69
  go_wp2_with fail
  refine (HC.out _ ((((((Kept.refl _ w).alloc _).alloc _).alloc _).alloc _).alloc _)).mono ?_
  rintro e w1 ⟨rfl, hk1⟩
  have kk : Kept0 w w1 := ((((((Kept.refl _ w).alloc _).alloc _).alloc _).alloc _).alloc _).trans hk1
  clear hk1
  go_wp2_with fail
  go_ret2
  exact ⟨rfl, kk⟩

/-- The cells, and how many were turned, of a call from one place to another one. -/
def wipeF (R C : Nat) (f : Nat → Cel) (o : Cel → Cel) (r c r' c' : Int) : Nat → Cel := if wipeE R C r c r' c' = 0 then partT f o (idx C r c) (idx C r' c' + 1 - idx C r c) else f
def wipeN (R C : Nat) (f : Nat → Cel) (o : Cel → Cel) (r c r' c' : Int) : Nat := if wipeE R C r c r' c' = 0 then cntT f o (idx C r c) (idx C r' c' + 1 - idx C r c) else 0

theorem wipeE_zero {R C : Nat} {r c r' c' : Int} (h : wipeE R C r c r' c' = 0) : There R C r c ∧ There R C r' c' ∧ idx C r c ≤ idx C r' c' := by
  unfold wipeE at h
  by_cases h1 : (0 ≤ r ∧ r < R ∧ 0 ≤ c ∧ c < C) ∧ (0 ≤ r' ∧ r' < R ∧ 0 ≤ c' ∧ c' < C)
  · rw [if_pos h1] at h
    refine ⟨h1.1, h1.2, ?_⟩
    by_cases h2 : idx C r' c' < idx C r c
    · rw [if_pos h2] at h
      exact absurd h (by decide)
    · omega
  · rw [if_neg h1] at h
    exact absurd h (by decide)

theorem row_idx {R C : Nat} {r c : Int} (h : There R C r c) : (rowOf C (idx C r c) : Int) = r ∧ (colOf C (idx C r c) : Int) = c := by
  obtain ⟨h1, h2, h3, h4⟩ := h
  obtain ⟨a, rfl⟩ := Int.eq_ofNat_of_zero_le h1
  obtain ⟨b, rfl⟩ := Int.eq_ofNat_of_zero_le h3
  unfold rowOf colOf idx
  simp only [Int.toNat_natCast]
  have hC : 0 < C := by omega
  constructor
  · rw [Nat.mul_comm, Nat.mul_add_div hC, Nat.div_eq_of_lt (by omega)]
    simp
  · rw [Nat.mul_comm, Nat.mul_add_mod, Nat.mod_eq_of_lt (by omega)]

theorem turn_any (g t cap R C : Nat) (f : Nat → Cel) (b : Bool) (fv cb : Nat) (ob : Obj) (h : Cel → Cel) (r c r' c' : Int) (w : World) (hg : GridAt w g t cap R C f) (hB : Becomes fv cb ob h) (ho : w.heap[cb]? = some ob) (hct : cb ≠ t) :
    Calls Tryz.prog 69 #[.pointer (some ⟨g, 0, none⟩), .agg #[.int .i64 r, .int .i64 c], .agg #[.int .i64 r', .int .i64 c'], .bool b, .func (.func fv) #[] #[.pointer (some ⟨cb, 0, none⟩)]] w fun e w' =>
      e = .returned (.tuple #[.int .i64 (wipeN R C f (one b h) r c r' c' : Int), .int .i64 (wipeE R C r c r' c')]) ∧ GridAt w' g t cap R C (wipeF R C f (one b h) r c r' c') ∧ Kept (· = t) w w' := by
  by_cases hE : wipeE R C r c r' c' = 0
  · obtain ⟨h1, h2, h3⟩ := wipeE_zero hE
    obtain ⟨m, hm⟩ : ∃ m, idx C r' c' = idx C r c + m := ⟨idx C r' c' - idx C r c, by omega⟩
    have := turn_ok g t cap R C f b fv cb ob h (idx C r c) m w hg hB ho hct (by rw [← hm]; exact idx_lt h2)
    rw [← hm, (row_idx h1).1, (row_idx h1).2, (row_idx h2).1, (row_idx h2).2] at this
    unfold wipeN wipeF
    rw [if_pos hE, if_pos hE, hE, show idx C r' c' + 1 - idx C r c = m + 1 by omega]
    exact this
  · unfold wipeN wipeF
    rw [if_neg hE, if_neg hE]
    refine (turn_bad (some ⟨g, 0, none⟩) r c r' c' b fv cb _ w hE (fun w' k => check_grid g t cap R C f r c r' c' w' (hg.kept k (fun e => e) (fun e => e)))).mono ?_
    rintro e w' ⟨rfl, k⟩
    exact ⟨rfl, hg.kept k (fun e => e) (fun e => e), k.to⟩

theorem turn_nil (r c r' c' : Int) (b : Bool) (fv cb : Nat) (w : World) :
    Calls Tryz.prog 69 #[.pointer none, .agg #[.int .i64 r, .int .i64 c], .agg #[.int .i64 r', .int .i64 c'], .bool b, .func (.func fv) #[] #[.pointer (some ⟨cb, 0, none⟩)]] w fun e w' => e = .returned (.tuple #[.int .i64 0, .int .i64 2]) ∧ Kept0 w w' :=
  turn_bad none r c r' c' b fv cb 2 w (by decide) (fun w' _ => check_none r c r' c' w')

theorem celAt_of {w : World} {b : Nat} {x : Cel} {t : TypeId} (h : w.heap[b]? = some (.cells #[.int .i32 x.g, .int .i64 x.a, .bool x.b, .int .i64 x.m] t)) : CelAt w b x := by
  exact ⟨by simp [World.cell?, h], by simp [World.cell?, h], by simp [World.cell?, h], by simp [World.cell?, h]⟩

theorem becomes_wipe (cb : Nat) (x : Cel) : Becomes 70 cb (.cells #[.int .i32 x.g, .int .i64 x.a, .bool x.b, .int .i64 x.m] 52) (fun _ => x) :=
  ⟨enters_of Tryz.func70 (by kernel_rfl) rfl, fun y w hw => wipe1 cb x y w (celAt_of hw)⟩

set_option maxHeartbeats 1000000 in
theorem wipe_core (gp : Option Addr) (r c r' c' : Int) (x : Cel) (b : Bool) (n E : Int) (w : World) (K : World → World → Prop)
    (hc : ∀ w' cb, Kept0 w w' → w.heap.size ≤ cb → w'.heap[cb]? = some (.cells #[.int .i32 x.g, .int .i64 x.a, .bool x.b, .int .i64 x.m] 52) → Calls Tryz.prog 69 #[.pointer gp, .agg #[.int .i64 r, .int .i64 c], .agg #[.int .i64 r', .int .i64 c'], .bool b, .func (.func 70) #[] #[.pointer (some ⟨cb, 0, none⟩)]] w' fun e w'' => e = .returned (.tuple #[.int .i64 n, .int .i64 E]) ∧ K w' w'') :
    Calls Tryz.prog 57 #[.pointer gp, .agg #[.int .i64 r, .int .i64 c], .agg #[.int .i64 r', .int .i64 c'], x.v, .bool b] w fun e w' => e = .returned (.tuple #[.int .i64 n, .int .i64 E]) ∧ ∃ w1, Kept0 w w1 ∧ K w1 w' := by
  have HC := Lib.hid hc
  have hmf : ∀ (fn : Fn) (first cap : Array Value) (w : World), (Instr.makeFunc fn first cap).run Tryz.prog w = .ok (.func fn first cap) w := fun _ _ _ _ => rfl
  clear hc
  go_enter Tryz.func57, Tryz.ntmps57
  go_wp2_with fail
  have kk : Kept0 w (((w.alloc (.cells #[.int .i64 r, .int .i64 c] 45)).alloc (.cells #[.int .i64 r', .int .i64 c'] 45)).alloc (.cells #[.int .i32 x.g, .int .i64 x.a, .bool x.b, .int .i64 x.m] 52)) := (((Kept.refl _ w).alloc _).alloc _).alloc _
  refine (HC.out _ (w.heap.size + 1 + 1) kk (by omega) ?_).mono ?_
  · have := heap_new ((w.alloc (.cells #[.int .i64 r, .int .i64 c] 45)).alloc (.cells #[.int .i64 r', .int .i64 c'] 45)) (.cells #[.int .i32 x.g, .int .i64 x.a, .bool x.b, .int .i64 x.m] 52)
    rwa [World.size_alloc, World.size_alloc] at this
  rintro e w1 ⟨rfl, hk1⟩
  have HK := Lib.hid (show ∃ w2, Kept0 w w2 ∧ K w2 w1 from ⟨_, kk, hk1⟩)
  clear hk1 kk
  go_wp2_with fail
  go_ret2
  exact ⟨rfl, HK.out⟩



/-- What a call leaves: cells that are turned in their row, nothing else. -/
abbrev Turns (g t cap R C : Nat) (f : Nat → Cel) (o : Cel → Cel) (r c r' c' : Int) (w : World) (e : Ending) (w' : World) : Prop :=
  e = .returned (.tuple #[.int .i64 (wipeN R C f o r c r' c' : Int), .int .i64 (wipeE R C r c r' c')]) ∧ GridAt w' g t cap R C (wipeF R C f o r c r' c') ∧ Kept (· = t) w w'

theorem wipe_any (g t cap R C : Nat) (f : Nat → Cel) (r c r' c' : Int) (x : Cel) (b : Bool) (w : World) (hg : GridAt w g t cap R C f) :
    Calls Tryz.prog 57 #[.pointer (some ⟨g, 0, none⟩), .agg #[.int .i64 r, .int .i64 c], .agg #[.int .i64 r', .int .i64 c'], x.v, .bool b] w (Turns g t cap R C f (one b (fun _ => x)) r c r' c' w) := by
  have htl := hg.row.lt
  refine (wipe_core (some ⟨g, 0, none⟩) r c r' c' x b _ _ w (fun w1 w' => GridAt w' g t cap R C (wipeF R C f (one b (fun _ => x)) r c r' c') ∧ Kept (· = t) w1 w')
    (fun w' cb k hcb ho => turn_any g t cap R C f b 70 cb _ (fun _ => x) r c r' c' w' (hg.kept k (fun e => e) (fun e => e)) (becomes_wipe cb x) ho (by omega))).mono ?_
  rintro e w' ⟨rfl, w1, k, h1, h2⟩
  exact ⟨rfl, h1, k.to.trans h2⟩

theorem wipe_nil (r c r' c' : Int) (x : Cel) (b : Bool) (w : World) :
    Calls Tryz.prog 57 #[.pointer none, .agg #[.int .i64 r, .int .i64 c], .agg #[.int .i64 r', .int .i64 c'], x.v, .bool b] w fun e w' => e = .returned (.tuple #[.int .i64 0, .int .i64 2]) ∧ Kept0 w w' := by
  refine (wipe_core none r c r' c' x b 0 2 w Kept0 (fun w' cb _ _ _ => turn_nil r c r' c' b 70 cb w')).mono ?_
  rintro e w' ⟨rfl, w1, k, h⟩
  exact ⟨rfl, k.trans h⟩

/-- What the statements' call does to a cell. -/
def oOf (ask : Int) (x : Cel) (b : Bool) : Cel → Cel := if ask = 0 then one b (fun _ => x) else if ask = 1 then one b (dyed x.a) else one false (shielded x.b)

/-- A call as a value. -/
abbrev opV (ask r c r' c' : Int) (x : Cel) (b : Bool) : Value := .agg #[.int .i64 ask, .int .i64 r, .int .i64 c, .int .i64 r', .int .i64 c', .int .i32 x.g, .int .i64 x.a, .bool x.b, .int .i64 x.m, .bool b]



end Wp
end Go.Proofs.YtlhajbcabpfbkaaGreatDoor
