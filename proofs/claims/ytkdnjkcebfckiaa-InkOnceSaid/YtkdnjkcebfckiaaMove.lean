/-
  copy within a row of numbers, and what move does.
-/
import Derived.Test.YtkdnjkcebfckiaaRowOps
namespace Go.Proofs.Ytkdnjkcebfckiaa
open Go.RowKit

theorem run_copy_four {P : Program} (w : World) (dT sT ty elem : TypeId) (g o dLen dCap : Nat) (a : Addr) (sLen sCap : Nat) (cur : Array Value) (t : TypeId) (cs : List Value)
    (hu : P.underlying dT = some (.slice elem)) (hs : (P.info? elem).map (·.size) = some 4)
    (hg : w.heap[g]? = some (.cells cur t (0, 0))) (hn : cs.length = Nat.min sLen dLen * 4)
    (hsrc : ∀ j v, cs[j]? = some v → w.cell? (a.add j) = some v) (hfit : o + cs.length ≤ cur.size) (h1 : ∀ v ∈ cs, v.oneCell' = true) :
    (Builtin.copy_ #[dT, sT] ty #[.slice (some ⟨g, o, none⟩) dLen dCap, .slice (some a) sLen sCap]).run P w =
      .ok (goInt (Nat.min sLen dLen)) (w.setRow g (cur.toList.take o ++ cs ++ cur.toList.drop (o + cs.length)).toArray) := by
  have hl := run_loadCells_list (P := P) w a cs hsrc
  have hst := run_storeCells_at P g o t cs 0 cur w hg (by simpa using hfit) h1
  cases hq : P.info? elem with
  | none => simp [hq] at hs
  | some i =>
    have hi : i.size = 4 := by simpa [hq] using hs
    simp [Builtin.copy_, run_underlying hu, Builtin.lenOf, Builtin.firstCells, sizeOf, typeInfo, hq, hi, ← hn, hl, hst]

theorem run_copy_no {P : Program} (w : World) (dT sT ty elem : TypeId) (d a : Option Addr) (dLen dCap sLen sCap : Nat) (hu : P.underlying dT = some (.slice elem)) (hs : (P.info? elem).map (·.size) = some 4) (hn : Nat.min sLen dLen = 0) :
    (Builtin.copy_ #[dT, sT] ty #[.slice d dLen dCap, .slice a sLen sCap]).run P w = .ok (goInt 0) w := by
  cases hq : P.info? elem with
  | none => simp [hq] at hs
  | some i =>
    have hl : ∀ (x : Addr), (loadCells x 0).run P w = .ok #[] w := fun x => by simpa using run_loadCells_list (P := P) w x [] (by simp)
    cases d <;> cases a <;> simp [Builtin.copy_, run_underlying hu, Builtin.lenOf, Builtin.firstCells, sizeOf, typeInfo, hq, hn, storeCells, hl]

/-- 'copy' within one row of cells. -/
theorem wpList_copy_cells {P : Program} {w : World} {ops : Array Oper} {rest : List Oper} {o : Oper} {a : Act} {Q : Exit → Act → World → Prop} (hgd : o.guard = none) (d s : Operand) (dT sT : TypeId)
    (ho : o.op = .call { callee := .builtin .copy, args := #[d, s], argTypes := #[dT, sT] }) (elem : TypeId) (hu : P.underlying dT = some (.slice elem)) (hsz : (P.info? elem).map (·.size) = some 4)
    (dp sp : Option Addr) (dLen dCap sLen sCap : Nat) (hd : a.eval d = .slice dp dLen dCap) (hs : a.eval s = .slice sp sLen sCap)
    (t N : Nat) (f : Nat → Cel) (hrow : CellsAt w t N f) (p q n : Nat) (hn : n = Nat.min sLen dLen)
    (hpos : 0 < n → dp = some ⟨t, p * 4, none⟩ ∧ sp = some ⟨t, q * 4, none⟩ ∧ p + n ≤ N ∧ q + n ≤ N)
    (h : ∀ w', CellsAt w' t N (copyF f p n q) → Kept (· = t) w w' → wpList P ops Q rest (a.put o.dst (goInt n)) w') :
    wpList P ops Q (o :: rest) a w := by
  refine wpList_plain hgd fun K hK => ?_
  by_cases h0 : n = 0
  · have hrun := run_copy_no (P := P) w dT sT o.type elem dp sp dLen dCap sLen sCap hu hsz (by omega)
    have := h w (hrow.congr (fun k _ => by rw [h0]; simp [copyF]; intro h1 h2; omega)) (Kept.refl _ _)
    rw [h0] at this
    unfold Oper.wp
    simp [execOp, ho, resolve, invoke, builtin, hd, hs, hrun, Result.andThen]
    exact hK _ _ this
  · obtain ⟨rfl, rfl, h1, h2⟩ := hpos (by omega)
    obtain ⟨cur, hc1, hc3, hc2⟩ := hrow.parts
    have hrun := run_copy_four (P := P) w dT sT o.type elem t (p * 4) dLen dCap ⟨t, q * 4, none⟩ sLen sCap cur 36 (parts f q n) hu hsz hc1 (by rw [parts_length, hn]) (by
      intro j v hj
      have hlt : j < n * 4 := by have := (List.getElem?_eq_some_iff.1 hj).1; rwa [parts_length] at this
      rw [parts_get _ _ _ _ hlt] at hj
      have := hrow.part (j := q * 4 + j) (by omega)
      rw [addr_add, ← hj]
      rw [show (q * 4 + j) / 4 = q + j / 4 by omega, show (q * 4 + j) % 4 = j % 4 by omega] at this
      exact this) (by rw [parts_length]; omega) (parts_one _ _ _)
    rw [← hn] at hrun
    unfold Oper.wp
    simp only [execOp, ho, resolve, invoke, builtin, Sem.run_bind, Sem.run_pure, Result.andThen_ok, List.map_toArray, List.map_cons, List.map_nil, hd, hs, hrun]
    refine hK _ _ (h _ (CellsAt.of_parts (setRow_heap w t cur _ 36 _ hc1) fun k hk => ?_) ⟨rfl, rfl, rfl, by simp, fun k _ hs => setRow_other w t k _ hs⟩)
    have hk2 := hc2 k hk
    have hpl := parts_length f q n
    unfold copyF
    simp only [List.getElem?_toArray]
    by_cases e1 : p * 4 ≤ k
    · by_cases e2 : k < p * 4 + n * 4
      · rw [if_pos ⟨by omega, by omega⟩]
        rw [List.append_assoc, List.getElem?_append_right (by simp; omega), List.getElem?_append_left (by simp [hpl]; omega)]
        have e3 : k - (cur.toList.take (p * 4)).length = k - p * 4 := by simp; omega
        rw [e3, parts_get _ _ _ _ (by omega)]
        rw [show q + (k - p * 4) / 4 = k / 4 - p + q by omega, show (k - p * 4) % 4 = k % 4 by omega]
      · rw [if_neg (by omega)]
        rw [List.append_assoc, List.getElem?_append_right (by simp; omega), List.getElem?_append_right (by simp [hpl]; omega)]
        simp [hpl]
        rw [← hk2]; congr 1; omega
    · rw [if_neg (by omega)]
      rw [List.append_assoc, List.getElem?_append_left (by simp; omega)]
      simp [List.getElem?_take_of_lt (show k < p * 4 by omega), hk2]

/-- What stands from o on, L of them, moves by n, and x comes where nothing comes. -/
def moveF (f : Nat → Cel) (o L : Nat) (n : Int) (x : Cel) : Nat → Cel := fun k =>
  if o ≤ k ∧ k < o + L then (if (o : Int) ≤ k + n ∧ (k : Int) + n < o + L then f ((k : Int) + n).toNat else x) else f k

theorem moveF_up (f : Nat → Cel) (o j m : Nat) (x : Cel) (k : Nat) : fillF (copyF f o j (o + m)) (o + j) m x k = moveF f o (m + j) (m : Int) x k := by
  unfold fillF copyF moveF
  by_cases h1 : o ≤ k ∧ k < o + (m + j)
  · rw [if_pos h1]
    by_cases h2 : k < o + j
    · rw [if_neg (by omega), if_pos (by omega), if_pos (by omega)]
      congr 1; omega
    · rw [if_pos (by omega), if_neg (by omega)]
  · rw [if_neg h1, if_neg (by omega), if_neg (by omega)]

theorem moveF_down (f : Nat → Cel) (o L m : Nat) (x : Cel) (k : Nat) (hm : m ≤ L) : fillF (copyF f (o + m) (L - m) o) o m x k = moveF f o L (-(m : Int)) x k := by
  unfold fillF copyF moveF
  by_cases h1 : o ≤ k ∧ k < o + L
  · rw [if_pos h1]
    by_cases h2 : k < o + m
    · rw [if_pos (by omega), if_neg (by omega)]
    · rw [if_neg (by omega), if_pos (by omega), if_pos (by omega)]
      congr 1; omega
  · rw [if_neg h1, if_neg (by omega), if_neg (by omega)]

theorem moveF_none (f : Nat → Cel) (o L : Nat) (x : Cel) (k : Nat) : f k = moveF f o L 0 x k := by
  unfold moveF
  by_cases h1 : o ≤ k ∧ k < o + L
  · rw [if_pos h1, if_pos (by omega)]
    congr 1
  · rw [if_neg h1]

theorem paint_zero (a : Option Addr) (cap : Nat) (x : Cel) (w : World) :
    Calls Try.prog 54 #[.slice a 0 cap, (.agg #[.int .i32 x.g, .int .i64 x.a, .bool x.b, .int .i64 x.m])] w fun e w' => e = .returned (.tuple #[]) ∧ Kept0 w w' := by
  go_enter Try.func54, Try.ntmps54
  go_wp2
  refine wp_loop_rounds 1 ?_
  rw [rounds_succ]
  go_wp2
  go_end0
  exact ⟨rfl, (Kept.refl _ w).alloc _⟩

theorem Try.four36 : (Try.prog.info? 36).map (·.size) = some 4 := by kernel_rfl

/-- A cell that lies in a block of its own. -/
structure CelAt (w : World) (b : Nat) (x : Cel) : Prop where
  c0 : w.cell? ⟨b, 0, none⟩ = some (.int .i32 x.g)
  c1 : w.cell? ⟨b, 1, none⟩ = some (.int .i64 x.a)
  c2 : w.cell? ⟨b, 2, none⟩ = some (.bool x.b)
  c3 : w.cell? ⟨b, 3, none⟩ = some (.int .i64 x.m)
theorem CelAt.new (w : World) (x : Cel) (t : TypeId) : CelAt (w.alloc (.cells #[.int .i32 x.g, .int .i64 x.a, .bool x.b, .int .i64 x.m] t)) w.heap.size x := by
  obtain ⟨h0, h1, h2, h3⟩ := cel_new w x t
  exact ⟨h0, h1, h2, h3⟩
theorem CelAt.kept {S : Nat → Prop} {w w' : World} {b : Nat} {x : Cel} (h : CelAt w b x) (k : Kept S w w') (hs : ¬ S b) : CelAt w' b x :=
  ⟨kcellS k h.c0 hs, kcellS k h.c1 hs, kcellS k h.c2 hs, kcellS k h.c3 hs⟩
theorem CelAt.drew {w : World} {b : Nat} {x : Cel} (h : CelAt w b x) : CelAt w.drew b x := ⟨h.c0, h.c1, h.c2, h.c3⟩

set_option maxHeartbeats 1000000 in
theorem move_down (t o L N cap m : Nat) (x : Cel) (f : Nat → Cel) (w : World) (hrow : CellsAt w t N f) (ho : o + L ≤ N) (hN : N ≤ 70000) (hcap : L ≤ cap) (hm : m ≤ L) (hm0 : 0 < m) :
    Calls Try.prog 66 #[.slice (some ⟨t, o * 4, none⟩) L cap, .int .i64 (-(m : Int)), (.agg #[.int .i32 x.g, .int .i64 x.a, .bool x.b, .int .i64 x.m])] w fun e w' => e = .returned (.tuple #[]) ∧ CellsAt w' t N (moveF f o L (-(m : Int)) x) ∧ Kept (· = t) w w' := by
  have hlt : -(m : Int) < 0 := by omega
  have hc0 : ¬ cap = 0 := by omega
  have hmc : m ≤ cap := by omega
  have hwm : IntKind.i64.wrap (m : Int) = m := by rw [IntWalk.i64_left]; exact w64 (by omega) (by omega)
  have hwm2 : IntKind.i64.wrap (-(-(m : Int))) = m := by rw [Int.neg_neg]; exact hwm
  have hrow0 := hrow.alloc (.cells #[.int .i32 x.g, .int .i64 x.a, .bool x.b, .int .i64 x.m] 36)
  have htl := hrow.lt
  have hx := CelAt.new w x 36
  go_enter Try.func66, Try.ntmps66
  go_wp2_with (with_reducible refine wpList_copy_cells rfl _ _ 64 64 rfl 36 Try.underlying64 Try.four36 _ _ _ _ _ _ rfl rfl t N f hrow0 (o + m) o (L - m) ?c1 ?c2 ?c3)
  case c1 => simp
  case c2 => omega
  case c2 => intro h; first | omega | exact ⟨by rw [Nat.add_mul], rfl, by omega, by omega⟩ | exact ⟨by omega, by omega⟩
  all_goals
    intro w1 hI1 hk1
    replace hx := hx.kept hk1 (by omega)
    obtain ⟨z0, z1, z2, z3⟩ := hx
    go_wp2_with fail
    go_region_held3 (fun w' => w'.cell? ⟨w.heap.size, 0, none⟩ = some (.int .i32 x.g) ∧ w'.cell? ⟨w.heap.size, 1, none⟩ = some (.int .i64 x.a) ∧ w'.cell? ⟨w.heap.size, 2, none⟩ = some (.bool x.b) ∧ w'.cell? ⟨w.heap.size, 3, none⟩ = some (.int .i64 x.m)) (go_keep)
      (first
        | (go_at_call 54; refine (paint_any t o m N _ x _ _ (CellsAt.drewN hI1 1) (by omega) hN).mono ?_; rintro e w2 ⟨rfl, hI2, hk2⟩; obtain ⟨v0, v1, v2, v3⟩ := (CelAt.drew ⟨z0, z1, z2, z3⟩).kept hk2 (by omega)))
    go_wp2
    refine bodyPost_ret (results_none rfl _ _ _) rfl ?_
    exact ⟨rfl, hI2.congr (fun k hk => moveF_down f o L m x k hm), (((Kept.refl _ w).alloc _).later hk1 (fun _ _ e => e)).drew.trans hk2⟩

set_option maxHeartbeats 1000000 in
theorem move_none (t o L N cap : Nat) (x : Cel) (f : Nat → Cel) (w : World) (hrow : CellsAt w t N f) (ho : o + L ≤ N) (hN : N ≤ 70000) (hcap : L ≤ cap) :
    Calls Try.prog 66 #[.slice (some ⟨t, o * 4, none⟩) L cap, .int .i64 0, (.agg #[.int .i32 x.g, .int .i64 x.a, .bool x.b, .int .i64 x.m])] w fun e w' => e = .returned (.tuple #[]) ∧ CellsAt w' t N f ∧ Kept (· = t) w w' := by
  have hrow0 := hrow.alloc (.cells #[.int .i32 x.g, .int .i64 x.a, .bool x.b, .int .i64 x.m] 36)
  have htl := hrow.lt
  have hx := CelAt.new w x 36
  have hwL : IntKind.i64.wrap (L : Int) = L := by rw [IntWalk.i64_left]; exact w64 (by omega) (by omega)
  have hw0 : IntKind.i64.wrap 0 = 0 := by rw [IntWalk.i64_left]; exact w64 (by omega) (by omega)
  by_cases hc : cap = 0
  · obtain rfl : L = 0 := by omega
    subst hc
    go_enter Try.func66, Try.ntmps66
    go_wp2_with (with_reducible refine wpList_copy_cells rfl _ _ 64 64 rfl 36 Try.underlying64 Try.four36 _ _ _ _ _ _ rfl rfl t N f hrow0 o o 0 ?c1 ?c2 ?c3)
    case c1 => simp
    intro w1 hI1 hk1
    replace hx := hx.kept hk1 (by omega)
    obtain ⟨z0, z1, z2, z3⟩ := hx
    go_wp2_with fail
    go_region_held3 (fun w' => w'.cell? ⟨w.heap.size, 0, none⟩ = some (.int .i32 x.g) ∧ w'.cell? ⟨w.heap.size, 1, none⟩ = some (.int .i64 x.a) ∧ w'.cell? ⟨w.heap.size, 2, none⟩ = some (.bool x.b) ∧ w'.cell? ⟨w.heap.size, 3, none⟩ = some (.int .i64 x.m)) (go_keep)
      (first
        | (go_at_call 54; refine (paint_zero _ _ x _).mono ?_; rintro e w2 ⟨rfl, hk2⟩; obtain ⟨v0, v1, v2, v3⟩ := (CelAt.drew ⟨z0, z1, z2, z3⟩).kept hk2 (fun e => e)))
    go_wp2
    go_end0
    exact ⟨rfl, ((CellsAt.drewN hI1 1).kept hk2 (fun e => e)).congr (fun k hk => by simp [copyF]; intro h1 h2; omega), (((Kept.refl _ w).alloc _).later hk1 (fun _ _ e => e)).drew.later hk2 (fun _ _ e => e.elim)⟩
  · go_enter Try.func66, Try.ntmps66
    go_wp2_with (with_reducible refine wpList_copy_cells rfl _ _ 64 64 rfl 36 Try.underlying64 Try.four36 _ _ _ _ _ _ rfl rfl t N f hrow0 o o L ?d1 ?d2 ?d3)
    case d1 => simp
    intro w1 hI1 hk1
    have hfin : CellsAt w1 t N f := hI1.congr (fun k hk => by simp [copyF]; intro h1 h2; congr 1; omega)
    clear hI1
    replace hx := hx.kept hk1 (by omega)
    obtain ⟨z0, z1, z2, z3⟩ := hx
    have hk1' := ((Kept.refl (· = t) w).alloc _).later hk1 (fun _ _ e => e)
    clear hk1
    by_cases hc2 : cap = L
    · subst hc2
      go_wp2_with fail
      go_region_held3 (fun w' => w'.cell? ⟨w.heap.size, 0, none⟩ = some (.int .i32 x.g) ∧ w'.cell? ⟨w.heap.size, 1, none⟩ = some (.int .i64 x.a) ∧ w'.cell? ⟨w.heap.size, 2, none⟩ = some (.bool x.b) ∧ w'.cell? ⟨w.heap.size, 3, none⟩ = some (.int .i64 x.m)) (go_keep)
        (first
          | (go_at_call 54; refine (paint_zero _ _ x _).mono ?_; rintro e w2 ⟨rfl, hk2⟩; obtain ⟨v0, v1, v2, v3⟩ := (CelAt.drew ⟨z0, z1, z2, z3⟩).kept hk2 (fun e => e)))
      go_wp2
      go_end0
      exact ⟨rfl, (CellsAt.drewN hfin 1).kept hk2 (fun e => e), hk1'.drew.later hk2 (fun _ _ e => e.elim)⟩
    · go_wp2_with fail
      go_region_held3 (fun w' => w'.cell? ⟨w.heap.size, 0, none⟩ = some (.int .i32 x.g) ∧ w'.cell? ⟨w.heap.size, 1, none⟩ = some (.int .i64 x.a) ∧ w'.cell? ⟨w.heap.size, 2, none⟩ = some (.bool x.b) ∧ w'.cell? ⟨w.heap.size, 3, none⟩ = some (.int .i64 x.m)) (go_keep)
        (first
          | (go_at_call 54; refine (paint_zero _ _ x _).mono ?_; rintro e w2 ⟨rfl, hk2⟩; obtain ⟨v0, v1, v2, v3⟩ := (CelAt.drew ⟨z0, z1, z2, z3⟩).kept hk2 (fun e => e)))
      go_wp2
      go_end0
      exact ⟨rfl, (CellsAt.drewN hfin 1).kept hk2 (fun e => e), hk1'.drew.later hk2 (fun _ _ e => e.elim)⟩

set_option maxHeartbeats 1000000 in
theorem move_up' (t o j N cap m : Nat) (x : Cel) (f : Nat → Cel) (w : World) (hrow : CellsAt w t N f) (ho : o + (m + j) ≤ N) (hN : N ≤ 70000) (hcap : m + j ≤ cap) (hm : 0 < m) :
    Calls Try.prog 66 #[.slice (some ⟨t, o * 4, none⟩) (m + j) cap, .int .i64 (m : Int), (.agg #[.int .i32 x.g, .int .i64 x.a, .bool x.b, .int .i64 x.m])] w fun e w' => e = .returned (.tuple #[]) ∧ CellsAt w' t N (moveF f o (m + j) (m : Int) x) ∧ Kept (· = t) w w' := by
  have e0 : decide ((m : Int) < 0) = false := by simp
  have hj : ¬ cap = j := by omega
  have hwj : IntKind.i64.wrap (j : Int) = j := by rw [IntWalk.i64_left]; exact w64 (by omega) (by omega)
  have hwj2 : IntKind.i64.wrap ((m : Int) + (j : Int) - (m : Int)) = j := by rw [show (m : Int) + j - m = j by omega]; exact hwj
  have hjm : j ≤ m + j := by omega
  have hji : (j : Int) ≤ (m : Int) + (j : Int) := by omega
  have hj0 : (0 : Int) ≤ (j : Int) := by omega
  have hw0 : IntKind.i64.wrap 0 = 0 := by rw [IntWalk.i64_left]; exact w64 (by omega) (by omega)
  have hrow0 := hrow.alloc (.cells #[.int .i32 x.g, .int .i64 x.a, .bool x.b, .int .i64 x.m] 36)
  have htl := hrow.lt
  have hx := CelAt.new w x 36
  by_cases hc : cap = m
  · obtain rfl : j = 0 := by omega
    subst hc
    have hc0 : ¬ cap = 0 := by omega
    have hc1 : ¬ (cap + 0) - cap = cap := by omega
    have hw1 : IntKind.i64.wrap ((cap : Int) - (cap : Int)) = 0 := by rw [Int.sub_self]; exact hw0
    rw [Nat.add_zero] at *
    go_enter Try.func66, Try.ntmps66
    go_wp2_with (with_reducible refine wpList_copy_cells rfl _ _ 64 64 rfl 36 Try.underlying64 Try.four36 _ _ _ _ _ _ rfl rfl t N f hrow0 o (o + cap) 0 ?c1 ?c2 ?c3)
    case c1 => simp
    intro w1 hI1 hk1
    replace hx := hx.kept hk1 (by omega)
    obtain ⟨z0, z1, z2, z3⟩ := hx
    go_wp2_with fail
    go_region_held3 (fun w' => w'.cell? ⟨w.heap.size, 0, none⟩ = some (.int .i32 x.g) ∧ w'.cell? ⟨w.heap.size, 1, none⟩ = some (.int .i64 x.a) ∧ w'.cell? ⟨w.heap.size, 2, none⟩ = some (.bool x.b) ∧ w'.cell? ⟨w.heap.size, 3, none⟩ = some (.int .i64 x.m)) (go_keep)
      (first
        | (go_at_call 54; refine (paint_any t o cap N _ x _ _ (CellsAt.drewN hI1 1) (by omega) hN).mono ?_; rintro e w2 ⟨rfl, hI2, hk2⟩; obtain ⟨v0, v1, v2, v3⟩ := (CelAt.drew ⟨z0, z1, z2, z3⟩).kept hk2 (by omega)))
    go_wp2
    go_end0
    exact ⟨rfl, hI2.congr (fun k hk => moveF_up f o 0 cap x k), (((Kept.refl _ w).alloc _).later hk1 (fun _ _ e => e)).drew.trans hk2⟩
  · go_enter Try.func66, Try.ntmps66
    go_wp2_with (with_reducible refine wpList_copy_cells rfl _ _ 64 64 rfl 36 Try.underlying64 Try.four36 _ _ _ _ _ _ rfl rfl t N f hrow0 o (o + m) j ?d1 ?d2 ?d3)
    case d1 => simp
    case d2 => intro h; first | exact ⟨rfl, by rw [Nat.add_mul], by omega, by omega⟩ | exact ⟨by rw [Nat.add_mul], by omega, by omega⟩ | exact ⟨by omega, by omega⟩
    intro w1 hI1 hk1
    replace hx := hx.kept hk1 (by omega)
    obtain ⟨z0, z1, z2, z3⟩ := hx
    go_wp2_with fail
    have hp := fun w c (h : CellsAt w t N (copyF f o j (o + m))) => paint_any t (o + j) m N c x _ w h (by omega) hN
    rw [Nat.add_mul] at hp
    go_region_held3 (fun w' => w'.cell? ⟨w.heap.size, 0, none⟩ = some (.int .i32 x.g) ∧ w'.cell? ⟨w.heap.size, 1, none⟩ = some (.int .i64 x.a) ∧ w'.cell? ⟨w.heap.size, 2, none⟩ = some (.bool x.b) ∧ w'.cell? ⟨w.heap.size, 3, none⟩ = some (.int .i64 x.m)) (go_keep)
      (first
        | (go_at_call 54; refine (hp _ _ (CellsAt.drewN hI1 1)).mono ?_; rintro e w2 ⟨rfl, hI2, hk2⟩; obtain ⟨v0, v1, v2, v3⟩ := (CelAt.drew ⟨z0, z1, z2, z3⟩).kept hk2 (by omega)))
    go_wp2
    go_end0
    exact ⟨rfl, hI2.congr (fun k hk => moveF_up f o j m x k), (((Kept.refl _ w).alloc _).later hk1 (fun _ _ e => e)).drew.trans hk2⟩

/-- 'move' of a run by a number that is not beyond its length. -/
theorem move_any (t o L N cap : Nat) (n : Int) (x : Cel) (f : Nat → Cel) (w : World) (hrow : CellsAt w t N f) (ho : o + L ≤ N) (hN : N ≤ 70000) (hcap : L ≤ cap) (h1 : -(L : Int) ≤ n) (h2 : n ≤ L) :
    Calls Try.prog 66 #[.slice (some ⟨t, o * 4, none⟩) L cap, .int .i64 n, (.agg #[.int .i32 x.g, .int .i64 x.a, .bool x.b, .int .i64 x.m])] w fun e w' => e = .returned (.tuple #[]) ∧ CellsAt w' t N (moveF f o L n x) ∧ Kept (· = t) w w' := by
  by_cases h3 : n < 0
  · obtain ⟨m, hm⟩ : ∃ m : Nat, n = -(m : Int) := ⟨(-n).toNat, by omega⟩
    subst hm
    exact move_down t o L N cap m x f w hrow ho hN hcap (by omega) (by omega)
  · obtain ⟨m, rfl⟩ := Int.eq_ofNat_of_zero_le (show 0 ≤ n by omega)
    by_cases h4 : m = 0
    · subst h4
      exact (move_none t o L N cap x f w hrow ho hN hcap).mono fun e w' ⟨a, b, c⟩ => ⟨a, b.congr (fun k _ => moveF_none f o L x k), c⟩
    · obtain ⟨j, rfl⟩ : ∃ j, L = m + j := ⟨L - m, by omega⟩
      exact move_up' t o j N cap m x f w hrow ho hN hcap (by omega)
end Go.Proofs.Ytkdnjkcebfckiaa
