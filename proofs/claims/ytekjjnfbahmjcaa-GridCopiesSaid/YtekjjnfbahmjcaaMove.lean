/-
  copy within a row of numbers, and what move does.
-/
import Derived.Test.YtekjjnfbahmjcaaRowOps
namespace Go.Proofs.Ytekjjnfbahmjcaa
open Go.RowKit

/-- 'copy' within one row of numbers. -/
theorem wpList_copy_ints {P : Program} {w : World} {ops : Array Oper} {rest : List Oper} {o : Oper} {a : Act} {Q : Exit → Act → World → Prop} (hgd : o.guard = none) (d s : Operand) (dT sT : TypeId)
    (ho : o.op = .call { callee := .builtin .copy, args := #[d, s], argTypes := #[dT, sT] }) (elem : TypeId) (hu : P.underlying dT = some (.slice elem)) (hsz : (P.info? elem).map (·.size) = some 1)
    (dp sp : Option Addr) (dLen dCap sLen sCap : Nat) (hd : a.eval d = .slice dp dLen dCap) (hs : a.eval s = .slice sp sLen sCap)
    (t N : Nat) (f : Nat → Int) (hrow : IntsAt w t N f) (p q n : Nat) (hn : n = Nat.min sLen dLen)
    (hpos : 0 < n → dp = some ⟨t, p, none⟩ ∧ sp = some ⟨t, q, none⟩ ∧ p + n ≤ N ∧ q + n ≤ N)
    (h : ∀ w', IntsAt w' t N (copyF f p n q) → Kept (· = t) w w' → wpList P ops Q rest (a.put o.dst (goInt n)) w') :
    wpList P ops Q (o :: rest) a w := by
  by_cases h0 : n = 0
  · refine wpList_copy_nothing hgd d s dT sT ho elem hu hsz dp sp dLen dCap sLen sCap hd hs (by omega) ?_
    have := h w (hrow.congr (fun k _ => by rw [h0]; simp [copyF]; intro h1 h2; omega)) (Kept.refl _ _)
    rwa [h0] at this
  · obtain ⟨rfl, rfl, h1, h2⟩ := hpos (by omega)
    obtain ⟨cur, hc1, hc2⟩ := hrow
    have hsz' : N ≤ cur.size := by
      have := hc2 (N - 1) (by omega)
      have := (Array.getElem?_eq_some_iff.1 this).1
      omega
    refine wpList_copy_own hgd d s dT sT ho elem hu hsz t p dLen dCap ⟨t, q, none⟩ sLen sCap hd hs cur 3 hc1 ((List.range n).map fun j => .int .i64 (f (q + j))) (by simpa using hn) ?_ (by simp; omega) (by simp [Value.oneCell']) ?_
    · intro j v hj
      simp only [List.getElem?_map, Option.map_eq_some_iff] at hj
      obtain ⟨j', hj1, rfl⟩ := hj
      obtain ⟨hlt, rfl⟩ := List.getElem?_eq_some_iff.1 hj1
      simp at hlt
      rw [addr_add]
      simp [World.cell?, hc1, hc2 (q + j) (by omega)]
    · simp only [List.length_map, List.length_range]
      refine h _ ⟨_, setRow_heap w t cur _ 3 _ hc1, fun k hk => ?_⟩ ⟨rfl, rfl, rfl, by simp, fun k _ hs => setRow_other w t k _ hs⟩
      have hk2 := hc2 k hk
      unfold copyF
      by_cases e1 : p ≤ k
      · by_cases e2 : k < p + n
        · rw [if_pos ⟨e1, e2⟩]
          simp only [List.getElem?_toArray]
          rw [List.getElem?_append_right (by simp; omega), List.getElem?_append_left (by simp; omega)]
          have e3 : k - (cur.toList.take p).length = k - p := by simp; omega
          rw [e3, List.getElem?_map, List.getElem?_range (by omega)]
          simp only [Option.map_some]
          rw [show q + (k - p) = k - p + q by omega]
        · rw [if_neg (by omega)]
          simp only [List.getElem?_toArray]
          rw [List.getElem?_append_right (by simp; omega), List.getElem?_append_right (by simp; omega)]
          simp
          rw [← hk2]; congr 1; omega
      · rw [if_neg (by omega)]
        simp only [List.getElem?_toArray]
        rw [List.getElem?_append_left (by simp; omega)]
        simp [List.getElem?_take_of_lt (show k < p by omega), hk2]

/-- What stands from o on, L of them, moves by n, and x comes where nothing comes. -/
def moveF (f : Nat → Int) (o L : Nat) (n x : Int) : Nat → Int := fun k =>
  if o ≤ k ∧ k < o + L then (if (o : Int) ≤ k + n ∧ (k : Int) + n < o + L then f ((k : Int) + n).toNat else x) else f k

theorem moveF_up (f : Nat → Int) (o j m : Nat) (x : Int) (k : Nat) : fillF (copyF f o j (o + m)) (o + j) m x k = moveF f o (m + j) (m : Int) x k := by
  unfold fillF copyF moveF
  by_cases h1 : o ≤ k ∧ k < o + (m + j)
  · rw [if_pos h1]
    by_cases h2 : k < o + j
    · rw [if_neg (by omega), if_pos (by omega), if_pos (by omega)]
      congr 1; omega
    · rw [if_pos (by omega), if_neg (by omega)]
  · rw [if_neg h1, if_neg (by omega), if_neg (by omega)]

theorem moveF_down (f : Nat → Int) (o L m : Nat) (x : Int) (k : Nat) (hm : m ≤ L) : fillF (copyF f (o + m) (L - m) o) o m x k = moveF f o L (-(m : Int)) x k := by
  unfold fillF copyF moveF
  by_cases h1 : o ≤ k ∧ k < o + L
  · rw [if_pos h1]
    by_cases h2 : k < o + m
    · rw [if_pos (by omega), if_neg (by omega)]
    · rw [if_neg (by omega), if_pos (by omega), if_pos (by omega)]
      congr 1; omega
  · rw [if_neg h1, if_neg (by omega), if_neg (by omega)]

theorem moveF_none (f : Nat → Int) (o L : Nat) (x : Int) (k : Nat) : f k = moveF f o L 0 x k := by
  unfold moveF
  by_cases h1 : o ≤ k ∧ k < o + L
  · rw [if_pos h1, if_pos (by omega)]
    congr 1
  · rw [if_neg h1]

theorem paint_zero (a : Option Addr) (cap : Nat) (x : Int) (w : World) :
    Calls Try.prog 33 #[.slice a 0 cap, .int .i64 x] w fun e w' => e = .returned (.tuple #[]) ∧ w = w' := by
  go_enter Try.func33, Try.ntmps33
  go_wp2
  refine wp_loop_rounds 1 ?_
  rw [rounds_succ]
  go_wp2
  go_end0
  exact ⟨rfl, rfl⟩

theorem Try.one3 : (Try.prog.info? 3).map (·.size) = some 1 := by kernel_rfl

set_option maxHeartbeats 400000 in
theorem move_down (t o L N cap m : Nat) (x : Int) (f : Nat → Int) (w : World) (hrow : IntsAt w t N f) (ho : o + L ≤ N) (hN : N ≤ 70000) (hcap : L ≤ cap) (hm : m ≤ L) (hm0 : 0 < m) :
    Calls Try.prog 47 #[.slice (some ⟨t, o, none⟩) L cap, .int .i64 (-(m : Int)), .int .i64 x] w fun e w' => e = .returned (.tuple #[]) ∧ IntsAt w' t N (moveF f o L (-(m : Int)) x) ∧ Kept (· = t) w w' := by
  have hlt : -(m : Int) < 0 := by omega
  go_enter Try.func47, Try.ntmps47
  go_wp2_with (with_reducible refine wpList_copy_ints rfl _ _ 48 48 rfl 3 Try.underlying48 Try.one3 _ _ _ _ _ _ rfl rfl t N f hrow (o + m) o (L - m) ?c1 ?c2 ?c3)
  case c1 => simp
  case c2 => intro h; omega
  all_goals
    intro w1 hI1 hk1
    go_wp2_with fail
    refine (paint_any _ _ _ N _ _ _ _ hI1 (by omega) hN).mono ?_
    rintro e w2 ⟨rfl, hI2, hk2⟩
    go_wp2
    refine bodyPost_ret (results_none rfl _ _ _) rfl ?_
    exact ⟨rfl, hI2.congr (fun k hk => moveF_down f o L m x k hm), hk1.trans hk2⟩

set_option maxHeartbeats 400000 in
theorem move_none (t o L N cap : Nat) (x : Int) (f : Nat → Int) (w : World) (hrow : IntsAt w t N f) (ho : o + L ≤ N) (hN : N ≤ 70000) (hcap : L ≤ cap) :
    Calls Try.prog 47 #[.slice (some ⟨t, o, none⟩) L cap, .int .i64 0, .int .i64 x] w fun e w' => e = .returned (.tuple #[]) ∧ IntsAt w' t N f ∧ Kept (· = t) w w' := by
  by_cases hc : cap = 0
  · obtain rfl : L = 0 := by omega
    subst hc
    go_enter Try.func47, Try.ntmps47
    go_wp2_with (with_reducible refine wpList_copy_ints rfl _ _ 48 48 rfl 3 Try.underlying48 Try.one3 _ _ _ _ _ _ rfl rfl t N f hrow o o 0 ?c1 ?c2 ?c3)
    case c1 => simp
    intro w1 hI1 hk1
    go_wp2_with fail
    refine (paint_zero _ _ _ _).mono ?_
    rintro e w2 ⟨rfl, rfl⟩
    go_wp2
    go_end0
    exact ⟨rfl, hI1.congr (fun k hk => by simp [copyF]; intro h1 h2; omega), hk1⟩
  · go_enter Try.func47, Try.ntmps47
    go_wp2_with (with_reducible refine wpList_copy_ints rfl _ _ 48 48 rfl 3 Try.underlying48 Try.one3 _ _ _ _ _ _ rfl rfl t N f hrow o o L ?d1 ?d2 ?d3)
    case d1 => simp
    intro w1 hI1 hk1
    have hfin : IntsAt w1 t N f := hI1.congr (fun k hk => by simp [copyF]; intro h1 h2; congr 1; omega)
    clear hI1
    by_cases hc2 : cap = L
    · subst hc2
      go_wp2_with fail
      refine (paint_zero _ _ _ _).mono ?_
      rintro e w2 ⟨rfl, rfl⟩
      go_wp2
      go_end0
      exact ⟨rfl, hfin, hk1⟩
    · go_wp2_with fail
      refine (paint_zero _ _ _ _).mono ?_
      rintro e w2 ⟨rfl, rfl⟩
      go_wp2
      go_end0
      exact ⟨rfl, hfin, hk1⟩

set_option maxHeartbeats 400000 in
theorem move_up' (t o j N cap m : Nat) (x : Int) (f : Nat → Int) (w : World) (hrow : IntsAt w t N f) (ho : o + (m + j) ≤ N) (hN : N ≤ 70000) (hcap : m + j ≤ cap) (hm : 0 < m) :
    Calls Try.prog 47 #[.slice (some ⟨t, o, none⟩) (m + j) cap, .int .i64 (m : Int), .int .i64 x] w fun e w' => e = .returned (.tuple #[]) ∧ IntsAt w' t N (moveF f o (m + j) (m : Int) x) ∧ Kept (· = t) w w' := by
  have e0 : decide ((m : Int) < 0) = false := by simp
  have hj : ¬ cap = j := by omega
  by_cases hc : cap = m
  · obtain rfl : j = 0 := by omega
    subst hc
    go_enter Try.func47, Try.ntmps47
    go_wp2_with (with_reducible refine wpList_copy_ints rfl _ _ 48 48 rfl 3 Try.underlying48 Try.one3 _ _ _ _ _ _ rfl rfl t N f hrow o (o + cap) 0 ?c1 ?c2 ?c3)
    case c1 => simp
    intro w1 hI1 hk1
    go_wp2_with fail
    refine (paint_any _ _ _ N _ _ _ _ hI1 (by omega) hN).mono ?_
    rintro e w2 ⟨rfl, hI2, hk2⟩
    go_wp2
    go_end0
    exact ⟨rfl, hI2.congr (fun k hk => moveF_up f o 0 cap x k), hk1.trans hk2⟩
  · go_enter Try.func47, Try.ntmps47
    go_wp2_with (with_reducible refine wpList_copy_ints rfl _ _ 48 48 rfl 3 Try.underlying48 Try.one3 _ _ _ _ _ _ rfl rfl t N f hrow o (o + m) j ?d1 ?d2 ?d3)
    case d1 => simp
    case d2 => intro h; omega
    intro w1 hI1 hk1
    go_wp2_with fail
    refine (paint_any _ _ _ N _ _ _ _ hI1 (by omega) hN).mono ?_
    rintro e w2 ⟨rfl, hI2, hk2⟩
    go_wp2
    go_end0
    exact ⟨rfl, hI2.congr (fun k hk => moveF_up f o j m x k), hk1.trans hk2⟩

/-- 'move' of a run by a number that is not beyond its length. -/
theorem move_any (t o L N cap : Nat) (n x : Int) (f : Nat → Int) (w : World) (hrow : IntsAt w t N f) (ho : o + L ≤ N) (hN : N ≤ 70000) (hcap : L ≤ cap) (h1 : -(L : Int) ≤ n) (h2 : n ≤ L) :
    Calls Try.prog 47 #[.slice (some ⟨t, o, none⟩) L cap, .int .i64 n, .int .i64 x] w fun e w' => e = .returned (.tuple #[]) ∧ IntsAt w' t N (moveF f o L n x) ∧ Kept (· = t) w w' := by
  by_cases h3 : n < 0
  · obtain ⟨m, hm⟩ : ∃ m : Nat, n = -(m : Int) := ⟨(-n).toNat, by omega⟩
    subst hm
    exact move_down t o L N cap m x f w hrow ho hN hcap (by omega) (by omega)
  · obtain ⟨m, rfl⟩ := Int.eq_ofNat_of_zero_le (show 0 ≤ n by omega)
    by_cases h4 : m = 0
    · subst h4
      exact (move_none t o L N cap x f w hrow ho hN hcap).mono fun e w' ⟨a, b, c⟩ => ⟨a, b.congr (fun k _ => moveF_none f o L x k), c⟩
    · obtain ⟨j, rfl⟩ : ∃ j, L = m + j := ⟨L - m, by omega⟩
      exact move_up' t o j N cap m x f w hrow ho hN hcap (by omega)
end Go.Proofs.Ytekjjnfbahmjcaa
