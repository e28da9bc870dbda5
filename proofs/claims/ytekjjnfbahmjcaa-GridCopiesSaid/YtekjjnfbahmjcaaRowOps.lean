/-
  Rows of numbers: Clone, and ints.
-/
import Derived.Test.YtekjjnfbahmjcaaCells
namespace Go.Proofs.Ytekjjnfbahmjcaa
open Go.RowKit

theorem addr_add (t o j : Nat) : (⟨t, o, none⟩ : Addr).add j = ⟨t, o + j, none⟩ := by
  by_cases h : j = 0
  · subst h; simp [Addr.add]
  · simp [Addr.add, h]

theorem ints_of_owned {w : World} {base n : Nat} {v : Value} {xs : List Value} {f : Nat → Int} (h : w.ownsRow base 3 1 v n xs) (hx : ∀ k, k < n → xs[k]? = some (.int .i64 (f k))) (h1 : 1 ≤ n) :
    ∃ g cap, v = .slice (some ⟨g, 0, none⟩) n cap ∧ base ≤ g ∧ n ≤ cap ∧ IntsAt w g n f := by
  obtain ⟨_, ⟨_, h0⟩ | ⟨g, cap, cur, hv, hb, hh, hc, _, hs, ht⟩⟩ := h
  · omega
  · refine ⟨g, cap, hv, hb, hc, cur, hh, fun k hk => ?_⟩
    have := hx k hk
    rw [← ht] at this
    rw [List.getElem?_take_of_lt (by omega)] at this
    simpa using this

set_option maxHeartbeats 400000 in
theorem clone_any (t o n cap N : Nat) (f : Nat → Int) (w : World) (hrow : IntsAt w t N f) (ho : o + n ≤ N) (h1 : 1 ≤ n) (h2 : n ≤ 70000) :
    Calls Try.prog 41 #[.slice (some ⟨t, o, none⟩) n cap] w fun e w' => ∃ g cap', e = .returned (.slice (some ⟨g, 0, none⟩) n cap') ∧ w.heap.size ≤ g ∧ n ≤ cap' ∧ IntsAt w' g n (fun k => f (o + k)) ∧ Kept0 w w' := by
  have htl := hrow.lt
  have hnil := fun w => Lib.run_eql_slice_nil (P := Try.prog) w 48 3 (some ⟨t, o, none⟩) n cap 0 0 Try.underlying48
  obtain ⟨i0, hi, hz0, hz1, hz2⟩ := info_parts Try.info3
  go_enter Try.func41, Try.ntmps41
  go_wp2_with (at_builtin; refine wpList_append_own _ rfl _ _ 48 rfl w.heap.size 3 i0 (.int .i64 0) 1 8 Try.underlying48 hi hz0 hz1 hz2 rfl (by decide) _ 0 [] rfl ?c0 ⟨t, o, none⟩ n cap ((List.range n).map fun k => .int .i64 (f (o + k))) rfl (by simp) ?c1 (by simp [Value.oneCell']) ?c3 ?c4 ?c5 ?_)
  case c0 => exact World.ownsRow_made w #[] 0 (Nat.le_refl _) (by simp) (by simp)
  case c1 =>
    intro j u hj
    simp only [List.getElem?_map, Option.map_eq_some_iff] at hj
    obtain ⟨j', hj1, rfl⟩ := hj
    obtain ⟨hlt, rfl⟩ := List.getElem?_eq_some_iff.1 hj1
    simp at hlt
    have := (hrow.alloc (Obj.cells #[] 3)).cell (k := o + j) (by omega)
    rw [addr_add]
    simpa using this
  case c3 => unfold maxLen; omega
  case c4 => omega
  case c5 => simp
  intro v' w1 hown hgrow _
  go_wp2
  obtain ⟨g, cap', rfl, hb, hc, hI⟩ := ints_of_owned (f := fun k => f (o + k)) hown (fun k hk => by simp [hk]) (by omega)
  go_ret
  exact ⟨g, cap', rfl, hb, hc, hI, ((Kept.refl _ w).alloc _).later (Kept.ofGrown hgrow) (fun i hi e => by simp [Value.ownBlock] at e; omega)⟩

set_option maxHeartbeats 400000 in
/-- 'ints' of two rows of numbers. -/
theorem ints_eq (t o n cap t' o' cap' N N' : Nat) (f f' : Nat → Int) (w : World) (hr : IntsAt w t N f) (hr' : IntsAt w t' N' f') (ho : o + n ≤ N) (ho' : o' + n ≤ N') (hn : n ≤ 70000) (he : ∀ k, k < n → f (o + k) = f' (o' + k)) :
    Calls Try.prog 23 #[.slice (some ⟨t, o, none⟩) n cap, .slice (some ⟨t', o', none⟩) n cap'] w fun e w' => e = .returned (.bool true) ∧ Kept0 w w' := by
  have He := Lib.hid he
  clear he
  go_enter Try.func23, Try.ntmps23
  go_wp2
  go_loopw [5] (fun i wr => ∃ k : Nat, k ≤ n ∧ i = .int .i64 k ∧ ∃ q, wr = w.drewN q) (fun i _ => n - (intOf i).toNat)
  case atStart => exact ⟨0, by omega, rfl, 0, rfl⟩
  case round =>
    obtain ⟨k, hk, rfl, q, rfl⟩ := hrel
    by_cases hlt : k < n
    · have hc := hr.cell (k := o + k) (by omega)
      have hc' := hr'.cell (k := o' + k) (by omega)
      rw [He.out k hlt] at hc
      go_wp2
      go_quiet (fail)
      go_wp2
      go_roundw
      case rel => exact ⟨k + 1, by omega, by go_num, _, rfl⟩
      case measure => simp [intOf]; omega
    · go_wp2
      go_ret
      exact ⟨rfl, (Kept.refl _ w).drewN _⟩
end Go.Proofs.Ytekjjnfbahmjcaa
