/-
  Rows of cells: Clone, and copy; what move does.
-/
import Derived.Test.YtkdnjkcebfckiaaCells
namespace Go.Proofs.Ytkdnjkcebfckiaa
open Go.RowKit

theorem addr_add (t o j : Nat) : (⟨t, o, none⟩ : Addr).add j = ⟨t, o + j, none⟩ := by
  by_cases h : j = 0
  · subst h; simp [Addr.add]
  · simp [Addr.add, h]

/-- One part of a cell. -/
def Cel.at (x : Cel) (j : Nat) : Value := match j with | 0 => .int .i32 x.g | 1 => .int .i64 x.a | 2 => .bool x.b | _ => .int .i64 x.m
theorem Cel.at_one (x : Cel) (j : Nat) : (x.at j).oneCell' = true := by unfold Cel.at; split <;> rfl
/-- The parts of n cells, from o on, one behind the other. -/
def parts (f : Nat → Cel) (o n : Nat) : List Value := (List.range (n * 4)).map fun j => (f (o + j / 4)).at (j % 4)
theorem parts_length (f : Nat → Cel) (o n : Nat) : (parts f o n).length = n * 4 := by simp [parts]
theorem parts_get (f : Nat → Cel) (o n j : Nat) (h : j < n * 4) : (parts f o n)[j]? = some ((f (o + j / 4)).at (j % 4)) := by
  simp [parts, h]
theorem parts_one (f : Nat → Cel) (o n : Nat) : ∀ v ∈ parts f o n, v.oneCell' = true := by
  intro v hv
  simp only [parts, List.mem_map] at hv
  obtain ⟨j, _, rfl⟩ := hv
  exact Cel.at_one _ _

/-- A row whose parts are known, part by part. -/
theorem CellsAt.of_parts {w : World} {t N : Nat} {f : Nat → Cel} {cur : Array Value} (h : w.heap[t]? = some (.cells cur 36 (0, 0))) (hp : ∀ j, j < N * 4 → cur[j]? = some ((f (j / 4)).at (j % 4))) : CellsAt w t N f := by
  refine ⟨cur, h, fun k hk => ⟨?_, ?_, ?_, ?_⟩⟩
  · have := hp (k * 4) (by omega)
    rwa [show k * 4 / 4 = k by omega, show k * 4 % 4 = 0 by omega] at this
  · have := hp (k * 4 + 1) (by omega)
    rwa [show (k * 4 + 1) / 4 = k by omega, show (k * 4 + 1) % 4 = 1 by omega] at this
  · have := hp (k * 4 + 2) (by omega)
    rwa [show (k * 4 + 2) / 4 = k by omega, show (k * 4 + 2) % 4 = 2 by omega] at this
  · have := hp (k * 4 + 3) (by omega)
    rwa [show (k * 4 + 3) / 4 = k by omega, show (k * 4 + 3) % 4 = 3 by omega] at this

theorem CellsAt.parts {w : World} {t N : Nat} {f : Nat → Cel} (h : CellsAt w t N f) : ∃ cur : Array Value, w.heap[t]? = some (.cells cur 36 (0, 0)) ∧ N * 4 ≤ cur.size ∧ ∀ j, j < N * 4 → cur[j]? = some ((f (j / 4)).at (j % 4)) := by
  obtain ⟨cur, h1, h2⟩ := h
  have hp : ∀ j, j < N * 4 → cur[j]? = some ((f (j / 4)).at (j % 4)) := by
    intro j hj
    obtain ⟨e0, e1, e2, e3⟩ := h2 (j / 4) (by omega)
    rcases (show j % 4 = 0 ∨ j % 4 = 1 ∨ j % 4 = 2 ∨ j % 4 = 3 by omega) with e | e | e | e
    · rw [e, ← show j / 4 * 4 = j by omega, show j / 4 * 4 / 4 = j / 4 by omega]; exact e0
    · rw [e, ← show j / 4 * 4 + 1 = j by omega, show (j / 4 * 4 + 1) / 4 = j / 4 by omega]; exact e1
    · rw [e, ← show j / 4 * 4 + 2 = j by omega, show (j / 4 * 4 + 2) / 4 = j / 4 by omega]; exact e2
    · rw [e, ← show j / 4 * 4 + 3 = j by omega, show (j / 4 * 4 + 3) / 4 = j / 4 by omega]; exact e3
  refine ⟨cur, h1, ?_, hp⟩
  by_cases h0 : N = 0
  · omega
  · have := (Array.getElem?_eq_some_iff.1 (hp (N * 4 - 1) (by omega))).1
    omega

theorem CellsAt.part {w : World} {t N : Nat} {f : Nat → Cel} (h : CellsAt w t N f) {j : Nat} (hj : j < N * 4) : w.cell? ⟨t, j, none⟩ = some ((f (j / 4)).at (j % 4)) := by
  obtain ⟨cur, h1, _, h3⟩ := h.parts
  simp [World.cell?, h1, h3 j hj]

theorem cells_of_owned {w : World} {base n : Nat} {v : Value} {xs : List Value} {f : Nat → Cel} (h : w.ownsRow base 36 4 v n xs) (hx : ∀ j, j < n * 4 → xs[j]? = some ((f (j / 4)).at (j % 4))) (h1 : 1 ≤ n) :
    ∃ g cap, v = .slice (some ⟨g, 0, none⟩) n cap ∧ base ≤ g ∧ n ≤ cap ∧ CellsAt w g n f := by
  obtain ⟨_, ⟨_, h0⟩ | ⟨g, cap, cur, hv, hb, hh, hc, _, hs, ht⟩⟩ := h
  · omega
  · refine ⟨g, cap, hv, hb, hc, CellsAt.of_parts hh fun j hj => ?_⟩
    have := hx j hj
    rw [← ht] at this
    rw [List.getElem?_take_of_lt (by omega)] at this
    simpa using this

set_option maxHeartbeats 400000 in
theorem clone_any (t o n cap N : Nat) (f : Nat → Cel) (w : World) (hrow : CellsAt w t N f) (ho : o + n ≤ N) (h1 : 1 ≤ n) (h2 : n ≤ 70000) :
    Calls Try.prog 48 #[.slice (some ⟨t, o * 4, none⟩) n cap] w fun e w' => ∃ g cap', e = .returned (.slice (some ⟨g, 0, none⟩) n cap') ∧ w.heap.size ≤ g ∧ n ≤ cap' ∧ CellsAt w' g n (fun k => f (o + k)) ∧ Kept0 w w' := by
  have htl := hrow.lt
  have hnil := fun w => Lib.run_eql_slice_nil (P := Try.prog) w 64 36 (some ⟨t, o * 4, none⟩) n cap 0 0 Try.underlying64
  obtain ⟨i0, hi, hz0, hz1, hz2⟩ := info_parts Try.info36
  go_enter Try.func48, Try.ntmps48
  go_wp2_with (at_builtin; refine wpList_append_own _ rfl _ _ 64 rfl w.heap.size 36 i0 (.agg #[.int .i32 0, .int .i64 0, .bool false, .int .i64 0]) 4 32 Try.underlying64 hi hz0 hz1 hz2 rfl (by decide) _ 0 [] rfl ?c0 ⟨t, o * 4, none⟩ n cap (parts f o n) rfl (by simp [parts_length]) ?c1 (parts_one _ _ _) ?c3 ?c4 ?c5 ?_)
  case c0 => exact World.ownsRow_made w #[] 0 (Nat.le_refl _) (by simp) (by simp)
  case c1 =>
    intro j u hj
    have hlt : j < n * 4 := by have := (List.getElem?_eq_some_iff.1 hj).1; rwa [parts_length] at this
    rw [parts_get _ _ _ _ hlt] at hj
    have := (hrow.alloc (Obj.cells #[] 36)).part (j := o * 4 + j) (by omega)
    rw [addr_add, ← hj]
    rw [show (o * 4 + j) / 4 = o + j / 4 by omega, show (o * 4 + j) % 4 = j % 4 by omega] at this
    exact this
  case c3 => unfold maxLen; omega
  case c4 => omega
  case c5 => simp
  intro v' w1 hown hgrow _
  go_wp2
  obtain ⟨g, cap', rfl, hb, hc, hI⟩ := cells_of_owned (f := fun k => f (o + k)) hown (fun k hk => by rw [parts_get _ _ _ _ (by omega)]) (by omega)
  go_ret
  refine ⟨g, cap', rfl, hb, hc, hI, ((Kept.refl _ w).alloc _).later (Kept.ofGrown hgrow) (fun i hi e => by simp [Value.ownBlock] at e; omega)⟩
end Go.Proofs.Ytkdnjkcebfckiaa
