/-
  For every board and every call WipeGuards returns true: nothing else is turned, with guard nothing that is guarded is, and what is done twice is done once. No condition.
-/
import Derived.Test.YtedgnjideemfbaaGuardsL
import Derived.Test.YtedgnjideemfbaaArgs
namespace Go.Proofs.Ytedgnjideemfbaa
open Go.ChangeShapes Go.WideShapes Go.ChangeAt Go.RowKit

set_option maxRecDepth 100000 in
theorem wipeGuards_lifted (os : Os) (started : os.Started) (H : Type) (enc : TypeId × Value → H) :
    ReturnsInHanded {} Try.checked os 5 .any (Rows.wipeGuardsSpec.pre6 enc Try.prog Try.f5 Rows.wipeGuardsRow.domain false) (Rows.wipeGuardsSpec.post enc Try.prog Try.f5 false true false false) := by
  refine returnsInHanded_of_change (C := Try.checked) Try.own started (by kernel_rfl) Try.func5
    (ChangeSpec.witness6 (enc := enc) (C := Try.checked) false ⟨#[], #[.agg #[.slice none 0 0, .int .i64 0], .agg #[.int .i64 0, .int .i64 0, .int .i64 0, .int .i64 0, .int .i64 0, .int .i32 0, .int .i64 0, .bool false, .int .i64 0, .bool false]], []⟩ 8 (by kernel_rfl) (by kernel_rfl) (by kernel_rfl) (by kernel_rfl)) ?_
  intro W base args ds gs before hval0 hW _ _
  have hval : ∀ (j : Nat) t v, Try.f5.params[j]? = some t → args[j]? = some v → Value.okWide Try.prog W .any base t v := hval0
  have hW' := hW
  obtain ⟨p, q, hA0, hV, rfl, hfz, hnd⟩ := hW
  have hA : DataW.TrodAll enc Try.prog W 0 (fun _ => true) true Try.f5.params.toList args.toList ds p := hA0
  rw [Try.params5] at hA hval
  obtain ⟨v0, vs0, d0, ds0, p0, q0, hargs, rfl, rfl, h0, r0⟩ := trodAll_cons hA
  obtain ⟨v1, vs1, d1, ds1, p1, q1, rfl, rfl, rfl, h1, r1⟩ := trodAll_cons r0
  obtain ⟨rfl, rfl, rfl⟩ := trodAll_nil r1
  obtain rfl : args = #[v0, v1] := by cases args; simp_all
  obtain ⟨rfl, rfl⟩ := trodVars_none hV
  obtain ⟨cs0, rfl, _⟩ := okWide_struct Try.underlying24 (hval 0 24 v0 rfl rfl)
  have k0 := h0
  have lt0 : ∀ x ∈ p0, x.block < W.heap.size := by obtain ⟨m, hm⟩ := k0; exact DataW.trod_lt m _ _ _ hm
  obtain ⟨a0, l0, cap0, C0, hcs0, ex0⟩ : ∃ (a0 : Option Addr) (l0 : List ByteArray) (cap0 : Nat) (C0 : Int), cs0 = #[.slice a0 l0.length cap0, .int .i64 C0] ∧ StrsIn W a0 l0 ∧ l0.length ≤ 9223372036854775807 ∧ I64 C0 := by
    obtain ⟨m, hm⟩ := h0
    obtain ⟨a0, l0, cap0, C0, h, ex⟩ := board_of hm
    refine ⟨a0, l0, cap0, C0, ?_, ex⟩
    simp [Value.cells] at h
    cases cs0
    simp_all
  subst hcs0
  obtain ⟨cs1, rfl, _⟩ := okWide_struct Try.underlying40 (hval 1 40 v1 rfl rfl)
  have k1 := h1
  have lt1 : ∀ x ∈ p1, x.block < W.heap.size := by obtain ⟨m, hm⟩ := k1; exact DataW.trod_lt m _ _ _ hm
  obtain ⟨o1, hcs1, ex1⟩ : ∃ (o1 : OpR), cs1 = #[.int .i64 o1.ask, .int .i64 o1.r, .int .i64 o1.c, .int .i64 o1.r', .int .i64 o1.c', .int .i32 o1.x.g, .int .i64 o1.x.a, .bool o1.x.b, .int .i64 o1.x.m, .bool o1.b] ∧ True := by
    obtain ⟨m, hm⟩ := h1
    obtain ⟨o1, h, ex⟩ := op_of' hm
    refine ⟨o1, ?_, ex⟩
    simp [Value.cells] at h
    cases cs1
    simp_all
  subst hcs1
  clear hA0 hval0
  refine (guards_calls a0 cap0 C0 l0 o1.ask o1.r o1.c o1.r' o1.c' o1.x o1.b W ex0.1 ex0.2.1).mono fun e W' ⟨he, bel⟩ => ?_
  subst he
  exact ⟨_, rfl, _, _, _, [], _, [], hW', trodAll_mk1 (shut_bool Try.underlying4 _), (trodAll_cons_mk (Below.trod Try.laidOut (by kernel_rfl) (of_decide_eq_true (by kernel_rfl)) k0 bel lt0) (trodAll_cons_mk (Below.trod Try.laidOut (by kernel_rfl) (of_decide_eq_true (by kernel_rfl)) k1 bel lt1) trodAll_mk0)), rfl, bel.frame _, fun h => by cases h⟩

theorem wipeGuards_holds : Rows.WipeGuardsSaid :=
  OpenClaim.holds_of_wide 5 Try.f5 rfl rfl rfl rfl rfl rfl rfl ⟨rfl, rfl, rfl, rfl, rfl⟩ rfl rfl rfl rfl rfl (by kernel_rfl) Try.func5 (by kernel_rfl)
    (of_decide_eq_true (by kernel_rfl)) (by unfold Func.isWrapper; first | (rw [if_pos (by decide +kernel)]; kernel_rfl) | (rw [if_neg (by decide +kernel)]; exact ⟨rfl, rfl⟩))
    (fun os started H enc _ => wipeGuards_lifted os started H enc)
#print axioms wipeGuards_holds
end Go.Proofs.Ytedgnjideemfbaa
