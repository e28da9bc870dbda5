/-
  For every pen InkNil returns true: a nil grid has nothing. No condition.
-/
import Derived.Test.YtkdnjkcebfckiaaNilC
import Derived.Test.YtkdnjkcebfckiaaArgs
namespace Go.Proofs.Ytkdnjkcebfckiaa
open Go.ChangeShapes Go.WideShapes Go.ChangeAt Go.RowKit

set_option maxRecDepth 100000 in
theorem inkNil_lifted (os : Os) (started : os.Started) (H : Type) (enc : TypeId × Value → H) :
    ReturnsInHanded {} Try.checked os 7 .any (Rows.inkNilSpec.pre6 enc Try.prog Try.f7 Rows.inkNilRow.domain false) (Rows.inkNilSpec.post enc Try.prog Try.f7 false true false false) := by
  refine returnsInHanded_of_change (C := Try.checked) Try.own started (by kernel_rfl) Try.func7
    (ChangeSpec.witness6 (enc := enc) (C := Try.checked) false ⟨#[], #[.agg #[.int .i64 0, .int .i64 0, .bool false, .int .i64 0, .string ⟨#[]⟩]], []⟩ 8 (by kernel_rfl) (by kernel_rfl) (by kernel_rfl) (by kernel_rfl)) ?_
  intro W base args ds gs before hval0 hW _ _
  have hval : ∀ (j : Nat) t v, Try.f7.params[j]? = some t → args[j]? = some v → Value.okWide Try.prog W .any base t v := hval0
  have hW' := hW
  obtain ⟨p, q, hA0, hV, rfl, hfz, hnd⟩ := hW
  have hA : DataW.TrodAll enc Try.prog W 0 (fun _ => true) true Try.f7.params.toList args.toList ds p := hA0
  rw [Try.params7] at hA hval
  obtain ⟨v0, vs0, d0, ds0, p0, q0, hargs, rfl, rfl, h0, r0⟩ := trodAll_cons hA
  obtain ⟨rfl, rfl, rfl⟩ := trodAll_nil r0
  obtain rfl : args = #[v0] := by cases args; simp_all
  obtain ⟨rfl, rfl⟩ := trodVars_none hV
  obtain ⟨cs0, rfl, _⟩ := okWide_struct Try.underlying28 (hval 0 28 v0 rfl rfl)
  have k0 := h0
  have lt0 : ∀ x ∈ p0, x.block < W.heap.size := by obtain ⟨m, hm⟩ := k0; exact DataW.trod_lt m _ _ _ hm
  obtain ⟨r0, c0, b0, k0w, s0, hcs0, ex0⟩ : ∃ (r0 c0 : Int) (b0 : Bool) (k0w : Int) (s0 : ByteArray), cs0 = #[.int .i64 r0, .int .i64 c0, .bool b0, .int .i64 k0w, .string s0] ∧ I64 r0 ∧ I64 c0 ∧ I64 k0w ∧ s0.size ≤ maxLen := by
    obtain ⟨m, hm⟩ := h0
    obtain ⟨r0, c0, b0, k0w, s0, h, ex⟩ := pen_of hm
    refine ⟨r0, c0, b0, k0w, s0, ?_, ex⟩
    simp [Value.cells] at h
    cases cs0
    simp_all
  subst hcs0
  clear hA0 hval0
  refine (nil_calls r0 c0 k0w b0 s0 W ex0.2.2.2).mono fun e W' ⟨he, bel⟩ => ?_
  subst he
  exact ⟨_, rfl, _, _, _, [], _, [], hW', trodAll_mk1 (shut_bool Try.underlying4 _), (trodAll_cons_mk (Below.trod Try.laidOut (by kernel_rfl) (of_decide_eq_true (by kernel_rfl)) k0 bel lt0) trodAll_mk0), rfl, bel.frame _, fun h => by cases h⟩

theorem inkNil_holds : Rows.InkNilSaid :=
  OpenClaim.holds_of_wide 7 Try.f7 rfl rfl rfl rfl rfl rfl rfl ⟨rfl, rfl, rfl, rfl, rfl⟩ rfl rfl rfl rfl rfl (by kernel_rfl) Try.func7 (by kernel_rfl)
    (of_decide_eq_true (by kernel_rfl)) (by unfold Func.isWrapper; first | (rw [if_pos (by decide +kernel)]; kernel_rfl) | (rw [if_neg (by decide +kernel)]; exact ⟨rfl, rfl⟩))
    (fun os started H enc _ => inkNil_lifted os started H enc)
#print axioms inkNil_holds
end Go.Proofs.Ytkdnjkcebfckiaa
