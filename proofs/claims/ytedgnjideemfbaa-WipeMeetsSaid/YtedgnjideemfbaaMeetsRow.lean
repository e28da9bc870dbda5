/-
  For every board and every place WipeMeets returns true: what is from the first place to one, and from it to the last one, are all places, and meet in it, and so it is in a row. No condition.
-/
import Derived.Test.YtedgnjideemfbaaMeetsL
import Derived.Test.YtedgnjideemfbaaArgs
namespace Go.Proofs.Ytedgnjideemfbaa
open Go.ChangeShapes Go.WideShapes Go.ChangeAt Go.RowKit

set_option maxRecDepth 100000 in
theorem wipeMeets_lifted (os : Os) (started : os.Started) (H : Type) (enc : TypeId × Value → H) :
    ReturnsInHanded {} Try.checked os 6 .any (Rows.wipeMeetsSpec.pre6 enc Try.prog Try.f6 Rows.wipeMeetsRow.domain false) (Rows.wipeMeetsSpec.post enc Try.prog Try.f6 false true false false) := by
  refine returnsInHanded_of_change (C := Try.checked) Try.own started (by kernel_rfl) Try.func6
    (ChangeSpec.witness6 (enc := enc) (C := Try.checked) false ⟨#[], #[.agg #[.slice none 0 0, .int .i64 0], .agg #[.int .i64 0, .int .i64 0]], []⟩ 8 (by kernel_rfl) (by kernel_rfl) (by kernel_rfl) (by kernel_rfl)) ?_
  intro W base args ds gs before hval0 hW _ _
  have hval : ∀ (j : Nat) t v, Try.f6.params[j]? = some t → args[j]? = some v → Value.okWide Try.prog W .any base t v := hval0
  have hW' := hW
  obtain ⟨p, q, hA0, hV, rfl, hfz, hnd⟩ := hW
  have hA : DataW.TrodAll enc Try.prog W 0 (fun _ => true) true Try.f6.params.toList args.toList ds p := hA0
  rw [Try.params6] at hA hval
  obtain ⟨v0, vs0, d0, ds0, p0, q0, hargs, rfl, rfl, h0, r0⟩ := trodAll_cons hA
  obtain ⟨v1, vs1, d1, ds1, p1, q1, rfl, rfl, rfl, h1, r1⟩ := trodAll_cons r0
  obtain ⟨rfl, rfl, rfl⟩ := trodAll_nil r1
  obtain rfl : args = #[v0, v1] := by cases args; simp_all
  obtain ⟨rfl, rfl⟩ := trodVars_none hV
  obtain ⟨cs0, rfl, _⟩ := okWide_struct Try.underlying24 (hval 0 24 v0 rfl rfl)
  have k0 := h0
  have lt0 : ∀ x ∈ p0, x.block < W.heap.size := by obtain ⟨m, hm⟩ := k0; exact DataW.trod_lt m _ _ _ hm
  obtain ⟨a0, l0, cap0, C0, hcs0, ex0⟩ : ∃ (a0 : Option Addr) (l0 : List ByteArray) (cap0 : Nat) (C0 : Int), cs0 = #[.slice a0 l0.length cap0, .int .i64 C0] ∧ StrsIn W a0 l0 ∧ l0.length ≤ 9223372036854775807 ∧ I64 C0 := by
    obtain ⟨m, hm⟩ := h0
    obtain ⟨a0, l0, cap0, C0, h, ex⟩ := board_of hm
    refine ⟨a0, l0, cap0, C0, ?_, ex⟩
    simp [Value.cells] at h
    cases cs0
    simp_all
  subst hcs0
  obtain ⟨cs1, rfl, _⟩ := okWide_struct Try.underlying36 (hval 1 36 v1 rfl rfl)
  have k1 := h1
  have lt1 : ∀ x ∈ p1, x.block < W.heap.size := by obtain ⟨m, hm⟩ := k1; exact DataW.trod_lt m _ _ _ hm
  obtain ⟨y10, y11, hcs1, ex1⟩ : ∃ (y10 y11 : Int), cs1 = #[.int .i64 y10, .int .i64 y11] ∧ I64 y10 ∧ I64 y11 := by
    obtain ⟨m, hm⟩ := h1
    obtain ⟨y10, y11, h, ex⟩ := pos_of hm
    refine ⟨y10, y11, ?_, ex⟩
    simp [Value.cells] at h
    cases cs1
    simp_all
  subst hcs1
  clear hA0 hval0
  refine (meets_calls a0 cap0 C0 l0 y10 y11 W ex0.1 ex0.2.1).mono fun e W' ⟨he, bel⟩ => ?_
  subst he
  exact ⟨_, rfl, _, _, _, [], _, [], hW', trodAll_mk1 (shut_bool Try.underlying4 _), (trodAll_cons_mk (Below.trod Try.laidOut (by kernel_rfl) (of_decide_eq_true (by kernel_rfl)) k0 bel lt0) (trodAll_cons_mk (Below.trod Try.laidOut (by kernel_rfl) (of_decide_eq_true (by kernel_rfl)) k1 bel lt1) trodAll_mk0)), rfl, bel.frame _, fun h => by cases h⟩

theorem wipeMeets_holds : Rows.WipeMeetsSaid :=
  OpenClaim.holds_of_wide 6 Try.f6 rfl rfl rfl rfl rfl rfl rfl ⟨rfl, rfl, rfl, rfl, rfl⟩ rfl rfl rfl rfl rfl (by kernel_rfl) Try.func6 (by kernel_rfl)
    (of_decide_eq_true (by kernel_rfl)) (by unfold Func.isWrapper; first | (rw [if_pos (by decide +kernel)]; kernel_rfl) | (rw [if_neg (by decide +kernel)]; exact ⟨rfl, rfl⟩))
    (fun os started H enc _ => wipeMeets_lifted os started H enc)
#print axioms wipeMeets_holds
end Go.Proofs.Ytedgnjideemfbaa
