/-
  For every board and every pen InkOnce returns true: a Put by which no line goes up turns no more than one cell, the one that it is put to, and Free of a place that is not guarded is that place. No condition.
-/
import Derived.Test.YtkdnjkcebfckiaaOnceL
import Derived.Test.YtkdnjkcebfckiaaArgs
namespace Go.Proofs.Ytkdnjkcebfckiaa
open Go.ChangeShapes Go.WideShapes Go.ChangeAt Go.RowKit

set_option maxRecDepth 100000 in
theorem inkOnce_lifted (os : Go.Os) (started : os.Started) (H : Type) (enc : TypeId × Value → H) :
    ReturnsInHanded {} Try.checked os 8 .any (Rows.inkOnceSpec.pre6 enc Try.prog Try.f8 Rows.inkOnceRow.domain false) (Rows.inkOnceSpec.post enc Try.prog Try.f8 false true false false) := by
  refine returnsInHanded_of_change (C := Try.checked) Try.own started (by kernel_rfl) Try.func8
    (ChangeSpec.witness6 (enc := enc) (C := Try.checked) false ⟨#[], #[.agg #[.slice none 0 0, .int .i64 0], .agg #[.int .i64 0, .int .i64 0, .bool false, .int .i64 0, .string ⟨#[]⟩]], []⟩ 8 (by kernel_rfl) (by kernel_rfl) (by kernel_rfl) (by kernel_rfl)) ?_
  intro W base args ds gs before hval0 hW _ _
  have hval : ∀ (j : Nat) t v, Try.f8.params[j]? = some t → args[j]? = some v → Value.okWide Try.prog W .any base t v := hval0
  have hW' := hW
  obtain ⟨p, q, hA0, hV, rfl, hfz, hnd⟩ := hW
  have hA : DataW.TrodAll enc Try.prog W 0 (fun _ => true) true Try.f8.params.toList args.toList ds p := hA0
  rw [Try.params8] at hA hval
  obtain ⟨v0, vs0, d0, ds0, p0, q0, hargs, rfl, rfl, h0, tr0⟩ := trodAll_cons hA
  obtain ⟨v1, vs1, d1, ds1, p1, q1, rfl, rfl, rfl, h1, tr1⟩ := trodAll_cons tr0
  obtain ⟨rfl, rfl, rfl⟩ := trodAll_nil tr1
  obtain rfl : args = #[v0, v1] := by cases args; simp_all
  obtain ⟨rfl, rfl⟩ := trodVars_none hV
  obtain ⟨cs0, rfl, _⟩ := okWide_struct Try.underlying24 (hval 0 24 v0 rfl rfl)
  have k0 := h0
  have lt0 : ∀ x ∈ p0, x.block < W.heap.size := by obtain ⟨m, hm⟩ := k0; exact DataW.trod_lt m _ _ _ hm
  obtain ⟨a0, l0, cap0, C0, hcs0, ex0⟩ : ∃ (a0 : Option Addr) (l0 : List ByteArray) (cap0 : Nat) (C0 : Int), cs0 = #[.slice a0 l0.length cap0, .int .i64 C0] ∧ StrsIn W a0 l0 ∧ l0.length ≤ 9223372036854775807 ∧ I64 C0 := by
    obtain ⟨m, hm⟩ := h0
    obtain ⟨a0, l0, cap0, C0, h, ex⟩ := board_of hm
    refine ⟨a0, l0, cap0, C0, ?_, ex⟩
    simp [Value.cells] at h
    cases cs0
    simp_all
  subst hcs0
  obtain ⟨cs1, rfl, _⟩ := okWide_struct Try.underlying28 (hval 1 28 v1 rfl rfl)
  have k1 := h1
  have lt1 : ∀ x ∈ p1, x.block < W.heap.size := by obtain ⟨m, hm⟩ := k1; exact DataW.trod_lt m _ _ _ hm
  obtain ⟨r1, c1, b1, k1w, s1, hcs1, ex1⟩ : ∃ (r1 c1 : Int) (b1 : Bool) (k1w : Int) (s1 : ByteArray), cs1 = #[.int .i64 r1, .int .i64 c1, .bool b1, .int .i64 k1w, .string s1] ∧ I64 r1 ∧ I64 c1 ∧ I64 k1w ∧ s1.size ≤ maxLen := by
    obtain ⟨m, hm⟩ := h1
    obtain ⟨r1, c1, b1, k1w, s1, h, ex⟩ := pen_of hm
    refine ⟨r1, c1, b1, k1w, s1, ?_, ex⟩
    simp [Value.cells] at h
    cases cs1
    simp_all
  subst hcs1
  clear hA0 hval0
  refine (once_calls a0 cap0 C0 l0 r1 c1 k1w b1 s1 W ex0.1 ex0.2.1 ex1.2.2.2).mono fun e W' ⟨he, bel⟩ => ?_
  subst he
  exact ⟨_, rfl, _, _, _, [], _, [], hW', trodAll_mk1 (shut_bool Try.underlying4 _), (trodAll_cons_mk (Below.trod Try.laidOut (by kernel_rfl) (of_decide_eq_true (by kernel_rfl)) k0 bel lt0) (trodAll_cons_mk (Below.trod Try.laidOut (by kernel_rfl) (of_decide_eq_true (by kernel_rfl)) k1 bel lt1) trodAll_mk0)), rfl, bel.frame _, fun h => by cases h⟩

theorem inkOnce_holds : Rows.InkOnceSaid :=
  OpenClaim.holds_of_wide 8 Try.f8 rfl rfl rfl rfl rfl rfl rfl ⟨rfl, rfl, rfl, rfl, rfl⟩ rfl rfl rfl rfl rfl (by kernel_rfl) Try.func8 (by kernel_rfl)
    (of_decide_eq_true (by kernel_rfl)) (by unfold Func.isWrapper; first | (rw [if_pos (by decide +kernel)]; kernel_rfl) | (rw [if_neg (by decide +kernel)]; exact ⟨rfl, rfl⟩))
    (fun os started H enc _ => inkOnce_lifted os started H enc)
#print axioms inkOnce_holds
end Go.Proofs.Ytkdnjkcebfckiaa
