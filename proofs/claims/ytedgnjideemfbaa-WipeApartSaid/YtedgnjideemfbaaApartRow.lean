/-
  For every board and every two calls WipeApart returns true: it does not count in what order two parts that have no place in common are turned, what is dyed keeps its glyph, and what is shielded its attributes. No condition.
-/
import Derived.Test.YtedgnjideemfbaaApartL
import Derived.Test.YtedgnjideemfbaaArgs
namespace Go.Proofs.Ytedgnjideemfbaa
open Go.ChangeShapes Go.WideShapes Go.ChangeAt Go.RowKit

set_option maxRecDepth 100000 in
theorem wipeApart_lifted (os : Os) (started : os.Started) (H : Type) (enc : TypeId × Value → H) :
    ReturnsInHanded {} Try.checked os 8 .any (Rows.wipeApartSpec.pre6 enc Try.prog Try.f8 Rows.wipeApartRow.domain false) (Rows.wipeApartSpec.post enc Try.prog Try.f8 false true false false) := by
  refine returnsInHanded_of_change (C := Try.checked) Try.own started (by kernel_rfl) Try.func8
    (ChangeSpec.witness6 (enc := enc) (C := Try.checked) false ⟨#[], #[.agg #[.slice none 0 0, .int .i64 0], .agg #[.int .i64 0, .int .i64 0, .int .i64 0, .int .i64 0, .int .i64 0, .int .i32 0, .int .i64 0, .bool false, .int .i64 0, .bool false], .agg #[.int .i64 0, .int .i64 0, .int .i64 0, .int .i64 0, .int .i64 0, .int .i32 0, .int .i64 0, .bool false, .int .i64 0, .bool false]], []⟩ 8 (by kernel_rfl) (by kernel_rfl) (by kernel_rfl) (by kernel_rfl)) ?_
  intro W base args ds gs before hval0 hW _ _
  have hval : ∀ (j : Nat) t v, Try.f8.params[j]? = some t → args[j]? = some v → Value.okWide Try.prog W .any base t v := hval0
  have hW' := hW
  obtain ⟨p, q, hA0, hV, rfl, hfz, hnd⟩ := hW
  have hA : DataW.TrodAll enc Try.prog W 0 (fun _ => true) true Try.f8.params.toList args.toList ds p := hA0
  rw [Try.params8] at hA hval
  obtain ⟨v0, vs0, d0, ds0, p0, q0, hargs, rfl, rfl, h0, r0⟩ := trodAll_cons hA
  obtain ⟨v1, vs1, d1, ds1, p1, q1, rfl, rfl, rfl, h1, r1⟩ := trodAll_cons r0
  obtain ⟨v2, vs2, d2, ds2, p2, q2, rfl, rfl, rfl, h2, r2⟩ := trodAll_cons r1
  obtain ⟨rfl, rfl, rfl⟩ := trodAll_nil r2
  obtain rfl : args = #[v0, v1, v2] := by cases args; simp_all
  obtain ⟨rfl, rfl⟩ := trodVars_none hV
  obtain ⟨cs0, rfl, _⟩ := okWide_struct Try.underlying24 (hval 0 24 v0 rfl rfl)
  have k0 := h0
  have lt0 : ∀ x ∈ p0, x.block < W.heap.size := by obtain ⟨m, hm⟩ := k0; exact DataW.trod_lt m _ _ _ hm
  obtain ⟨a0, l0, cap0, C0, hcs0, ex0⟩ : ∃ (a0 : Option Addr) (l0 : List ByteArray) (cap0 : Nat) (C0 : Int), cs0 = #[.slice a0 l0.length cap0, .int .i64 C0] ∧ StrsIn W a0 l0 ∧ l0.length ≤ 9223372036854775807 ∧ I64 C0 := by
    obtain ⟨m, hm⟩ := h0
    obtain ⟨a0, l0, cap0, C0, h, ex⟩ := board_of hm
    refine ⟨a0, l0, cap0, C0, ?_, ex⟩
    simp [Value.cells] at h
    cases cs0
    simp_all
  subst hcs0
  obtain ⟨cs1, rfl, _⟩ := okWide_struct Try.underlying40 (hval 1 40 v1 rfl rfl)
  have k1 := h1
  have lt1 : ∀ x ∈ p1, x.block < W.heap.size := by obtain ⟨m, hm⟩ := k1; exact DataW.trod_lt m _ _ _ hm
  obtain ⟨o1, hcs1, ex1⟩ : ∃ (o1 : OpR), cs1 = #[.int .i64 o1.ask, .int .i64 o1.r, .int .i64 o1.c, .int .i64 o1.r', .int .i64 o1.c', .int .i32 o1.x.g, .int .i64 o1.x.a, .bool o1.x.b, .int .i64 o1.x.m, .bool o1.b] ∧ True := by
    obtain ⟨m, hm⟩ := h1
    obtain ⟨o1, h, ex⟩ := op_of' hm
    refine ⟨o1, ?_, ex⟩
    simp [Value.cells] at h
    cases cs1
    simp_all
  subst hcs1
  obtain ⟨cs2, rfl, _⟩ := okWide_struct Try.underlying40 (hval 2 40 v2 rfl rfl)
  have k2 := h2
  have lt2 : ∀ x ∈ p2, x.block < W.heap.size := by obtain ⟨m, hm⟩ := k2; exact DataW.trod_lt m _ _ _ hm
  obtain ⟨o2, hcs2, ex2⟩ : ∃ (o2 : OpR), cs2 = #[.int .i64 o2.ask, .int .i64 o2.r, .int .i64 o2.c, .int .i64 o2.r', .int .i64 o2.c', .int .i32 o2.x.g, .int .i64 o2.x.a, .bool o2.x.b, .int .i64 o2.x.m, .bool o2.b] ∧ True := by
    obtain ⟨m, hm⟩ := h2
    obtain ⟨o2, h, ex⟩ := op_of' hm
    refine ⟨o2, ?_, ex⟩
    simp [Value.cells] at h
    cases cs2
    simp_all
  subst hcs2
  clear hA0 hval0
  refine (apart_calls a0 cap0 C0 l0 o1.ask o1.r o1.c o1.r' o1.c' o1.x o1.b o2.ask o2.r o2.c o2.r' o2.c' o2.x o2.b W ex0.1 ex0.2.1).mono fun e W' ⟨he, bel⟩ => ?_
  subst he
  exact ⟨_, rfl, _, _, _, [], _, [], hW', trodAll_mk1 (shut_bool Try.underlying4 _), (trodAll_cons_mk (Below.trod Try.laidOut (by kernel_rfl) (of_decide_eq_true (by kernel_rfl)) k0 bel lt0) (trodAll_cons_mk (Below.trod Try.laidOut (by kernel_rfl) (of_decide_eq_true (by kernel_rfl)) k1 bel lt1) (trodAll_cons_mk (Below.trod Try.laidOut (by kernel_rfl) (of_decide_eq_true (by kernel_rfl)) k2 bel lt2) trodAll_mk0))), rfl, bel.frame _, fun h => by cases h⟩

theorem wipeApart_holds : Rows.WipeApartSaid :=
  OpenClaim.holds_of_wide 8 Try.f8 rfl rfl rfl rfl rfl rfl rfl ⟨rfl, rfl, rfl, rfl, rfl⟩ rfl rfl rfl rfl rfl (by kernel_rfl) Try.func8 (by kernel_rfl)
    (of_decide_eq_true (by kernel_rfl)) (by unfold Func.isWrapper; first | (rw [if_pos (by decide +kernel)]; kernel_rfl) | (rw [if_neg (by decide +kernel)]; exact ⟨rfl, rfl⟩))
    (fun os started H enc _ => wipeApart_lifted os started H enc)
#print axioms wipeApart_holds
end Go.Proofs.Ytedgnjideemfbaa
