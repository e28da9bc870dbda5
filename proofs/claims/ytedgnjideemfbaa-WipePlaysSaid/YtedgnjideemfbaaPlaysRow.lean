/-
  For every board and all calls that are handed in WipePlays returns true: what comes of cells that are wiped, dyed and shielded, call by call, and how many are turned, is as the document says. No condition.
-/
import Derived.Test.YtedgnjideemfbaaPlaysL
import Derived.Test.YtedgnjideemfbaaArgs
namespace Go.Proofs.Ytedgnjideemfbaa
open Go.ChangeShapes Go.WideShapes Go.ChangeAt Go.RowKit

set_option maxRecDepth 100000 in
theorem wipePlays_lifted (os : Os) (started : os.Started) (H : Type) (enc : TypeId × Value → H) :
    ReturnsInHanded {} Try.checked os 3 .any (Rows.wipePlaysSpec.pre6 enc Try.prog Try.f3 Rows.wipePlaysRow.domain false) (Rows.wipePlaysSpec.post enc Try.prog Try.f3 false true false false) := by
  refine returnsInHanded_of_change (C := Try.checked) Try.own started (by kernel_rfl) Try.func3
    (ChangeSpec.witness6 (enc := enc) (C := Try.checked) false ⟨#[], #[.agg #[.slice none 0 0, .int .i64 0], .slice none 0 0], []⟩ 8 (by kernel_rfl) (by kernel_rfl) (by kernel_rfl) (by kernel_rfl)) ?_
  intro W base args ds gs before hval0 hW _ _
  have hval : ∀ (j : Nat) t v, Try.f3.params[j]? = some t → args[j]? = some v → Value.okWide Try.prog W .any base t v := hval0
  have hW' := hW
  obtain ⟨p, q, hA0, hV, rfl, hfz, hnd⟩ := hW
  have hA : DataW.TrodAll enc Try.prog W 0 (fun _ => true) true Try.f3.params.toList args.toList ds p := hA0
  rw [Try.params3] at hA hval
  obtain ⟨v0, vs0, d0, ds0, p0, q0, hargs, rfl, rfl, h0, r0⟩ := trodAll_cons hA
  obtain ⟨v1, vs1, d1, ds1, p1, q1, rfl, rfl, rfl, h1, r1⟩ := trodAll_cons r0
  obtain ⟨rfl, rfl, rfl⟩ := trodAll_nil r1
  obtain rfl : args = #[v0, v1] := by cases args; simp_all
  obtain ⟨rfl, rfl⟩ := trodVars_none hV
  obtain ⟨cs0, rfl, _⟩ := okWide_struct Try.underlying24 (hval 0 24 v0 rfl rfl)
  have k0 := h0
  have lt0 : ∀ x ∈ p0, x.block < W.heap.size := by obtain ⟨m, hm⟩ := k0; exact DataW.trod_lt m _ _ _ hm
  obtain ⟨a0, l0, cap0, C0, hcs0, ex0⟩ : ∃ (a0 : Option Addr) (l0 : List ByteArray) (cap0 : Nat) (C0 : Int), cs0 = #[.slice a0 l0.length cap0, .int .i64 C0] ∧ StrsIn W a0 l0 ∧ l0.length ≤ 9223372036854775807 ∧ I64 C0 := by
    obtain ⟨m, hm⟩ := h0
    obtain ⟨a0, l0, cap0, C0, h, ex⟩ := board_of hm
    refine ⟨a0, l0, cap0, C0, ?_, ex⟩
    simp [Value.cells] at h
    cases cs0
    simp_all
  subst hcs0
  obtain ⟨a1, len1, cap1, rfl⟩ := okWide_slice Try.underlying25 (hval 1 25 v1 rfl rfl)
  have k1 := h1
  have lt1 : ∀ x ∈ p1, x.block < W.heap.size := by obtain ⟨m, hm⟩ := k1; exact DataW.trod_lt m _ _ _ hm
  obtain ⟨l1, hl1, ex1⟩ : ∃ l1 : List OpR, l1.length = len1 ∧ OpsIn W a1 l1 ∧ len1 ≤ 9223372036854775807 := by
    obtain ⟨m, hm⟩ := h1
    exact ops_of (by simpa [Value.cells] using hm)
  subst hl1
  clear hA0 hval0
  refine (plays_calls a0 cap0 C0 l0 a1 cap1 l1 W ex0.1 ex0.2.1 ex1.1 ex1.2).mono fun e W' ⟨he, bel⟩ => ?_
  subst he
  exact ⟨_, rfl, _, _, _, [], _, [], hW', trodAll_mk1 (shut_bool Try.underlying4 _), (trodAll_cons_mk (Below.trod Try.laidOut (by kernel_rfl) (of_decide_eq_true (by kernel_rfl)) k0 bel lt0) (trodAll_cons_mk (Below.trod Try.laidOut (by kernel_rfl) (of_decide_eq_true (by kernel_rfl)) k1 bel lt1) trodAll_mk0)), rfl, bel.frame _, fun h => by cases h⟩

theorem wipePlays_holds : Rows.WipePlaysSaid :=
  OpenClaim.holds_of_wide 3 Try.f3 rfl rfl rfl rfl rfl rfl rfl ⟨rfl, rfl, rfl, rfl, rfl⟩ rfl rfl rfl rfl rfl (by kernel_rfl) Try.func3 (by kernel_rfl)
    (of_decide_eq_true (by kernel_rfl)) (by unfold Func.isWrapper; first | (rw [if_pos (by decide +kernel)]; kernel_rfl) | (rw [if_neg (by decide +kernel)]; exact ⟨rfl, rfl⟩))
    (fun os started H enc _ => wipePlays_lifted os started H enc)
#print axioms wipePlays_holds
end Go.Proofs.Ytedgnjideemfbaa
