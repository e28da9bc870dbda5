/-
  The law WipeParts.
-/
import Derived.Test.YtedgnjideemfbaaPartsB
import Derived.Test.YtedgnjideemfbaaPartsG
namespace Go.Proofs.Ytedgnjideemfbaa
open Go.RowKit

theorem parts_calls (R C r c p : Int) (w : World) :
    Calls Try.prog 4 #[.agg #[.int .i64 R, .int .i64 C], .agg #[.int .i64 r, .int .i64 c], .int .i64 p] w fun e w' => e = .returned (.bool true) ∧ Below w.heap.size w w' := by
  have H : Calls Try.prog 4 #[.agg #[.int .i64 R, .int .i64 C], .agg #[.int .i64 r, .int .i64 c], .int .i64 p] w fun e w' => e = .returned (.bool true) ∧ Kept0 w w' := by
    by_cases h1 : 1 ≤ R ∧ R ≤ 255 ∧ 1 ≤ C ∧ C ≤ 255
    · by_cases h2 : 0 ≤ r ∧ r < R ∧ 0 ≤ c ∧ c < C
      · by_cases h3 : 1 ≤ p ∧ p ≤ 6
        · exact parts_core R C r c p _ _ _ _ _ _ w h1 h2 h3 (fun w' => part_ok R C r c p w' h1 h2 h3) (fun w' => refPart_ok R C r c p w' h1 h2 h3) (num_from h1 h2 h3) (num_to h1 h2 h3)
        · exact parts_bad R C r c p 12 w (by omega) (by omega) (by omega) (fun _ => ⟨h1, h2, h3⟩) (fun w' => part_kind R C r c p w' h1 h2 h3)
      · exact parts_bad R C r c p 11 w (by omega) (by omega) (fun _ => ⟨h1, h2⟩) (by omega) (fun w' => part_place R C r c p w' h1 h2)
    · exact parts_bad R C r c p 10 w (by omega) (fun _ => h1) (by omega) (by omega) (fun w' => part_size R C r c p w' h1)
  refine H.mono ?_
  rintro e w' ⟨rfl, k⟩
  exact ⟨rfl, Kept0.below k⟩
end Go.Proofs.Ytedgnjideemfbaa
