/-
  The answer of the document: Up.
-/
import Derived.Test.YtkdnjkcebfckiaaRefC
namespace Go.Proofs.Ytkdnjkcebfckiaa
open Go.RowKit

set_option maxHeartbeats 400000 in
theorem upR (g t cap R C : Nat) (f : Nat → Cel) (n : Int) (x : Cel) (w : World) (hg : RefAt w g t cap R C f) (hn : -9223372036854775808 ≤ n ∧ n ≤ 9223372036854775807) :
    Calls Try.prog 41 #[.pointer (some ⟨g, 0, none⟩), .int .i64 n, x.v] w fun e w' => e = .returned (.tuple #[]) ∧ RefAt w' g t cap R C (upF R C f n x) ∧ Kept (· = t) w w' := by
  have hR1 := hg.R1
  have HX : Hid (∀ w', Kept0 w w' → Calls Try.prog 57 #[.pointer (some ⟨g, 0, none⟩), .int .i64 0, .int .i64 n, x.v] w' fun e w'' =>
      e = .returned (.tuple #[]) ∧ RefAt w'' g t cap R C (upF R C f n x) ∧ Kept (· = t) w' w'') := fun w' k => by
    have := rowsR g t cap R C f 0 n x w' (hg.kept k (fun e => e) (fun e => e)) (by omega) hn
    simpa [upF] using this
  clear hn
  go_enter Try.func41, Try.ntmps41
  go_wp2_with fail
  refine (HX.out _ ((Kept.refl _ w).alloc _)).mono ?_
  rintro e w1 ⟨rfl, h1, k1⟩
  go_wp2_with fail
  go_end0
  exact ⟨rfl, h1, (Kept0.to ((Kept.refl _ w).alloc _)).trans k1⟩

end Go.Proofs.Ytkdnjkcebfckiaa
