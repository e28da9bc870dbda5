/-
  A nil grid has nothing: what the statement asks.
-/
import Derived.Test.YtkdnjkcebfckiaaNil
namespace Go.Proofs.Ytkdnjkcebfckiaa
open Go.RowKit

theorem nil_calls (r c k : Int) (b : Bool) (s : ByteArray) (w : World) (hsz : s.size ≤ maxLen) :
    Calls Try.prog 7 #[penV r c b k s] w fun e w' => e = .returned (.bool true) ∧ Below w.heap.size w w' :=
  (nil_law r c k b s w hsz).mono fun _ _ h => ⟨h.1, Kept0.below h.2⟩
end Go.Proofs.Ytkdnjkcebfckiaa
