/-
  What tell answers: a word, with its colour.
-/
import Derived.Test.YtacnoakgfkcfbaaDoorInk
import Derived.Test.YtacnoakgfkcfbaaDoorShelf
import Derived.Deep.QuietTactic
namespace Go.Proofs.YtacnoakgfkcfbaaDoor
open Go.RowKit

def str (l : List UInt8) : ByteArray := ⟨l.toArray⟩
theorem str_append (l m : List UInt8) : str l ++ str m = str (l ++ m) := by
  apply ByteArray.ext
  rw [ByteArray.data_append]
  simp [str]
theorem digit (d : Nat) (h : d < 10) : Lib.decDigits d = [UInt8.ofNat (48 + d)] := by
  rw [Lib.decDigits, dif_pos h]

theorem wrap_in (x : Int) (h0 : -9223372036854775808 ≤ x) (h1 : x ≤ 9223372036854775807) : IntKind.i64.wrap x = x := by
  simp [IntKind.wrap, IntKind.bits, IntKind.signed]
  omega

/-- The k-th word, with its colour out of attributes. -/
def tellL (k n : Nat) : List UInt8 := if unitOf k = 0 then nameOf k else nameOf k ++ [UInt8.ofNat (48 + n / unitOf k % 8)]

theorem nameOf_le (k : Nat) : (str (nameOf k)).size ≤ 7 := by
  unfold nameOf
  split <;> decide

theorem tell_any (k n : Nat) (hn : n < 16384) (w : World) : Calls Tryd.prog 30 #[.agg (wcell k), .int .i64 (n : Int)] w fun e w' => e = .returned (.string (str (tellL k n))) ∧ Kept0 w w' := by
  obtain ⟨R, hR⟩ : ∃ R, R = str (tellL k n) := ⟨_, rfl⟩
  rw [← hR]
  unfold tellL at hR
  unfold wcell
  have hul := unitOf_le k
  by_cases hu : unitOf k = 0
  · rw [if_pos hu] at hR
    rw [hu]
    have HR := Lib.hid hR
    clear hR
    go_enter Tryd.func30, Tryd.ntmps30
    go_wp2_with fail
    go_ret
    exact ⟨by rw [HR.out]; rfl, (Kept.refl _ w).alloc _⟩
  · rw [if_neg hu, ← str_append] at hR
    have hu2 : ((unitOf k : Int) == 0) = false := by simp; omega
    have hseven := and_seven (n / unitOf k) (Nat.lt_of_le_of_lt (Nat.div_le_self _ _) hn)
    rw [Int.natCast_ediv] at hseven
    obtain ⟨u, hu3⟩ : ∃ u, u = unitOf k := ⟨_, rfl⟩
    rw [← hu3] at hR hul hu2 hseven hu
    rw [← hu3]
    have hq0 : 0 ≤ (n : Int) / (u : Int) := Int.ediv_nonneg (by omega) (by omega)
    have hq1 : (n : Int) / (u : Int) ≤ n := Int.ediv_le_self _ (by omega)
    have hwrap := wrap_in ((n : Int) / (u : Int)) (by omega) (by omega)
    clear hq0 hq1
    have hd8 : n / u % 8 < 8 := Nat.mod_lt _ (by omega)
    have hI := itoa_any (n / u % 8) (by omega)
    rw [digit _ (by omega)] at hI
    obtain ⟨S, hS⟩ : ∃ S, S = str (nameOf k) := ⟨_, rfl⟩
    have hSz : S.size ≤ 7 := by rw [hS]; exact nameOf_le k
    rw [show (⟨(nameOf k).toArray⟩ : ByteArray) = S from hS.symm]
    rw [← hS] at hR
    obtain ⟨D, hD⟩ : ∃ D, D = str [UInt8.ofNat (48 + n / u % 8)] := ⟨_, rfl⟩
    have hDz : D.size = 1 := by rw [hD]; rfl
    rw [← hD] at hR
    rw [show (⟨[UInt8.ofNat (48 + n / u % 8)].toArray⟩ : ByteArray) = D from hD.symm] at hI
    clear hD hS
    have HI := Lib.hid hI
    obtain ⟨m, hm⟩ : ∃ m, m = n / u % 8 := ⟨_, rfl⟩
    rw [← hm] at HI hseven hd8
    have HR := Lib.hid hR
    clear hR hI hm hu3
    go_enter Tryd.func30, Tryd.ntmps30
    go_wp2_with fail
    go_quiet ((go_at_call 35; exact Calls.quiet_of_same (HI.out _)))
    go_wp2
    go_ret
    exact ⟨by rw [HR.out]; rfl, ((Kept.refl _ w).alloc _).drewN _⟩
end Go.Proofs.YtacnoakgfkcfbaaDoor
