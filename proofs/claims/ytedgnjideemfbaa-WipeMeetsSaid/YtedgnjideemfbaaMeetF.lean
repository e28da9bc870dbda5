/-
  Numbers and cells: how many places a part has. No program.
-/
import Derived.Test.YtedgnjideemfbaaPart
namespace Go.Proofs.Ytedgnjideemfbaa
open Go.RowKit

theorem cntT_all (x : Cel) (o : Cel → Cel) (i : Nat) (h : ¬ o x = x) : ∀ n, cntT (fun _ => x) o i n = n
  | 0 => rfl
  | n + 1 => by
    unfold cntT
    rw [cntT_all x o i h n, if_neg h]

/-- The numbers of a part's first place, and of its last one. -/
def numA (C r c : Nat) (p : Int) : Nat := if p = 1 ∨ p = 3 then 0 else if p = 2 ∨ p = 5 then r * C + c else r * C
def numB (R C r c : Nat) (p : Int) : Nat := if p = 1 ∨ p = 2 then R * C - 1 else if p = 3 ∨ p = 6 then r * C + c else r * C + (C - 1)

theorem num_ab (R C r c : Nat) (p : Int) (hr : r < R) (hc : c < C) (hp : 1 ≤ p ∧ p ≤ 6) :
    There R C (fromR r p) (fromC c p) ∧ There R C (toR R r p) (toC C c p) ∧ idx C (fromR r p) (fromC c p) = numA C r c p ∧ idx C (toR R r p) (toC C c p) = numB R C r c p ∧ numA C r c p ≤ r * C + c ∧ r * C + c ≤ numB R C r c p := by
  have e1 : (R - 1) * C + C = R * C := by
    have : (R - 1 + 1) * C = R * C := by rw [show R - 1 + 1 = R by omega]
    rw [Nat.add_mul, Nat.one_mul] at this
    exact this
  have e2 := place_lt (R := R) (C := C) hr hc
  have e3 : ((R : Int) - 1).toNat = R - 1 := by omega
  have e4 : ((C : Int) - 1).toNat = C - 1 := by omega
  have e5 : (r : Int).toNat = r := by omega
  have e6 : (c : Int).toNat = c := by omega
  have hq : p = 1 ∨ p = 2 ∨ p = 3 ∨ p = 4 ∨ p = 5 ∨ p = 6 := by omega
  rcases hq with rfl | rfl | rfl | rfl | rfl | rfl
  all_goals
    simp only [fromR, fromC, toR, toC, numA, numB, idx]
    simp (config := { decide := true }) only [if_true, if_false, e3, e4, e5, e6]
    refine ⟨⟨by omega, by omega, by omega, by omega⟩, ⟨by omega, by omega, by omega, by omega⟩, by first | trivial | omega | simp, by first | trivial | omega, by omega, by omega⟩

/-- How many places a part has. -/
def nP (R C r c : Nat) (p : Int) : Nat := numB R C r c p + 1 - numA C r c p

theorem meet_wipe (R C r c : Nat) (p : Int) (bl st : Cel) (hne : ¬ st = bl) (hb : bl.b = false) (hr : r < R) (hc : c < C) (hp : 1 ≤ p ∧ p ≤ 6) :
    wipeE R C (fromR r p) (fromC c p) (toR R r p) (toC C c p) = 0 ∧ wipeN R C (fun _ => bl) (one true (fun _ => st)) (fromR r p) (fromC c p) (toR R r p) (toC C c p) = nP R C r c p ∧ wipeF R C (fun _ => bl) (one true (fun _ => st)) (fromR r p) (fromC c p) (toR R r p) (toC C c p) (idx C r c) = st := by
  obtain ⟨h1, h2, h3, h4, h5, h6⟩ := num_ab R C r c p hr hc hp
  have hE : wipeE R C (fromR r p) (fromC c p) (toR R r p) (toC C c p) = 0 := by
    unfold wipeE
    rw [if_pos ⟨h1, h2⟩, if_neg (by rw [h3, h4]; omega)]
  have ho : one true (fun _ => st) bl = st := if_neg (fun e => by rw [hb] at e; cases e.2)
  refine ⟨hE, ?_, ?_⟩
  · unfold wipeN
    rw [if_pos hE, cntT_all bl _ _ (by rw [ho]; exact hne), h3, h4]
    rfl
  · unfold wipeF
    rw [if_pos hE, h3, h4]
    have hi : idx C (r : Int) (c : Int) = r * C + c := by simp [idx]
    rw [hi]
    unfold partT
    rw [if_pos ⟨h5, by omega⟩]
    exact ho

theorem nP_sums (R C r c : Nat) (hr : r < R) (hc : c < C) :
    nP R C r c 1 = R * C ∧ nP R C r c 2 + nP R C r c 3 = R * C + 1 ∧ nP R C r c 4 = C ∧ nP R C r c 5 + nP R C r c 6 = C + 1 ∧ nP R C r c 5 ≤ nP R C r c 2 ∧ nP R C r c 6 ≤ nP R C r c 3 := by
  have e2 := place_lt (R := R) (C := C) hr hc
  have e7 : r * C + C ≤ R * C := by
    have : (r + 1) * C ≤ R * C := Nat.mul_le_mul_right _ (by omega)
    rw [Nat.add_mul, Nat.one_mul] at this
    exact this
  simp only [nP, numA, numB]
  simp (config := { decide := true }) only [if_true, if_false]
  refine ⟨by omega, by omega, by omega, by omega, by omega, by omega⟩
end Go.Proofs.Ytedgnjideemfbaa
