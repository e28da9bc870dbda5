/-
  Texts merged: TbNums TbSet TbLeaf TbSteps TbPut TbEvery.
-/
import Derived.Test.YtlhajbcabpfbkaaGreatDoorMIt
import Derived.Test.YtlhajbcabpfbkaaGreatDoorMLo
import Derived.Test.YtlhajbcabpfbkaaGreatDoorMWk
import Derived.Test.YtlhajbcabpfbkaaGreatDoorProg
import Derived.Maps.OwnSet
import Derived.Maps.RangeWalk
import Derived.Lib.SlKeysI
import Derived.Deep.QuietTactic
import Derived.BigQuiet
import Derived.Carry
/-
  Stops as numbers: Next, Prev, Go and the list of stops. No program.
-/
namespace Go.Proofs.YtlhajbcabpfbkaaGreatDoor
namespace Tb
open Go.RowKit


theorem nr_out {x n : Int} (h : ¬ (0 ≤ x ∧ x < n)) (h1 : 1 ≤ n) : nr x n ≠ x := by unfold nr; omega

/-- The greatest stop below a column among the first n columns, or 0. -/
def prevUp (f : Nat → Bool) (col : Int) : Nat → Int
  | 0 => 0
  | n + 1 => if f n = true ∧ (n : Int) < col then (n : Int) else prevUp f col n
def prevN (N : Nat) (f : Nat → Bool) (col : Int) : Int := prevUp f col N
/-- The least stop above a column among the last k of N columns, or the last column. -/
def nextRem (N : Nat) (f : Nat → Bool) (col : Int) : Nat → Int
  | 0 => (N : Int) - 1
  | k + 1 => if f (N - (k + 1)) = true ∧ col < ((N - (k + 1) : Nat) : Int) then ((N - (k + 1) : Nat) : Int) else nextRem N f col k
def nextN (N : Nat) (f : Nat → Bool) (col : Int) : Int := nextRem N f col N

theorem nextRem_step (N : Nat) (f : Nat → Bool) (col : Int) (i : Nat) (h : i < N) :
    nextRem N f col (N - i) = if f i = true ∧ col < (i : Int) then (i : Int) else nextRem N f col (N - (i + 1)) := by
  have e : N - i = (N - (i + 1)) + 1 := by omega
  have e2 : N - ((N - (i + 1)) + 1) = i := by omega
  rw [e, nextRem, e2]

theorem nextRem_spec (N : Nat) (f : Nat → Bool) (col : Int) : ∀ k, k ≤ N →
    (∃ i, N - k ≤ i ∧ i < N ∧ f i = true ∧ col < (i : Int) ∧ nextRem N f col k = (i : Int) ∧ ∀ j, N - k ≤ j → j < N → f j = true → col < (j : Int) → i ≤ j) ∨
    ((∀ j, N - k ≤ j → j < N → f j = true → ¬ col < (j : Int)) ∧ nextRem N f col k = (N : Int) - 1)
  | 0, _ => Or.inr ⟨fun j h1 h2 => by omega, rfl⟩
  | k + 1, hk => by
    rw [nextRem]
    by_cases h : f (N - (k + 1)) = true ∧ col < ((N - (k + 1) : Nat) : Int)
    · rw [if_pos h]
      exact Or.inl ⟨N - (k + 1), Nat.le_refl _, by omega, h.1, h.2, rfl, fun j h1 _ _ _ => h1⟩
    · rw [if_neg h]
      rcases nextRem_spec N f col k (by omega) with ⟨i, h1, h2, h3, h4, h5, h6⟩ | ⟨h1, h2⟩
      · refine Or.inl ⟨i, by omega, h2, h3, h4, h5, fun j j1 j2 j3 j4 => ?_⟩
        by_cases e : j = N - (k + 1)
        · subst e; exact absurd ⟨j3, j4⟩ h
        · exact h6 j (by omega) j2 j3 j4
      · refine Or.inr ⟨fun j j1 j2 j3 j4 => ?_, h2⟩
        by_cases e : j = N - (k + 1)
        · subst e; exact h ⟨j3, j4⟩
        · exact h1 j (by omega) j2 j3 j4

theorem next_spec (N : Nat) (f : Nat → Bool) (col : Int) :
    (∃ i, i < N ∧ f i = true ∧ col < (i : Int) ∧ nextN N f col = (i : Int) ∧ ∀ j, j < N → f j = true → col < (j : Int) → i ≤ j) ∨
    ((∀ j, j < N → f j = true → ¬ col < (j : Int)) ∧ nextN N f col = (N : Int) - 1) := by
  rcases nextRem_spec N f col N (Nat.le_refl _) with ⟨i, h1, h2, h3, h4, h5, h6⟩ | ⟨h1, h2⟩
  · exact Or.inl ⟨i, h2, h3, h4, h5, fun j j2 j3 j4 => h6 j (by omega) j2 j3 j4⟩
  · exact Or.inr ⟨fun j j2 j3 => h1 j (by omega) j2 j3, h2⟩

theorem prevUp_spec (f : Nat → Bool) (col : Int) : ∀ n,
    (∃ i, i < n ∧ f i = true ∧ (i : Int) < col ∧ prevUp f col n = (i : Int) ∧ ∀ j, j < n → f j = true → (j : Int) < col → j ≤ i) ∨
    ((∀ j, j < n → f j = true → ¬ (j : Int) < col) ∧ prevUp f col n = 0)
  | 0 => Or.inr ⟨fun j h => by omega, rfl⟩
  | n + 1 => by
    rw [prevUp]
    by_cases h : f n = true ∧ (n : Int) < col
    · rw [if_pos h]
      exact Or.inl ⟨n, by omega, h.1, h.2, rfl, fun j h1 _ _ => by omega⟩
    · rw [if_neg h]
      rcases prevUp_spec f col n with ⟨i, h1, h2, h3, h4, h5⟩ | ⟨h1, h2⟩
      · refine Or.inl ⟨i, by omega, h2, h3, h4, fun j j1 j2 j3 => ?_⟩
        by_cases e : j = n
        · subst e; exact absurd ⟨j2, j3⟩ h
        · exact h5 j (by omega) j2 j3
      · refine Or.inr ⟨fun j j1 j2 j3 => ?_, h2⟩
        by_cases e : j = n
        · subst e; exact h ⟨j2, j3⟩
        · exact h1 j (by omega) j2 j3

theorem prev_spec (N : Nat) (f : Nat → Bool) (col : Int) :
    (∃ i, i < N ∧ f i = true ∧ (i : Int) < col ∧ prevN N f col = (i : Int) ∧ ∀ j, j < N → f j = true → (j : Int) < col → j ≤ i) ∨
    ((∀ j, j < N → f j = true → ¬ (j : Int) < col) ∧ prevN N f col = 0) := prevUp_spec f col N

section
variable {N : Nat} (f : Nat → Bool)
theorem next_lo (hN : 1 ≤ N) (c : Int) : 0 ≤ nextN N f c := by rcases next_spec N f c with ⟨i, _, _, _, h, _⟩ | ⟨_, h⟩ <;> omega
theorem next_hi (c : Int) : nextN N f c < N := by rcases next_spec N f c with ⟨i, _, _, _, h, _⟩ | ⟨_, h⟩ <;> omega
theorem next_gt (c : Int) (h : c < (N : Int) - 1) : c < nextN N f c := by rcases next_spec N f c with ⟨i, _, _, _, h, _⟩ | ⟨_, h⟩ <;> omega
theorem next_last (c : Int) (h : (N : Int) - 1 ≤ c) : nextN N f c = (N : Int) - 1 := by rcases next_spec N f c with ⟨i, _, _, _, h, _⟩ | ⟨_, h⟩ <;> omega
theorem next_mono (a b : Int) (h : a ≤ b) : nextN N f a ≤ nextN N f b := by
  rcases next_spec N f a with ⟨i, i1, i2, i3, i4, i5⟩ | ⟨i1, i2⟩
  · rcases next_spec N f b with ⟨j, j1, j2, j3, j4, j5⟩ | ⟨j1, j2⟩
    · have := i5 j j1 j2 (by omega); omega
    · omega
  · rcases next_spec N f b with ⟨j, j1, j2, j3, j4, j5⟩ | ⟨j1, j2⟩
    · exact absurd (by omega) (i1 j j1 j2)
    · omega
theorem prev_lo (c : Int) : 0 ≤ prevN N f c := by rcases prev_spec N f c with ⟨i, _, _, _, h, _⟩ | ⟨_, h⟩ <;> omega
theorem prev_hi (hN : 1 ≤ N) (c : Int) : prevN N f c < N := by rcases prev_spec N f c with ⟨i, _, _, _, h, _⟩ | ⟨_, h⟩ <;> omega
theorem prev_lt (c : Int) (h : 0 < c) : prevN N f c < c := by rcases prev_spec N f c with ⟨i, _, _, _, h, _⟩ | ⟨_, h⟩ <;> omega
theorem prev_first (c : Int) (h : c ≤ 0) : prevN N f c = 0 := by rcases prev_spec N f c with ⟨i, _, _, _, h, _⟩ | ⟨_, h⟩ <;> omega
theorem prev_mono (a b : Int) (h : a ≤ b) : prevN N f a ≤ prevN N f b := by
  rcases prev_spec N f a with ⟨i, i1, i2, i3, i4, i5⟩ | ⟨i1, i2⟩
  · rcases prev_spec N f b with ⟨j, j1, j2, j3, j4, j5⟩ | ⟨j1, j2⟩
    · have := j5 i i1 i2 (by omega); omega
    · exact absurd (by omega) (j1 i i1 i2)
  · rcases prev_spec N f b with ⟨j, j1, j2, j3, j4, j5⟩ | ⟨j1, j2⟩ <;> omega
/-- From just below a stop Next leads to it. -/
theorem next_at {s : Nat} (hs : s < N) (h : f s = true) (c : Int) (hc : c < (s : Int)) (hb : ∀ j, j < N → f j = true → c < (j : Int) → s ≤ j) : nextN N f c = (s : Int) := by
  rcases next_spec N f c with ⟨i, i1, i2, i3, i4, i5⟩ | ⟨i1, i2⟩
  · have h1 := i5 s hs h hc
    have h2 := hb i i1 i2 i3
    omega
  · exact absurd hc (i1 s hs h)
theorem prev_at {s : Nat} (hs : s < N) (h : f s = true) (c : Int) (hc : (s : Int) < c) (hb : ∀ j, j < N → f j = true → (j : Int) < c → j ≤ s) : prevN N f c = (s : Int) := by
  rcases prev_spec N f c with ⟨i, i1, i2, i3, i4, i5⟩ | ⟨i1, i2⟩
  · have h1 := i5 s hs h hc
    have h2 := hb i i1 i2 i3
    omega
  · exact absurd hc (i1 s hs h)
end

/-- A step, so many times. -/
def itF (g : Int → Int) : Nat → Int → Int
  | 0, c => c
  | k + 1, c => g (itF g k c)
theorem itF_succ (g : Int → Int) (k : Nat) (c : Int) : itF g (k + 1) c = g (itF g k c) := rfl

theorem itNext_ge {N : Nat} (hN : 1 ≤ N) (f : Nat → Bool) (c : Int) : ∀ k : Nat, min (k : Int) ((N : Int) - 1) ≤ itF (nextN N f) (k + 1) c
  | 0 => by have := next_lo f hN c; simp only [itF]; omega
  | k + 1 => by
    rw [itF_succ]
    have ih := itNext_ge hN f c k
    by_cases h : itF (nextN N f) (k + 1) c < (N : Int) - 1
    · have := next_gt (N := N) f _ h
      omega
    · rw [next_last f _ (by omega)]
      omega
theorem itPrev_le {N : Nat} (hN : 1 ≤ N) (f : Nat → Bool) (c : Int) : ∀ k : Nat, itF (prevN N f) (k + 1) c ≤ max 0 ((N : Int) - 1 - k)
  | 0 => by have := prev_hi f hN c; simp only [itF]; omega
  | k + 1 => by
    rw [itF_succ]
    have ih := itPrev_le hN f c k
    by_cases h : 0 < itF (prevN N f) (k + 1) c
    · have := prev_lt (N := N) f _ h
      omega
    · rw [prev_first f _ (by omega)]
      omega
theorem itNext_in {N : Nat} (hN : 1 ≤ N) (f : Nat → Bool) (c : Int) (k : Nat) : 0 ≤ itF (nextN N f) (k + 1) c ∧ itF (nextN N f) (k + 1) c < N := ⟨next_lo f hN _, next_hi f _⟩
theorem itPrev_in {N : Nat} (hN : 1 ≤ N) (f : Nat → Bool) (c : Int) (k : Nat) : 0 ≤ itF (prevN N f) (k + 1) c ∧ itF (prevN N f) (k + 1) c < N := ⟨prev_lo f _, prev_hi f hN _⟩
theorem itNext_all {N : Nat} (hN : 1 ≤ N) (f : Nat → Bool) (c : Int) (k : Nat) (h : N ≤ k) : itF (nextN N f) k c = (N : Int) - 1 := by
  obtain ⟨j, rfl⟩ : ∃ j, k = j + 1 := ⟨k - 1, by omega⟩
  have h1 := itNext_ge hN f c j
  have h2 := (itNext_in hN f c j).2
  omega
theorem itPrev_all {N : Nat} (hN : 1 ≤ N) (f : Nat → Bool) (c : Int) (k : Nat) (h : N ≤ k) : itF (prevN N f) k c = 0 := by
  obtain ⟨j, rfl⟩ : ∃ j, k = j + 1 := ⟨k - 1, by omega⟩
  have h1 := itPrev_le hN f c j
  have h2 := (itPrev_in hN f c j).1
  omega

/-- As many stops on as n says: so many times Next, or Prev; of 0 the nearest column. -/
def goN (N : Nat) (f : Nat → Bool) (col n : Int) : Int :=
  if n = 0 then nr col N else if 0 < n then itF (nextN N f) n.toNat col else itF (prevN N f) (-n).toNat col

/-- The code's way. -/
theorem goC {N : Nat} (hN : 1 ≤ N) (f : Nat → Bool) (col n : Int) : nr (itF (prevN N f) (-(max n (-(N : Int)))).toNat (itF (nextN N f) (min n N).toNat col)) N = goN N f col n := by
  unfold goN
  by_cases h0 : n = 0
  · subst h0
    rw [if_pos rfl, show (-(max (0 : Int) (-(N : Int)))).toNat = 0 by omega, show (min (0 : Int) N).toNat = 0 by omega]
    rfl
  · rw [if_neg h0]
    by_cases h1 : 0 < n
    · rw [if_pos h1, show (-(max n (-(N : Int)))).toNat = 0 by omega]
      show nr (itF (nextN N f) (min n N).toNat col) N = _
      obtain ⟨j, hj⟩ : ∃ j, (min n N).toNat = j + 1 := ⟨(min n N).toNat - 1, by omega⟩
      have hin := itNext_in hN f col j
      rw [hj, nr_in _ _ hin.1 hin.2, ← hj]
      by_cases h2 : n ≤ N
      · rw [show (min n (N : Int)).toNat = n.toNat by omega]
      · rw [itNext_all hN f col _ (by omega), itNext_all hN f col _ (by omega)]
    · rw [if_neg h1, show (min n (N : Int)).toNat = 0 by omega]
      show nr (itF (prevN N f) (-(max n (-(N : Int)))).toNat col) N = _
      obtain ⟨j, hj⟩ : ∃ j, (-(max n (-(N : Int)))).toNat = j + 1 := ⟨(-(max n (-(N : Int)))).toNat - 1, by omega⟩
      have hin := itPrev_in hN f col j
      rw [hj, nr_in _ _ hin.1 hin.2, ← hj]
      by_cases h2 : -(N : Int) ≤ n
      · rw [show (-(max n (-(N : Int)))).toNat = (-n).toNat by omega]
      · rw [itPrev_all hN f col _ (by omega), itPrev_all hN f col _ (by omega)]
/-- The document's way: of more than 300 no more than 300. -/
theorem goR {N : Nat} (hN : 1 ≤ N) (hN2 : N ≤ 255) (f : Nat → Bool) (col n : Int) (h0 : n ≠ 0) : itF (prevN N f) (min (-n) 300).toNat (itF (nextN N f) (min n 300).toNat col) = goN N f col n := by
  unfold goN
  rw [if_neg h0]
  by_cases h1 : 0 < n
  · rw [if_pos h1, show (min (-n) (300 : Int)).toNat = 0 by omega]
    show itF (nextN N f) (min n 300).toNat col = _
    by_cases h2 : n ≤ 300
    · rw [show (min n (300 : Int)).toNat = n.toNat by omega]
    · rw [itNext_all hN f col _ (by omega), itNext_all hN f col _ (by omega)]
  · rw [if_neg h1, show (min n (300 : Int)).toNat = 0 by omega]
    show itF (prevN N f) (min (-n) 300).toNat col = _
    by_cases h2 : -300 ≤ n
    · rw [show (min (-n) (300 : Int)).toNat = (-n).toNat by omega]
    · rw [itPrev_all hN f col _ (by omega), itPrev_all hN f col _ (by omega)]

/-- All stops, rising. -/
def listN (N : Nat) (f : Nat → Bool) : List Int := ((List.range N).filter f).map (fun i : Nat => (i : Int))
theorem listN_zero (f : Nat → Bool) : listN 0 f = [] := rfl
theorem listN_succ (N : Nat) (f : Nat → Bool) : listN (N + 1) f = listN N f ++ (if f N = true then [(N : Int)] else []) := by
  unfold listN
  rw [List.range_succ, List.filter_append, List.map_append]
  cases h : f N <;> simp [h]
theorem listN_len (N : Nat) (f : Nat → Bool) : (listN N f).length ≤ N := by
  unfold listN
  rw [List.length_map]
  have := List.length_filter_le f (List.range N)
  simpa using this
theorem mem_listN {N : Nat} {f : Nat → Bool} {x : Int} : x ∈ listN N f ↔ ∃ c : Nat, c < N ∧ f c = true ∧ x = (c : Int) := by
  unfold listN
  simp only [List.mem_map, List.mem_filter, List.mem_range]
  constructor
  · rintro ⟨c, ⟨h1, h2⟩, rfl⟩; exact ⟨c, h1, h2, rfl⟩
  · rintro ⟨c, h1, h2, rfl⟩; exact ⟨c, ⟨h1, h2⟩, rfl⟩
theorem listN_rise (N : Nat) (f : Nat → Bool) : (listN N f).Pairwise (· < ·) := by
  unfold listN
  rw [List.pairwise_map]
  have h : (List.range N).Pairwise (· < ·) := List.pairwise_lt_range
  exact (h.filter f).imp (fun h => by omega)
theorem listN_nodup (N : Nat) (f : Nat → Bool) : (listN N f).Nodup := (listN_rise N f).imp (fun h => by omega)
theorem listN_congr {N : Nat} {f g : Nat → Bool} (h : ∀ c, c < N → f c = g c) : listN N f = listN N g := by
  unfold listN
  congr 1
  exact List.filter_congr (fun x hx => h x (List.mem_range.1 hx))
theorem nextN_congr {N : Nat} {f g : Nat → Bool} (h : ∀ c, c < N → f c = g c) (col : Int) : nextN N f col = nextN N g col := by
  unfold nextN
  have : ∀ k, k ≤ N → nextRem N f col k = nextRem N g col k := by
    intro k
    induction k with
    | zero => intro _; rfl
    | succ k ih =>
      intro hk
      rw [nextRem, nextRem, ih (by omega), h (N - (k + 1)) (by omega)]
  exact this N (Nat.le_refl _)
theorem prevN_congr {N : Nat} {f g : Nat → Bool} (h : ∀ c, c < N → f c = g c) (col : Int) : prevN N f col = prevN N g col := by
  unfold prevN
  have : ∀ k, k ≤ N → prevUp f col k = prevUp g col k := by
    intro k
    induction k with
    | zero => intro _; rfl
    | succ k ih =>
      intro hk
      rw [prevUp, prevUp, ih (by omega), h k (by omega)]
  exact this N (Nat.le_refl _)

/-- One column is turned. -/
def upd (f : Nat → Bool) (i : Nat) (x : Bool) : Nat → Bool := fun k => if k = i then x else f k
/-- Columns are stops, or none. -/
def putF (f : Nat → Bool) (on : Bool) (l : List Int) : Nat → Bool := fun c => if (c : Int) ∈ l then on else f c
theorem putF_nil (f : Nat → Bool) (on : Bool) : putF f on [] = f := by funext c; simp [putF]
theorem putF_snoc (f : Nat → Bool) (on : Bool) (l : List Int) (i : Nat) : putF f on (l ++ [(i : Int)]) = upd (putF f on l) i on := by
  funext c
  unfold putF upd
  by_cases h : c = i
  · subst h; simp
  · have h2 : ¬ (c : Int) = (i : Int) := by omega
    simp [h, h2]
/-- Just the multiples of n, but for 0, below m. -/
def mulF (n m : Nat) : Nat → Bool := fun c => decide (0 < c ∧ c % n = 0 ∧ c < m)
theorem mulF_step {n m : Nat} (hn : 0 < n) (hm : 0 < m) (h : m % n = 0) : mulF n (m + n) = upd (mulF n m) m true := by
  funext c
  unfold mulF upd
  by_cases e : c = m
  · subst e; simp [hm, h, hn]
  · rw [if_neg e]
    rw [Bool.eq_iff_iff]
    simp only [decide_eq_true_eq]
    constructor
    · rintro ⟨a, b, c'⟩
      refine ⟨a, b, ?_⟩
      obtain ⟨p, rfl⟩ := Nat.dvd_of_mod_eq_zero b
      obtain ⟨q, rfl⟩ := Nat.dvd_of_mod_eq_zero h
      have h1 : n * p < n * (q + 1) := by rw [Nat.mul_add]; omega
      have h2 : p < q + 1 := Nat.lt_of_mul_lt_mul_left h1
      have h3 : p ≠ q := fun e' => e (by rw [e'])
      exact Nat.mul_lt_mul_of_pos_left (by omega) hn
    · rintro ⟨a, b, c'⟩; exact ⟨a, b, by omega⟩
/-- What Every leaves. -/
def everyF (n : Int) : Nat → Bool := fun c => decide (0 < n) && decide (0 < c) && ((c : Int) % n == 0)
theorem everyF_zero : everyF 0 = fun _ => false := by funext c; simp [everyF]
theorem everyF_mul {n N : Nat} (c : Nat) (hc : c < N) (m : Nat) (hm : N ≤ m) (hn : 0 < n) : mulF n m c = everyF n c := by
  unfold mulF everyF
  rw [Bool.eq_iff_iff]
  simp only [decide_eq_true_eq, Bool.and_eq_true, beq_iff_eq]
  constructor
  · rintro ⟨a, b, _⟩; exact ⟨⟨by omega, a⟩, by omega⟩
  · rintro ⟨⟨_, a⟩, b⟩; exact ⟨a, by omega, by omega⟩
/-- What Resize leaves. -/
def resF (N : Nat) (f : Nat → Bool) : Nat → Bool := fun c => decide (c < N) && f c
end Tb
end Go.Proofs.YtlhajbcabpfbkaaGreatDoor

/-
  A set of columns that stands in a map; tabs, and the document's answer's, in memory; clear. Of the program the types alone.
-/
namespace Go.Proofs.YtlhajbcabpfbkaaGreatDoor
namespace Tb
open Go.RowKit Go.Maps Go.ChangeMaps Go.MapKept

/-- A number out of a value. -/
def num : Value → Int
  | .int _ a => a
  | _ => 0

/-- How an element struct{} reads. -/
abbrev uE : Value → Option (DataW Unit × List MemPlace) := unitElem (H := Unit)
theorem law : Keyed Tryz.prog 3 := int_keyed Tryz.underlying3
theorem wf_nat {c : Nat} (h : c < 1000) : (Lit.int .i64 (c : Int)).wf = true := WalkArith.wf_i64 (by omega)
theorem key_nat {c : Nat} (h : c < 1000) : keyOf Tryz.prog 3 (.int .i64 (c : Int)) = some (.int .i64 (c : Int)) := keyOf_int_mk Tryz.underlying3 (wf_nat h)
theorem zero62 (w : World) : (zeroValue 191).run Tryz.prog w = .ok (.agg #[]) w := by kernel_rfl

/-- A map's keys are just the stops. -/
def SetIs (D : DataW Unit) (N : Nat) (f : Nat → Bool) : Prop := ∀ k, Maps.has D k = true ↔ ∃ c : Nat, c < N ∧ f c = true ∧ k = .int .i64 (c : Int)

theorem lit_inj {a b : Int} (h : Lit.int .i64 a = Lit.int .i64 b) : a = b := by cases h; rfl
theorem SetIs.at {D : DataW Unit} {N : Nat} {f : Nat → Bool} (h : SetIs D N f) {c : Nat} (hc : c < N) : Maps.has D (.int .i64 (c : Int)) = f c := by
  rw [Bool.eq_iff_iff, h]
  constructor
  · rintro ⟨c', h1, h2, h3⟩
    have := lit_inj h3
    obtain rfl : c = c' := by omega
    exact h2
  · intro hf; exact ⟨c, hc, hf, rfl⟩
theorem SetIs.empty (N : Nat) : SetIs (.map []) N (fun _ => false) := fun k => by simp [Maps.has]
theorem SetIs.put {D : DataW Unit} {N : Nat} {f : Nat → Bool} (h : SetIs D N f) (hm : IsMap D) {c : Nat} (hc : c < N) (d : DataW Unit) : SetIs (D.put (.int .i64 (c : Int)) d) N (upd f c true) := fun k => by
  by_cases e : k = .int .i64 (c : Int)
  · subst e
    rw [has_put_same hm (show WideAt.IsKeyLit (.int .i64 (c : Int)) from trivial)]
    simp only [true_iff]
    exact ⟨c, hc, by simp [upd], rfl⟩
  · rw [has_put_other e, h]
    constructor
    · rintro ⟨c', h1, h2, rfl⟩
      exact ⟨c', h1, by unfold upd; split <;> simp_all, rfl⟩
    · rintro ⟨c', h1, h2, rfl⟩
      refine ⟨c', h1, ?_, rfl⟩
      unfold upd at h2
      rw [if_neg (fun e' => e (by rw [e']))] at h2
      exact h2
theorem SetIs.del {D : DataW Unit} {N : Nat} {f : Nat → Bool} (h : SetIs D N f) (c : Nat) : SetIs (D.del (.int .i64 (c : Int))) N (upd f c false) := fun k => by
  by_cases e : k = .int .i64 (c : Int)
  · subst e
    rw [has_del_same]
    simp only [Bool.false_eq_true, false_iff]
    rintro ⟨c', h1, h2, h3⟩
    have := lit_inj h3
    obtain rfl : c = c' := by omega
    simp [upd] at h2
  · rw [has_del_other e, h]
    constructor
    · rintro ⟨c', h1, h2, rfl⟩
      refine ⟨c', h1, ?_, rfl⟩
      unfold upd
      rw [if_neg (fun e' => e (by rw [e']))]
      exact h2
    · rintro ⟨c', h1, h2, rfl⟩
      refine ⟨c', h1, ?_, rfl⟩
      unfold upd at h2
      rw [if_neg (fun e' => e (by rw [e']))] at h2
      exact h2
theorem SetIs.congr {D : DataW Unit} {N : Nat} {f g : Nat → Bool} (h : SetIs D N f) (e : ∀ c, c < N → f c = g c) : SetIs D N g := fun k => by
  rw [h]
  constructor
  · rintro ⟨c, h1, h2, h3⟩; exact ⟨c, h1, (e c h1) ▸ h2, h3⟩
  · rintro ⟨c, h1, h2, h3⟩; exact ⟨c, h1, (e c h1).symm ▸ h2, h3⟩
/-- The keys are the list of the stops, in some order. -/
theorem SetIs.perm {D : DataW Unit} {N : Nat} {f : Nat → Bool} (h : SetIs D N f) {w : World} {b n : Nat} (hown : w.ownsMap Tryz.prog 3 uE b n D) : (listN N f).Perm (intKeys D) := by
  obtain ⟨es, rfl, hp, _⟩ := hown.entries law
  obtain ⟨es', he, hk⟩ := hown.keysOf
  cases he
  refine perm_intKeys hp (fun p hp' => ?_) (listN_nodup N f) (fun x => ?_)
  · have h1 : Maps.has (.map es) p.1 = true := by
      rw [has_eq, List.any_eq_true]
      obtain ⟨v, hv⟩ := hk p hp'
      obtain ⟨x, _, h2, _⟩ := Maps.keyOf_i64 Tryz.underlying3 hv
      exact ⟨p, hp', by rw [h2]; simp [Lit.sameKey]⟩
    obtain ⟨c, _, _, h3⟩ := (h p.1).1 h1
    exact ⟨_, h3⟩
  · rw [mem_listN, h]
    constructor
    · rintro ⟨c, h1, h2, rfl⟩; exact ⟨c, h1, h2, rfl⟩
    · rintro ⟨c, h1, h2, h3⟩; exact ⟨c, h1, h2, lit_inj h3⟩
theorem SetIs.size {D : DataW Unit} {N : Nat} {f : Nat → Bool} (h : SetIs D N f) {w : World} {b n : Nat} (hown : w.ownsMap Tryz.prog 3 uE b n D) : Maps.size D ≤ N := by
  have hp := (h.perm hown).length_eq
  have hl := listN_len N f
  obtain ⟨es, rfl, _⟩ := hown.entries law
  simp [intKeys] at hp
  simp [Maps.size]
  omega
theorem owns_few {D : DataW Unit} {w : World} {b n m : Nat} (hown : w.ownsMap Tryz.prog 3 uE b n D) (h : Maps.size D ≤ m) : w.ownsMap Tryz.prog 3 uE b m D := by
  obtain ⟨es, clock, hb, F, hs, rfl⟩ := hown
  exact ⟨es, clock, hb, F, by simpa [Maps.size, length_sorted] using h, rfl⟩

/-- A map in block m has just the stops. -/
def SetAt (w : World) (m N : Nat) (f : Nat → Bool) : Prop := ∃ D, w.ownsMap Tryz.prog 3 uE m N D ∧ SetIs D N f
theorem SetAt.of {w : World} {m n N : Nat} {f : Nat → Bool} {D : DataW Unit} (h : w.ownsMap Tryz.prog 3 uE m n D) (k : SetIs D N f) : SetAt w m N f := ⟨D, owns_few h (k.size h), k⟩
theorem SetAt.lt {w : World} {m N : Nat} {f : Nat → Bool} (h : SetAt w m N f) : m < w.heap.size := by obtain ⟨D, h1, _⟩ := h; exact h1.lt
theorem owns_kept {D : DataW Unit} {S : Nat → Prop} {w w' : World} {b n : Nat} (h : w.ownsMap Tryz.prog 3 uE b n D) (k : Kept S w w') (hs : ¬ S b) : w'.ownsMap Tryz.prog 3 uE b n D := by
  have hlt := h.lt
  obtain ⟨es, clock, hb, F, h1, h2⟩ := h
  exact ⟨es, clock, (k.block b hlt hs).trans hb, F, h1, h2⟩
theorem SetAt.kept {w w' : World} {m N : Nat} {f : Nat → Bool} (h : SetAt w m N f) {S : Nat → Prop} (k : Kept S w w') (hs : ¬ S m) : SetAt w' m N f := by
  obtain ⟨D, h1, h2⟩ := h
  exact ⟨D, owns_kept h1 k hs, h2⟩
theorem SetAt.congr {w : World} {m N : Nat} {f g : Nat → Bool} (h : SetAt w m N f) (e : ∀ c, c < N → f c = g c) : SetAt w m N g := by
  obtain ⟨D, h1, h2⟩ := h
  exact ⟨D, h1, h2.congr e⟩
theorem SetAt.block {w : World} {m N : Nat} {f : Nat → Bool} (h : SetAt w m N f) : ∃ es clock, w.heap[m]? = some (.map es clock) := by
  obtain ⟨D, ⟨es, clock, hb, _⟩, _⟩ := h
  exact ⟨es, clock, hb⟩
theorem SetAt.ne {w : World} {m N b o : Nat} {f : Nat → Bool} (h : SetAt w m N f) {v : Value} (hc : w.cell? ⟨b, o, none⟩ = some v) : b ≠ m := by
  rintro rfl
  obtain ⟨es, clock, hb⟩ := h.block
  simp [World.cell?, hb] at hc
theorem turned_kept {w w' : World} {b : Nat} (h : w.mapTurned w' b) : Kept (· = b) w w' := (Kept.ofGrown h.grown).mono (fun k _ e => by cases e; rfl)

/-- Tabs in block t, their stops in the map of block m. -/
structure TabsAt (w : World) (t m N : Nat) (f : Nat → Bool) : Prop where
  head : w.heap[t]? = some (.cells #[.int .i64 (N : Int), .map (some m)] 117 (0, 0))
  set : SetAt w m N f
  N1 : 1 ≤ N
  N2 : N ≤ 255
namespace TabsAt
variable {w w' : World} {t m N : Nat} {f : Nat → Bool}
theorem lt (h : TabsAt w t m N f) : t < w.heap.size := (Array.getElem?_eq_some_iff.1 h.head).1
theorem c0 (h : TabsAt w t m N f) : w.cell? ⟨t, 0, none⟩ = some (.int .i64 (N : Int)) := by simp [World.cell?, h.head]
theorem c1 (h : TabsAt w t m N f) : w.cell? ⟨t, 1, none⟩ = some (.map (some m)) := by simp [World.cell?, h.head]
theorem fz (h : TabsAt w t m N f) (k : Nat) : w.frozen? ⟨t, k, none⟩ = false := by simp [World.frozen?, h.head]
theorem ne (h : TabsAt w t m N f) : t ≠ m := h.set.ne h.c0
theorem kept (h : TabsAt w t m N f) {S : Nat → Prop} (k : Kept S w w') (ht : ¬ S t) (hm : ¬ S m) : TabsAt w' t m N f :=
  ⟨(k.block t h.lt ht).trans h.head, h.set.kept k hm, h.N1, h.N2⟩
theorem kept0 (h : TabsAt w t m N f) (k : Kept0 w w') : TabsAt w' t m N f := h.kept k (fun e => e) (fun e => e)
theorem withSet (h : TabsAt w t m N f) {g : Nat → Bool} (k : Kept (· = m) w w') (hs : SetAt w' m N g) : TabsAt w' t m N g :=
  ⟨(k.block t h.lt h.ne).trans h.head, hs, h.N1, h.N2⟩
theorem congr (h : TabsAt w t m N f) {g : Nat → Bool} (e : ∀ c, c < N → f c = g c) : TabsAt w t m N g := ⟨h.head, h.set.congr e, h.N1, h.N2⟩
end TabsAt

/-- The document's answer's tabs in block r, its truths in block b. -/
structure RefAt (w : World) (r b N : Nat) (f : Nat → Bool) : Prop where
  head : w.heap[r]? = some (.cells #[.slice (some ⟨b, 0, none⟩) N N] 117 (0, 0))
  row : ∃ cur : Array Value, w.heap[b]? = some (.cells cur 4 (0, 0)) ∧ ∀ k, k < N → cur[k]? = some (.bool (f k))
  N1 : 1 ≤ N
  N2 : N ≤ 255
namespace RefAt
variable {w w' : World} {r b N : Nat} {f : Nat → Bool}
theorem lt (h : RefAt w r b N f) : r < w.heap.size := (Array.getElem?_eq_some_iff.1 h.head).1
theorem ltb (h : RefAt w r b N f) : b < w.heap.size := by obtain ⟨cur, h1, _⟩ := h.row; exact (Array.getElem?_eq_some_iff.1 h1).1
theorem c0 (h : RefAt w r b N f) : w.cell? ⟨r, 0, none⟩ = some (.slice (some ⟨b, 0, none⟩) N N) := by simp [World.cell?, h.head]
theorem cell (h : RefAt w r b N f) {k : Nat} (hk : k < N) : w.cell? ⟨b, k, none⟩ = some (.bool (f k)) := by
  obtain ⟨cur, h1, h2⟩ := h.row
  simp [World.cell?, h1, h2 k hk]
theorem frozen (h : RefAt w r b N f) (k : Nat) : w.frozen? ⟨b, k, none⟩ = false := by
  obtain ⟨cur, h1, h2⟩ := h.row
  simp [World.frozen?, h1]
theorem ne (h : RefAt w r b N f) : r ≠ b := by
  rintro rfl
  obtain ⟨cur, h1, _⟩ := h.row
  have := h.head.symm.trans h1
  simp at this
theorem kept (h : RefAt w r b N f) {S : Nat → Prop} (k : Kept S w w') (hr : ¬ S r) (hb : ¬ S b) : RefAt w' r b N f := by
  refine ⟨(k.block r h.lt hr).trans h.head, ?_, h.N1, h.N2⟩
  have hl := h.ltb
  obtain ⟨cur, h1, h2⟩ := h.row
  exact ⟨cur, (k.block b hl hb).trans h1, h2⟩
theorem kept0 (h : RefAt w r b N f) (k : Kept0 w w') : RefAt w' r b N f := h.kept k (fun e => e) (fun e => e)
theorem congr (h : RefAt w r b N f) {g : Nat → Bool} (e : ∀ c, c < N → f c = g c) : RefAt w r b N g := by
  refine ⟨h.head, ?_, h.N1, h.N2⟩
  obtain ⟨cur, h1, h2⟩ := h.row
  exact ⟨cur, h1, fun k hk => by rw [h2 k hk, e k hk]⟩
theorem set (h : RefAt w r b N f) (i : Nat) (x : Bool) : RefAt (w.setCell ⟨b, i, none⟩ (.bool x)) r b N (upd f i x) := by
  refine ⟨((Kept.set1 w b i (.bool x)).block r h.lt h.ne).trans h.head, ?_, h.N1, h.N2⟩
  obtain ⟨cur, h1, h2⟩ := h.row
  refine ⟨cur.setIfInBounds i (.bool x), ?_, fun k hk => ?_⟩
  · simp [World.setCell, Array.getElem?_modify, h1]
  · have := h2 k hk
    have hlt : k < cur.size := (Array.getElem?_eq_some_iff.1 this).1
    unfold upd
    by_cases e : k = i
    · subst e; simp [hlt]
    · rw [if_neg e, Array.getElem?_setIfInBounds_ne (by omega), this]
end RefAt

/-- Numbers that a slice leads to. -/
def IntsIn (w : World) (a : Option Addr) (l : List Int) : Prop := ∀ (k : Nat) (x : Int), l[k]? = some x → ∃ b off, a = some ⟨b, off, none⟩ ∧ w.cell? ⟨b, off + k, none⟩ = some (.int .i64 x)
theorem IntsIn.kept0 {w w' : World} {a : Option Addr} {l : List Int} (h : IntsIn w a l) (k : Kept0 w w') : IntsIn w' a l := fun i x hx => by
  obtain ⟨b, off, ha, hc⟩ := h i x hx
  exact ⟨b, off, ha, kcell k hc⟩
theorem IntsIn.kept {w w' : World} {a : Option Addr} {l : List Int} (h : IntsIn w a l) {S : Nat → Prop} (k : Kept S w w') (hs : ∀ b off, a = some ⟨b, off, none⟩ → ∀ v o, w.cell? ⟨b, o, none⟩ = some v → ¬ S b) : IntsIn w' a l := fun i x hx => by
  obtain ⟨b, off, ha, hc⟩ := h i x hx
  exact ⟨b, off, ha, (k.cell (World.block_lt_of_cell? w _ hc) (hs b off ha _ _ hc)).trans hc⟩
/-- A slice's numbers are not where a map is. -/
theorem IntsIn.keptM {w w' : World} {a : Option Addr} {l : List Int} (h : IntsIn w a l) {m N : Nat} {f : Nat → Bool} (hm : SetAt w m N f) (k : Kept (· = m) w w') : IntsIn w' a l :=
  h.kept k (fun _ _ _ _ _ hc => hm.ne hc)

section
variable {H : Type} {P : Program} (w : World) {ops : Array Oper} {rest : List Oper} {o : Oper} {a : Act} {Q : Exit → Act → World → Prop}
/-- 'clear(m)'. -/
theorem wpList_wiped (hg : o.guard = none) (m : Operand) (t : TypeId) (hop : o.op = Op.call { callee := Callee.builtin Builtin.clear, args := #[m], argTypes := #[t] })
    (k e : TypeId) (ht : P.underlying t = some (.map k e)) (R : Value → Option (DataW H × List MemPlace)) (b n : Nat) (D : DataW H) (hm : a.eval m = .map (some b)) (hown : w.ownsMap P k R b n D)
    (hK : ∀ w', w'.ownsMap P k R b 0 (.map []) → w.mapTurned w' b → wpList P ops Q rest (a.put o.dst (.tuple #[])) w') :
    wpList P ops Q (o :: rest) a w := by
  obtain ⟨es, clock, hb, F, hs, hD⟩ := hown
  refine wpList_plain hg fun K' hK' => ?_
  have hrun : (Builtin.clear_ #[t] o.type #[.map (some b)]).run P w = .ok (.tuple #[]) (setBlock w b (.map #[] clock)) := by
    simp [Builtin.clear_, run_underlying ht, MapKept.run_getObj_map hb, MapKept.run_setObj_map _ hb, Result.andThen, setBlock]
  unfold Oper.wp
  simp [execOp, hop, resolve, invoke, builtin, hm, hrun, Result.andThen]
  exact hK' _ _ (hK _ ⟨#[], clock, heap_setBlock_same hb _, ⟨by simp, MapKept.stamped_empty clock, by simp⟩, Nat.le_refl _, rfl⟩ ⟨es, clock, #[], clock, hb, rfl⟩)
end
end Tb
end Go.Proofs.YtlhajbcabpfbkaaGreatDoor

/-
  What the small calls do: may, New, near, stopsAt, Cols.
-/
namespace Go.Proofs.YtlhajbcabpfbkaaGreatDoor
namespace Tb
open Go.RowKit Go.Maps Go.ChangeMaps Go.MapKept

set_option maxHeartbeats 400000 in
theorem may_any (c : Int) (w : World) :
    Calls Tryz.prog 54 #[.int .i64 c] w fun e w' => e = .returned (.bool (decide (1 ≤ c ∧ c ≤ 255))) ∧ w = w' := by
  go_enter Tryz.func54, Tryz.ntmps54
  go_wp2
  all_goals
    go_ret
    refine ⟨ret_bool ?_, rfl⟩
    rw [Bool.eq_iff_iff]
    simp
    try omega

set_option maxHeartbeats 400000 in
theorem new_no (c : Int) (w : World) (h : ¬ (1 ≤ c ∧ c ≤ 255)) :
    Calls Tryz.prog 37 #[.int .i64 c] w fun e w' => e = .returned (.tuple #[.pointer none, .int .i64 10]) ∧ Kept0 w w' := by
  have HB : Hid (decide (1 ≤ c ∧ c ≤ 255) = false) := decide_eq_false h
  clear h
  go_enter Tryz.func37, Tryz.ntmps37
  go_wp2_with fail
  refine (may_any _ _).mono ?_
  rw [HB.out]
  rintro e w1 ⟨rfl, rfl⟩
  go_wp2_with fail
  go_ret2
  exact ⟨rfl, Kept.refl _ _⟩

set_option maxHeartbeats 400000 in
theorem new_yes (N : Nat) (w : World) (h1 : 1 ≤ N) (h2 : N ≤ 255) :
    Calls Tryz.prog 37 #[.int .i64 (N : Int)] w fun e w' => ∃ t m, e = .returned (.tuple #[.pointer (some ⟨t, 0, none⟩), .int .i64 0]) ∧ w.heap.size ≤ t ∧ w.heap.size ≤ m ∧ TabsAt w' t m N (fun _ => false) ∧ Kept0 w w' := by
  have HB : Hid (decide (1 ≤ (N : Int) ∧ (N : Int) ≤ 255) = true) := decide_eq_true ⟨by omega, by omega⟩
  have hmm := @run_makeMap Tryz.prog
  go_enter Tryz.func37, Tryz.ntmps37
  go_wp2_with fail
  refine (may_any _ _).mono ?_
  rw [HB.out]
  rintro e w1 ⟨rfl, rfl⟩
  go_wp2_with fail
  go_ret2
  refine ⟨w.heap.size + 1, w.heap.size, rfl, by omega, by omega, ⟨heap_new2 _ _ _, ?_, h1, h2⟩, ((Kept.refl _ w).alloc _).alloc _⟩
  exact (SetAt.of (World.ownsMap_made w Tryz.prog 3 uE) (SetIs.empty N)).kept ((Kept.refl (fun _ => False) _).alloc _) (fun e => e)



end Tb
end Go.Proofs.YtlhajbcabpfbkaaGreatDoor

/-
  What Next, Prev and Go answer.
-/
namespace Go.Proofs.YtlhajbcabpfbkaaGreatDoor
namespace Tb
open Go.RowKit Go.Maps Go.ChangeMaps Go.MapKept

theorem if_yes {f : Nat → Bool} {k : Nat} {p : Prop} [Decidable p] {a b : Int} (hf : f k = true) (hp : p) : (if f k = true ∧ p then a else b) = a := if_pos ⟨hf, hp⟩




end Tb
end Go.Proofs.YtlhajbcabpfbkaaGreatDoor

/-
  What Put does.
-/
namespace Go.Proofs.YtlhajbcabpfbkaaGreatDoor
namespace Tb
open Go.RowKit Go.Maps Go.ChangeMaps Go.MapKept

/-- All columns are there. -/
def Ins (N : Nat) (l : List Int) : Prop := ∀ x ∈ l, 0 ≤ x ∧ x < (N : Int)
instance (N : Nat) (l : List Int) : Decidable (Ins N l) := inferInstanceAs (Decidable (∀ x ∈ l, 0 ≤ x ∧ x < (N : Int)))


end Tb
end Go.Proofs.YtlhajbcabpfbkaaGreatDoor

/-
  What Every and Resize do.
-/
namespace Go.Proofs.YtlhajbcabpfbkaaGreatDoor
namespace Tb
open Go.RowKit Go.Maps Go.ChangeMaps Go.MapKept



theorem mul_le {M c : Nat} (h0 : 0 < c) (h : c % M = 0) : M ≤ c := Nat.le_of_dvd h0 (Nat.dvd_of_mod_eq_zero h)
theorem mulF_first {M c : Nat} : mulF M M c = false := by
  unfold mulF
  rw [decide_eq_false_iff_not]
  rintro ⟨h1, h2, h3⟩
  have := mul_le h1 h2
  omega


/-- While stops are looked at: those that have room, or are still to come, are there. -/
def Sifts (D : DataW Unit) (N M : Nat) (f : Nat → Bool) (left : Lit → Bool) : Prop := ∀ k, Maps.has D k = true ↔ ∃ c : Nat, c < N ∧ f c = true ∧ k = .int .i64 (c : Int) ∧ (c < M ∨ left k = true)
theorem Sifts.start {D : DataW Unit} {N M : Nat} {f : Nat → Bool} (h : SetIs D N f) : Sifts D N M f (Maps.has D) := fun k => by
  constructor
  · intro hk
    obtain ⟨c, h1, h2, h3⟩ := (h k).1 hk
    exact ⟨c, h1, h2, h3, Or.inr hk⟩
  · rintro ⟨c, h1, h2, h3, _⟩
    exact (h k).2 ⟨c, h1, h2, h3⟩
theorem Sifts.stays {D : DataW Unit} {N M c : Nat} {f : Nat → Bool} {left : Lit → Bool} (h : Sifts D N M f left) (hc : c < M) : Sifts D N M f (fun z => left z && !z.sameKey (.int .i64 (c : Int))) := fun k => by
  rw [h]
  constructor
  · rintro ⟨d, h1, h2, h3, h4⟩
    refine ⟨d, h1, h2, h3, ?_⟩
    rcases h4 with h4 | h4
    · exact Or.inl h4
    · by_cases e : d = c
      · subst e; exact Or.inl hc
      · refine Or.inr ?_
        have : ¬ (d : Int) = (c : Int) := by omega
        rw [h3] at h4 ⊢
        simp [h4, Lit.sameKey, this]
  · rintro ⟨d, h1, h2, h3, h4⟩
    refine ⟨d, h1, h2, h3, h4.imp id (fun h => ?_)⟩
    simp only [Bool.and_eq_true] at h
    exact h.1
theorem Sifts.struck {D : DataW Unit} {N M c : Nat} {f : Nat → Bool} {left : Lit → Bool} (h : Sifts D N M f left) (hc : ¬ c < M) : Sifts (D.del (.int .i64 (c : Int))) N M f (fun z => left z && !z.sameKey (.int .i64 (c : Int))) := fun k => by
  by_cases e : k = .int .i64 (c : Int)
  · subst e
    rw [has_del_same]
    simp only [Bool.false_eq_true, false_iff]
    rintro ⟨d, h1, h2, h3, h4⟩
    have := lit_inj h3
    obtain rfl : c = d := by omega
    rcases h4 with h4 | h4
    · exact hc h4
    · simp [Lit.sameKey] at h4
  · rw [has_del_other e, h]
    constructor
    · rintro ⟨d, h1, h2, h3, h4⟩
      refine ⟨d, h1, h2, h3, h4.imp id (fun h => ?_)⟩
      have : ¬ (d : Int) = (c : Int) := fun e' => e (by rw [h3, e'])
      rw [h3] at h ⊢
      simp [h, Lit.sameKey, this]
    · rintro ⟨d, h1, h2, h3, h4⟩
      refine ⟨d, h1, h2, h3, h4.imp id (fun h => ?_)⟩
      simp only [Bool.and_eq_true] at h
      exact h.1
theorem Sifts.done {D : DataW Unit} {N M : Nat} {f : Nat → Bool} {left : Lit → Bool} (h : Sifts D N M f left) (hl : ∀ k, left k = false) : SetIs D M (resF N f) := fun k => by
  rw [h]
  constructor
  · rintro ⟨d, h1, h2, h3, h4⟩
    rcases h4 with h4 | h4
    · exact ⟨d, h4, by simp [resF, h1, h2], h3⟩
    · rw [hl] at h4; cases h4
  · rintro ⟨d, h1, h2, h3⟩
    simp [resF] at h2
    exact ⟨d, h2.1, h2.2, h3, Or.inl h1⟩


end Tb
end Go.Proofs.YtlhajbcabpfbkaaGreatDoor
