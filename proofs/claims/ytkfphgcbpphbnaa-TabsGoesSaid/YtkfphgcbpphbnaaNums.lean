/-
  Stops as numbers: Next, Prev, Go and the list of stops. No program.
-/
import Derived.Test.YtkfphgcbpphbnaaBase
namespace Go.Proofs.Ytkfphgcbpphbnaa
open Go.RowKit

theorem ret_int {k : IntKind} {a b : Int} (h : a = b) : Ending.returned (.int k a) = .returned (.int k b) := by rw [h]
theorem ret_bool {a b : Bool} (h : a = b) : Ending.returned (.bool a) = .returned (.bool b) := by rw [h]
theorem w64 {n : Int} (h1 : -9223372036854775808 ≤ n) (h2 : n ≤ 9223372036854775807) : wrap64 n = n := by
  have := IntWalk.i64_in n ⟨h1, h2⟩
  simpa [IntKind.wrap_i64, wrap64] using this
theorem kcell {w w' : World} (h : Kept0 w w') {b o : Nat} {v : Value} (hc : w.cell? ⟨b, o, none⟩ = some v) : w'.cell? ⟨b, o, none⟩ = some v :=
  (h.cell (World.block_lt_of_cell? w _ hc) (fun e => e)).trans hc
theorem heap_old (w : World) (o : Obj) {b : Nat} {x : Obj} (h : w.heap[b]? = some x) : (w.alloc o).heap[b]? = some x := by
  have hb : b < w.heap.size := by
    rcases Nat.lt_or_ge b w.heap.size with h1 | h1
    · exact h1
    · rw [Array.getElem?_eq_none h1] at h; cases h
  rw [Below.heap_alloc _ _ _ hb]; exact h
theorem Kept.set1 (W : World) (b o : Nat) (v : Value) : Kept (· = b) W (W.setCell ⟨b, o, none⟩ v) :=
  Kept.setCell (S := (· = b)) (Kept.refl _ W) ⟨b, o, none⟩ (Or.inr rfl) v

/-- The number nearest to x from 0 to below n. -/
def nr (x n : Int) : Int := max 0 (min x (n - 1))
theorem nr_lo (x n : Int) : 0 ≤ nr x n := by unfold nr; omega
theorem nr_hi (x n : Int) (h : 1 ≤ n) : nr x n < n := by unfold nr; omega
theorem nr_in (x n : Int) (h0 : 0 ≤ x) (h1 : x < n) : nr x n = x := by unfold nr; omega
theorem nr_out {x n : Int} (h : ¬ (0 ≤ x ∧ x < n)) (h1 : 1 ≤ n) : nr x n ≠ x := by unfold nr; omega

/-- The greatest stop below a column among the first n columns, or 0. -/
def prevUp (f : Nat → Bool) (col : Int) : Nat → Int
  | 0 => 0
  | n + 1 => if f n = true ∧ (n : Int) < col then (n : Int) else prevUp f col n
def prevN (N : Nat) (f : Nat → Bool) (col : Int) : Int := prevUp f col N
/-- The least stop above a column among the last k of N columns, or the last column. -/
def nextRem (N : Nat) (f : Nat → Bool) (col : Int) : Nat → Int
  | 0 => (N : Int) - 1
  | k + 1 => if f (N - (k + 1)) = true ∧ col < ((N - (k + 1) : Nat) : Int) then ((N - (k + 1) : Nat) : Int) else nextRem N f col k
def nextN (N : Nat) (f : Nat → Bool) (col : Int) : Int := nextRem N f col N

theorem nextRem_step (N : Nat) (f : Nat → Bool) (col : Int) (i : Nat) (h : i < N) :
    nextRem N f col (N - i) = if f i = true ∧ col < (i : Int) then (i : Int) else nextRem N f col (N - (i + 1)) := by
  have e : N - i = (N - (i + 1)) + 1 := by omega
  have e2 : N - ((N - (i + 1)) + 1) = i := by omega
  rw [e, nextRem, e2]

theorem nextRem_spec (N : Nat) (f : Nat → Bool) (col : Int) : ∀ k, k ≤ N →
    (∃ i, N - k ≤ i ∧ i < N ∧ f i = true ∧ col < (i : Int) ∧ nextRem N f col k = (i : Int) ∧ ∀ j, N - k ≤ j → j < N → f j = true → col < (j : Int) → i ≤ j) ∨
    ((∀ j, N - k ≤ j → j < N → f j = true → ¬ col < (j : Int)) ∧ nextRem N f col k = (N : Int) - 1)
  | 0, _ => Or.inr ⟨fun j h1 h2 => by omega, rfl⟩
  | k + 1, hk => by
    rw [nextRem]
    by_cases h : f (N - (k + 1)) = true ∧ col < ((N - (k + 1) : Nat) : Int)
    · rw [if_pos h]
      exact Or.inl ⟨N - (k + 1), Nat.le_refl _, by omega, h.1, h.2, rfl, fun j h1 _ _ _ => h1⟩
    · rw [if_neg h]
      rcases nextRem_spec N f col k (by omega) with ⟨i, h1, h2, h3, h4, h5, h6⟩ | ⟨h1, h2⟩
      · refine Or.inl ⟨i, by omega, h2, h3, h4, h5, fun j j1 j2 j3 j4 => ?_⟩
        by_cases e : j = N - (k + 1)
        · subst e; exact absurd ⟨j3, j4⟩ h
        · exact h6 j (by omega) j2 j3 j4
      · refine Or.inr ⟨fun j j1 j2 j3 j4 => ?_, h2⟩
        by_cases e : j = N - (k + 1)
        · subst e; exact h ⟨j3, j4⟩
        · exact h1 j (by omega) j2 j3 j4

theorem next_spec (N : Nat) (f : Nat → Bool) (col : Int) :
    (∃ i, i < N ∧ f i = true ∧ col < (i : Int) ∧ nextN N f col = (i : Int) ∧ ∀ j, j < N → f j = true → col < (j : Int) → i ≤ j) ∨
    ((∀ j, j < N → f j = true → ¬ col < (j : Int)) ∧ nextN N f col = (N : Int) - 1) := by
  rcases nextRem_spec N f col N (Nat.le_refl _) with ⟨i, h1, h2, h3, h4, h5, h6⟩ | ⟨h1, h2⟩
  · exact Or.inl ⟨i, h2, h3, h4, h5, fun j j2 j3 j4 => h6 j (by omega) j2 j3 j4⟩
  · exact Or.inr ⟨fun j j2 j3 => h1 j (by omega) j2 j3, h2⟩

theorem prevUp_spec (f : Nat → Bool) (col : Int) : ∀ n,
    (∃ i, i < n ∧ f i = true ∧ (i : Int) < col ∧ prevUp f col n = (i : Int) ∧ ∀ j, j < n → f j = true → (j : Int) < col → j ≤ i) ∨
    ((∀ j, j < n → f j = true → ¬ (j : Int) < col) ∧ prevUp f col n = 0)
  | 0 => Or.inr ⟨fun j h => by omega, rfl⟩
  | n + 1 => by
    rw [prevUp]
    by_cases h : f n = true ∧ (n : Int) < col
    · rw [if_pos h]
      exact Or.inl ⟨n, by omega, h.1, h.2, rfl, fun j h1 _ _ => by omega⟩
    · rw [if_neg h]
      rcases prevUp_spec f col n with ⟨i, h1, h2, h3, h4, h5⟩ | ⟨h1, h2⟩
      · refine Or.inl ⟨i, by omega, h2, h3, h4, fun j j1 j2 j3 => ?_⟩
        by_cases e : j = n
        · subst e; exact absurd ⟨j2, j3⟩ h
        · exact h5 j (by omega) j2 j3
      · refine Or.inr ⟨fun j j1 j2 j3 => ?_, h2⟩
        by_cases e : j = n
        · subst e; exact h ⟨j2, j3⟩
        · exact h1 j (by omega) j2 j3

theorem prev_spec (N : Nat) (f : Nat → Bool) (col : Int) :
    (∃ i, i < N ∧ f i = true ∧ (i : Int) < col ∧ prevN N f col = (i : Int) ∧ ∀ j, j < N → f j = true → (j : Int) < col → j ≤ i) ∨
    ((∀ j, j < N → f j = true → ¬ (j : Int) < col) ∧ prevN N f col = 0) := prevUp_spec f col N

section
variable {N : Nat} (f : Nat → Bool)
theorem next_lo (hN : 1 ≤ N) (c : Int) : 0 ≤ nextN N f c := by rcases next_spec N f c with ⟨i, _, _, _, h, _⟩ | ⟨_, h⟩ <;> omega
theorem next_hi (c : Int) : nextN N f c < N := by rcases next_spec N f c with ⟨i, _, _, _, h, _⟩ | ⟨_, h⟩ <;> omega
theorem next_gt (c : Int) (h : c < (N : Int) - 1) : c < nextN N f c := by rcases next_spec N f c with ⟨i, _, _, _, h, _⟩ | ⟨_, h⟩ <;> omega
theorem next_last (c : Int) (h : (N : Int) - 1 ≤ c) : nextN N f c = (N : Int) - 1 := by rcases next_spec N f c with ⟨i, _, _, _, h, _⟩ | ⟨_, h⟩ <;> omega
theorem next_mono (a b : Int) (h : a ≤ b) : nextN N f a ≤ nextN N f b := by
  rcases next_spec N f a with ⟨i, i1, i2, i3, i4, i5⟩ | ⟨i1, i2⟩
  · rcases next_spec N f b with ⟨j, j1, j2, j3, j4, j5⟩ | ⟨j1, j2⟩
    · have := i5 j j1 j2 (by omega); omega
    · omega
  · rcases next_spec N f b with ⟨j, j1, j2, j3, j4, j5⟩ | ⟨j1, j2⟩
    · exact absurd (by omega) (i1 j j1 j2)
    · omega
theorem prev_lo (c : Int) : 0 ≤ prevN N f c := by rcases prev_spec N f c with ⟨i, _, _, _, h, _⟩ | ⟨_, h⟩ <;> omega
theorem prev_hi (hN : 1 ≤ N) (c : Int) : prevN N f c < N := by rcases prev_spec N f c with ⟨i, _, _, _, h, _⟩ | ⟨_, h⟩ <;> omega
theorem prev_lt (c : Int) (h : 0 < c) : prevN N f c < c := by rcases prev_spec N f c with ⟨i, _, _, _, h, _⟩ | ⟨_, h⟩ <;> omega
theorem prev_first (c : Int) (h : c ≤ 0) : prevN N f c = 0 := by rcases prev_spec N f c with ⟨i, _, _, _, h, _⟩ | ⟨_, h⟩ <;> omega
theorem prev_mono (a b : Int) (h : a ≤ b) : prevN N f a ≤ prevN N f b := by
  rcases prev_spec N f a with ⟨i, i1, i2, i3, i4, i5⟩ | ⟨i1, i2⟩
  · rcases prev_spec N f b with ⟨j, j1, j2, j3, j4, j5⟩ | ⟨j1, j2⟩
    · have := j5 i i1 i2 (by omega); omega
    · exact absurd (by omega) (j1 i i1 i2)
  · rcases prev_spec N f b with ⟨j, j1, j2, j3, j4, j5⟩ | ⟨j1, j2⟩ <;> omega
/-- From just below a stop Next leads to it. -/
theorem next_at {s : Nat} (hs : s < N) (h : f s = true) (c : Int) (hc : c < (s : Int)) (hb : ∀ j, j < N → f j = true → c < (j : Int) → s ≤ j) : nextN N f c = (s : Int) := by
  rcases next_spec N f c with ⟨i, i1, i2, i3, i4, i5⟩ | ⟨i1, i2⟩
  · have h1 := i5 s hs h hc
    have h2 := hb i i1 i2 i3
    omega
  · exact absurd hc (i1 s hs h)
theorem prev_at {s : Nat} (hs : s < N) (h : f s = true) (c : Int) (hc : (s : Int) < c) (hb : ∀ j, j < N → f j = true → (j : Int) < c → j ≤ s) : prevN N f c = (s : Int) := by
  rcases prev_spec N f c with ⟨i, i1, i2, i3, i4, i5⟩ | ⟨i1, i2⟩
  · have h1 := i5 s hs h hc
    have h2 := hb i i1 i2 i3
    omega
  · exact absurd hc (i1 s hs h)
end

/-- A step, so many times. -/
def itF (g : Int → Int) : Nat → Int → Int
  | 0, c => c
  | k + 1, c => g (itF g k c)
theorem itF_succ (g : Int → Int) (k : Nat) (c : Int) : itF g (k + 1) c = g (itF g k c) := rfl

theorem itNext_ge {N : Nat} (hN : 1 ≤ N) (f : Nat → Bool) (c : Int) : ∀ k : Nat, min (k : Int) ((N : Int) - 1) ≤ itF (nextN N f) (k + 1) c
  | 0 => by have := next_lo f hN c; simp only [itF]; omega
  | k + 1 => by
    rw [itF_succ]
    have ih := itNext_ge hN f c k
    by_cases h : itF (nextN N f) (k + 1) c < (N : Int) - 1
    · have := next_gt (N := N) f _ h
      omega
    · rw [next_last f _ (by omega)]
      omega
theorem itPrev_le {N : Nat} (hN : 1 ≤ N) (f : Nat → Bool) (c : Int) : ∀ k : Nat, itF (prevN N f) (k + 1) c ≤ max 0 ((N : Int) - 1 - k)
  | 0 => by have := prev_hi f hN c; simp only [itF]; omega
  | k + 1 => by
    rw [itF_succ]
    have ih := itPrev_le hN f c k
    by_cases h : 0 < itF (prevN N f) (k + 1) c
    · have := prev_lt (N := N) f _ h
      omega
    · rw [prev_first f _ (by omega)]
      omega
theorem itNext_in {N : Nat} (hN : 1 ≤ N) (f : Nat → Bool) (c : Int) (k : Nat) : 0 ≤ itF (nextN N f) (k + 1) c ∧ itF (nextN N f) (k + 1) c < N := ⟨next_lo f hN _, next_hi f _⟩
theorem itPrev_in {N : Nat} (hN : 1 ≤ N) (f : Nat → Bool) (c : Int) (k : Nat) : 0 ≤ itF (prevN N f) (k + 1) c ∧ itF (prevN N f) (k + 1) c < N := ⟨prev_lo f _, prev_hi f hN _⟩
theorem itNext_all {N : Nat} (hN : 1 ≤ N) (f : Nat → Bool) (c : Int) (k : Nat) (h : N ≤ k) : itF (nextN N f) k c = (N : Int) - 1 := by
  obtain ⟨j, rfl⟩ : ∃ j, k = j + 1 := ⟨k - 1, by omega⟩
  have h1 := itNext_ge hN f c j
  have h2 := (itNext_in hN f c j).2
  omega
theorem itPrev_all {N : Nat} (hN : 1 ≤ N) (f : Nat → Bool) (c : Int) (k : Nat) (h : N ≤ k) : itF (prevN N f) k c = 0 := by
  obtain ⟨j, rfl⟩ : ∃ j, k = j + 1 := ⟨k - 1, by omega⟩
  have h1 := itPrev_le hN f c j
  have h2 := (itPrev_in hN f c j).1
  omega

/-- As many stops on as n says: so many times Next, or Prev; of 0 the nearest column. -/
def goN (N : Nat) (f : Nat → Bool) (col n : Int) : Int :=
  if n = 0 then nr col N else if 0 < n then itF (nextN N f) n.toNat col else itF (prevN N f) (-n).toNat col

/-- The code's way. -/
theorem goC {N : Nat} (hN : 1 ≤ N) (f : Nat → Bool) (col n : Int) : nr (itF (prevN N f) (-(max n (-(N : Int)))).toNat (itF (nextN N f) (min n N).toNat col)) N = goN N f col n := by
  unfold goN
  by_cases h0 : n = 0
  · subst h0
    rw [if_pos rfl, show (-(max (0 : Int) (-(N : Int)))).toNat = 0 by omega, show (min (0 : Int) N).toNat = 0 by omega]
    rfl
  · rw [if_neg h0]
    by_cases h1 : 0 < n
    · rw [if_pos h1, show (-(max n (-(N : Int)))).toNat = 0 by omega]
      show nr (itF (nextN N f) (min n N).toNat col) N = _
      obtain ⟨j, hj⟩ : ∃ j, (min n N).toNat = j + 1 := ⟨(min n N).toNat - 1, by omega⟩
      have hin := itNext_in hN f col j
      rw [hj, nr_in _ _ hin.1 hin.2, ← hj]
      by_cases h2 : n ≤ N
      · rw [show (min n (N : Int)).toNat = n.toNat by omega]
      · rw [itNext_all hN f col _ (by omega), itNext_all hN f col _ (by omega)]
    · rw [if_neg h1, show (min n (N : Int)).toNat = 0 by omega]
      show nr (itF (prevN N f) (-(max n (-(N : Int)))).toNat col) N = _
      obtain ⟨j, hj⟩ : ∃ j, (-(max n (-(N : Int)))).toNat = j + 1 := ⟨(-(max n (-(N : Int)))).toNat - 1, by omega⟩
      have hin := itPrev_in hN f col j
      rw [hj, nr_in _ _ hin.1 hin.2, ← hj]
      by_cases h2 : -(N : Int) ≤ n
      · rw [show (-(max n (-(N : Int)))).toNat = (-n).toNat by omega]
      · rw [itPrev_all hN f col _ (by omega), itPrev_all hN f col _ (by omega)]
/-- The document's way: of more than 300 no more than 300. -/
theorem goR {N : Nat} (hN : 1 ≤ N) (hN2 : N ≤ 255) (f : Nat → Bool) (col n : Int) (h0 : n ≠ 0) : itF (prevN N f) (min (-n) 300).toNat (itF (nextN N f) (min n 300).toNat col) = goN N f col n := by
  unfold goN
  rw [if_neg h0]
  by_cases h1 : 0 < n
  · rw [if_pos h1, show (min (-n) (300 : Int)).toNat = 0 by omega]
    show itF (nextN N f) (min n 300).toNat col = _
    by_cases h2 : n ≤ 300
    · rw [show (min n (300 : Int)).toNat = n.toNat by omega]
    · rw [itNext_all hN f col _ (by omega), itNext_all hN f col _ (by omega)]
  · rw [if_neg h1, show (min n (300 : Int)).toNat = 0 by omega]
    show itF (prevN N f) (min (-n) 300).toNat col = _
    by_cases h2 : -300 ≤ n
    · rw [show (min (-n) (300 : Int)).toNat = (-n).toNat by omega]
    · rw [itPrev_all hN f col _ (by omega), itPrev_all hN f col _ (by omega)]

/-- All stops, rising. -/
def listN (N : Nat) (f : Nat → Bool) : List Int := ((List.range N).filter f).map (fun i : Nat => (i : Int))
theorem listN_zero (f : Nat → Bool) : listN 0 f = [] := rfl
theorem listN_succ (N : Nat) (f : Nat → Bool) : listN (N + 1) f = listN N f ++ (if f N = true then [(N : Int)] else []) := by
  unfold listN
  rw [List.range_succ, List.filter_append, List.map_append]
  cases h : f N <;> simp [h]
theorem listN_len (N : Nat) (f : Nat → Bool) : (listN N f).length ≤ N := by
  unfold listN
  rw [List.length_map]
  have := List.length_filter_le f (List.range N)
  simpa using this
theorem mem_listN {N : Nat} {f : Nat → Bool} {x : Int} : x ∈ listN N f ↔ ∃ c : Nat, c < N ∧ f c = true ∧ x = (c : Int) := by
  unfold listN
  simp only [List.mem_map, List.mem_filter, List.mem_range]
  constructor
  · rintro ⟨c, ⟨h1, h2⟩, rfl⟩; exact ⟨c, h1, h2, rfl⟩
  · rintro ⟨c, h1, h2, rfl⟩; exact ⟨c, ⟨h1, h2⟩, rfl⟩
theorem listN_rise (N : Nat) (f : Nat → Bool) : (listN N f).Pairwise (· < ·) := by
  unfold listN
  rw [List.pairwise_map]
  have h : (List.range N).Pairwise (· < ·) := List.pairwise_lt_range
  exact (h.filter f).imp (fun h => by omega)
theorem listN_nodup (N : Nat) (f : Nat → Bool) : (listN N f).Nodup := (listN_rise N f).imp (fun h => by omega)
theorem listN_congr {N : Nat} {f g : Nat → Bool} (h : ∀ c, c < N → f c = g c) : listN N f = listN N g := by
  unfold listN
  congr 1
  exact List.filter_congr (fun x hx => h x (List.mem_range.1 hx))
theorem nextN_congr {N : Nat} {f g : Nat → Bool} (h : ∀ c, c < N → f c = g c) (col : Int) : nextN N f col = nextN N g col := by
  unfold nextN
  have : ∀ k, k ≤ N → nextRem N f col k = nextRem N g col k := by
    intro k
    induction k with
    | zero => intro _; rfl
    | succ k ih =>
      intro hk
      rw [nextRem, nextRem, ih (by omega), h (N - (k + 1)) (by omega)]
  exact this N (Nat.le_refl _)
theorem prevN_congr {N : Nat} {f g : Nat → Bool} (h : ∀ c, c < N → f c = g c) (col : Int) : prevN N f col = prevN N g col := by
  unfold prevN
  have : ∀ k, k ≤ N → prevUp f col k = prevUp g col k := by
    intro k
    induction k with
    | zero => intro _; rfl
    | succ k ih =>
      intro hk
      rw [prevUp, prevUp, ih (by omega), h k (by omega)]
  exact this N (Nat.le_refl _)

/-- One column is turned. -/
def upd (f : Nat → Bool) (i : Nat) (x : Bool) : Nat → Bool := fun k => if k = i then x else f k
/-- Columns are stops, or none. -/
def putF (f : Nat → Bool) (on : Bool) (l : List Int) : Nat → Bool := fun c => if (c : Int) ∈ l then on else f c
theorem putF_nil (f : Nat → Bool) (on : Bool) : putF f on [] = f := by funext c; simp [putF]
theorem putF_snoc (f : Nat → Bool) (on : Bool) (l : List Int) (i : Nat) : putF f on (l ++ [(i : Int)]) = upd (putF f on l) i on := by
  funext c
  unfold putF upd
  by_cases h : c = i
  · subst h; simp
  · have h2 : ¬ (c : Int) = (i : Int) := by omega
    simp [h, h2]
/-- Just the multiples of n, but for 0, below m. -/
def mulF (n m : Nat) : Nat → Bool := fun c => decide (0 < c ∧ c % n = 0 ∧ c < m)
theorem mulF_step {n m : Nat} (hn : 0 < n) (hm : 0 < m) (h : m % n = 0) : mulF n (m + n) = upd (mulF n m) m true := by
  funext c
  unfold mulF upd
  by_cases e : c = m
  · subst e; simp [hm, h, hn]
  · rw [if_neg e]
    rw [Bool.eq_iff_iff]
    simp only [decide_eq_true_eq]
    constructor
    · rintro ⟨a, b, c'⟩
      refine ⟨a, b, ?_⟩
      obtain ⟨p, rfl⟩ := Nat.dvd_of_mod_eq_zero b
      obtain ⟨q, rfl⟩ := Nat.dvd_of_mod_eq_zero h
      have h1 : n * p < n * (q + 1) := by rw [Nat.mul_add]; omega
      have h2 : p < q + 1 := Nat.lt_of_mul_lt_mul_left h1
      have h3 : p ≠ q := fun e' => e (by rw [e'])
      exact Nat.mul_lt_mul_of_pos_left (by omega) hn
    · rintro ⟨a, b, c'⟩; exact ⟨a, b, by omega⟩
/-- What Every leaves. -/
def everyF (n : Int) : Nat → Bool := fun c => decide (0 < n) && decide (0 < c) && ((c : Int) % n == 0)
theorem everyF_zero : everyF 0 = fun _ => false := by funext c; simp [everyF]
theorem everyF_mul {n N : Nat} (c : Nat) (hc : c < N) (m : Nat) (hm : N ≤ m) (hn : 0 < n) : mulF n m c = everyF n c := by
  unfold mulF everyF
  rw [Bool.eq_iff_iff]
  simp only [decide_eq_true_eq, Bool.and_eq_true, beq_iff_eq]
  constructor
  · rintro ⟨a, b, _⟩; exact ⟨⟨by omega, a⟩, by omega⟩
  · rintro ⟨⟨_, a⟩, b⟩; exact ⟨a, by omega, by omega⟩
/-- What Resize leaves. -/
def resF (N : Nat) (f : Nat → Bool) : Nat → Bool := fun c => decide (c < N) && f c
end Go.Proofs.Ytkfphgcbpphbnaa
