/-
  A text in two parts, in plain numbers and cells; the cells of a text as a slice, and as parts of it.
-/
import Derived.Test.YtkdnjkcebfckiaaText
import Derived.Test.YtkdnjkcebfckiaaAwake
namespace Go.Proofs.Ytkdnjkcebfckiaa
open Go.RowKit

/-- The same, d lines more having gone up. -/
def Cur.more (s : Cur) (d : Int) : Cur := ⟨s.r, s.c, s.b, s.n + d, s.f⟩
theorem putsN_more (R C : Nat) (k : Int) (bl : Cel) (h : Nat → Cel) (o : Nat) (s : Cur) (d : Int) : ∀ m : Nat, putsN R C k bl h o m (s.more d) = (putsN R C k bl h o m s).more d
  | 0 => rfl
  | m + 1 => by
    simp only [putsN]
    rw [putsN_more R C k bl h o s d m]
    simp only [Cur.put, Cur.more, Cur.mk.injEq, true_and]
    exact ⟨by omega, trivial⟩

/-- At once, and in two parts: what the second part comes to is what the whole does, but for the lines. -/
theorem puts_two (R C : Nat) (k : Int) (bl : Cel) (h : Nat → Cel) (q n : Nat) (hq : q ≤ n) (r c : Int) (b : Bool) (f : Nat → Cel) (S1 S2 S3 : Cur)
    (h1 : S1 = putsN R C k bl h 0 n ⟨r, c, b, 0, f⟩) (h2 : S2 = putsN R C k bl h 0 q ⟨r, c, b, 0, f⟩) (h3 : S3 = putsN R C k bl h q (n - q) ⟨S2.r, S2.c, S2.b, 0, S2.f⟩) :
    S1.r = S3.r ∧ S1.c = S3.c ∧ S1.b = S3.b ∧ S1.f = S3.f ∧ S1.n = S2.n + S3.n := by
  have e1 : S1 = putsN R C k bl h q (n - q) S2 := by
    rw [h1, h2]
    have := putsN_add R C k bl h 0 q ⟨r, c, b, 0, f⟩ (n - q)
    rw [show q + (n - q) = n by omega, Nat.zero_add] at this
    exact this
  have e2 : S2 = (Cur.mk S2.r S2.c S2.b 0 S2.f).more S2.n := by simp [Cur.more]
  have e3 : S1 = S3.more S2.n := by
    rw [e1, h3, ← putsN_more, ← e2]
  rw [e3]
  simp only [Cur.more, true_and]
  omega

theorem clamp_up {R C : Nat} {c r : Int} : bU R C r c 1 = false := by
  unfold bU
  split <;> simp
theorem clamp_pend {C : Nat} {c : Int} : bP C c 1 = false := by
  unfold bP
  split <;> simp
/-- Of Clamp, where nothing is pending, no line goes up. -/
theorem puts_clamp (R C : Nat) (bl : Cel) (h : Nat → Cel) (o : Nat) (r c : Int) (f : Nat → Cel) : ∀ m : Nat, (putsN R C 1 bl h o m ⟨r, c, false, 0, f⟩).b = false ∧ (putsN R C 1 bl h o m ⟨r, c, false, 0, f⟩).n = 0
  | 0 => ⟨rfl, rfl⟩
  | m + 1 => by
    obtain ⟨h1, h2⟩ := puts_clamp R C bl h o r c f m
    simp only [putsN, Cur.put]
    rw [h1, h2]
    refine ⟨by unfold putP; exact clamp_pend, ?_⟩
    unfold putN
    rw [clamp_up]
    simp [aU, liftN]

theorem cells_of_owned0 {w : World} {base n b0 : Nat} {v : Value} {f : Nat → Cel} (h : w.ownsRow base 36 4 v n (parts f 0 n)) (hb : CellsAt w b0 0 f) :
    ∃ a cp tc, v = .slice a n cp ∧ n ≤ cp ∧ (n = 0 ∧ a = none ∧ cp = 0 ∨ a = some ⟨tc, 0, none⟩) ∧ (base ≤ tc ∨ tc = b0) ∧ CellsAt w tc n f := by
  obtain ⟨_, ⟨h0, h1⟩ | ⟨g, cap, cur, hv, hb, hh, hc, _, hs, ht⟩⟩ := h
  · subst h1
    subst h0
    exact ⟨none, 0, b0, rfl, Nat.le_refl _, .inl ⟨rfl, rfl, rfl⟩, .inr rfl, hb⟩
  · refine ⟨some ⟨g, 0, none⟩, cap, g, hv, hc, .inr rfl, .inl hb, CellsAt.of_parts hh fun j hj => ?_⟩
    have hp := parts_get f 0 n j hj
    rw [← ht] at hp
    rw [List.getElem?_take_of_lt (by omega)] at hp
    simpa using hp

theorem slice_to (a : Option Addr) (n cp q tc : Nat) (hq : q ≤ n) (hn : n ≤ cp) (ha : n = 0 ∧ a = none ∧ cp = 0 ∨ a = some ⟨tc, 0, none⟩) (W : World) :
    (Instr.slice 64 (.slice a n cp) none (some (.int .i64 (q : Int))) none).run Try.prog W = .ok (.slice a q cp) W := by
  have ht' : Try.prog.underlying 64 = some (.slice (Try.prog.elem 64)) := by simp [Program.elem, Try.underlying64]
  have he : Try.prog.elem 64 = 36 := by simp [Program.elem, Try.underlying64]
  obtain ⟨i0, hi0, hz0, hz1, hz2⟩ := info_parts Try.info36
  rw [run_slice_h W 64 _ _ _ ht' .i64 _ (by omega) (by omega), he]
  rcases ha with ⟨_, rfl, rfl⟩ | rfl
  · simp [go_sem, sliced]
  · simp [go_sem, sliced, Addr.add]
theorem slice_from (a : Option Addr) (n cp q tc : Nat) (hq : q ≤ n) (hn : n ≤ cp) (ha : n = 0 ∧ a = none ∧ cp = 0 ∨ a = some ⟨tc, 0, none⟩) :
    ∃ a', (∀ W, (Instr.slice 64 (.slice a n cp) (some (.int .i64 (q : Int))) none none).run Try.prog W = .ok (.slice a' (n - q) (cp - q)) W) ∧ (n - q = 0 ∨ a' = some ⟨tc, q * 4, none⟩) := by
  have ht' : Try.prog.underlying 64 = some (.slice (Try.prog.elem 64)) := by simp [Program.elem, Try.underlying64]
  have he : Try.prog.elem 64 = 36 := by simp [Program.elem, Try.underlying64]
  refine ⟨if cp = q then a else a.map (·.add (q * 4)), fun W => ?_, ?_⟩
  · rw [run_slice_l W 64 _ _ _ ht' .i64 _ (by omega) (by omega), he]
    simp [go_sem, sliced]
  · by_cases h0 : n - q = 0
    · exact .inl h0
    · refine .inr ?_
      rcases ha with ⟨h1, _, _⟩ | rfl
      · omega
      · rw [if_neg (by omega)]
        simp [addr_add]

end Go.Proofs.Ytkdnjkcebfckiaa
