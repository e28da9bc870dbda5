/-
  What Every and Resize do.
-/
import Derived.Test.YtkfphgcbpphbnaaPut
namespace Go.Proofs.Ytkfphgcbpphbnaa
open Go.RowKit Go.Maps Go.ChangeMaps Go.MapKept

set_option maxHeartbeats 1000000 in
theorem every_bad (t : Nat) (n : Int) (w : World) (hn : n < 0) :
    Calls Try.prog 19 #[.pointer (some ⟨t, 0, none⟩), .int .i64 n] w fun e w' => e = .returned (.int .i64 1) ∧ Kept0 w w' := by
  go_enter Try.func19, Try.ntmps19
  go_wp2_with fail
  go_ret
  exact ⟨rfl, Kept.refl _ _⟩

set_option maxHeartbeats 1000000 in
theorem every_zero (t m N : Nat) (f : Nat → Bool) (w : World) (h : TabsAt w t m N f) :
    Calls Try.prog 19 #[.pointer (some ⟨t, 0, none⟩), .int .i64 0] w fun e w' => e = .returned (.int .i64 0) ∧ TabsAt w' t m N (fun _ => false) ∧ Kept (· = m) w w' := by
  have c1 := h.c1
  obtain ⟨D, hown, hs⟩ := h.set
  go_enter Try.func19, Try.ntmps19
  go_wp2_with (refine wpList_wiped _ rfl _ 54 rfl 3 62 Try.underlying54 _ m N D rfl hown ?_; intro w1 hown1 hturn1)
  have hk1 := turned_kept hturn1
  go_wp2_with fail
  go_ret
  exact ⟨rfl, h.withSet hk1 (SetAt.of hown1 (SetIs.empty N)), hk1⟩

theorem mul_le {M c : Nat} (h0 : 0 < c) (h : c % M = 0) : M ≤ c := Nat.le_of_dvd h0 (Nat.dvd_of_mod_eq_zero h)
theorem mulF_first {M c : Nat} : mulF M M c = false := by
  unfold mulF
  rw [decide_eq_false_iff_not]
  rintro ⟨h1, h2, h3⟩
  have := mul_le h1 h2
  omega

set_option maxHeartbeats 1000000 in
theorem every_pos (t m N : Nat) (f : Nat → Bool) (M : Nat) (w : World) (h : TabsAt w t m N f) (hM : 0 < M) :
    Calls Try.prog 19 #[.pointer (some ⟨t, 0, none⟩), .int .i64 (M : Int)] w fun e w' => e = .returned (.int .i64 0) ∧ TabsAt w' t m N (everyF (M : Int)) ∧ Kept (· = m) w w' := by
  have c1 := h.c1
  have h1 := h.N1
  have h2 := h.N2
  have q0 : decide ((M : Int) < 0) = false := by simp
  have q1 : ((M : Int) == 0) = false := by simp; omega
  obtain ⟨D, hown, hs⟩ := h.set
  go_enter Try.func19, Try.ntmps19
  go_wp2_with (refine wpList_wiped _ rfl _ 54 rfl 3 62 Try.underlying54 _ m N D rfl hown ?_; intro w1 hown1 hturn1)
  have hk1 := turned_kept hturn1
  have hT1 : TabsAt w1 t m N (mulF M M) := h.withSet hk1 ((SetAt.of hown1 (SetIs.empty N)).congr (fun c _ => mulF_first.symm))
  clear hown hs hown1 hturn1 c1
  go_wp2_with fail
  go_loopw [5] (fun i wr => ∃ c : Nat, i = .int .i64 (c : Int) ∧ 0 < c ∧ c % M = 0 ∧ TabsAt wr t m N (mulF M c) ∧ Kept (· = m) w wr) (fun i _ => N - (num i).toNat)
  case atStart => exact ⟨M, rfl, hM, Nat.mod_self M, hT1, hk1⟩
  case round =>
    clear hT1 hk1
    obtain ⟨c, rfl, hc0, hcm, hT, hkr⟩ := hrel
    have c0 := hT.c0
    have c1 := hT.c1
    by_cases hlt : c < N
    · have hle := mul_le hc0 hcm
      obtain ⟨D, hown, hs⟩ := hT.set
      have HC := Lib.hid hcm
      have HD := Lib.hid hs
      have HT := Lib.hid hT
      have HI := Lib.hid hown.isMap
      clear hcm hs hT
      go_wp2_with (at_mapUpdate; refine wpList_mapUpdate_in _ rfl _ _ _ 54 rfl 3 62 law Try.underlying54 _ m N D rfl hown (by unfold maxLen; omega) _ _ _ rfl rfl (key_nat (by omega)) _ [] unitElem_mk ?_; intro w1 hown1 hturn1)
      have hk1 := turned_kept hturn1
      have hS1 : SetAt w1 m N (mulF M (c + M)) := by rw [mulF_step hM hc0 HC.out]; exact SetAt.of hown1 (HD.out.put HI.out hlt _)
      go_wp2_with fail
      go_roundw
      case rel => exact ⟨c + M, by go_num, by omega, by rw [Nat.add_mod_right]; exact HC.out, HT.out.withSet hk1 hS1, hkr.trans hk1⟩
      case measure => simp [num]; omega
    · go_wp2_with fail
      go_ret
      exact ⟨rfl, hT.congr (fun x hx => everyF_mul x hx c (by omega) hM), hkr⟩

/-- While stops are looked at: those that have room, or are still to come, are there. -/
def Sifts (D : DataW Unit) (N M : Nat) (f : Nat → Bool) (left : Lit → Bool) : Prop := ∀ k, Maps.has D k = true ↔ ∃ c : Nat, c < N ∧ f c = true ∧ k = .int .i64 (c : Int) ∧ (c < M ∨ left k = true)
theorem Sifts.start {D : DataW Unit} {N M : Nat} {f : Nat → Bool} (h : SetIs D N f) : Sifts D N M f (Maps.has D) := fun k => by
  constructor
  · intro hk
    obtain ⟨c, h1, h2, h3⟩ := (h k).1 hk
    exact ⟨c, h1, h2, h3, Or.inr hk⟩
  · rintro ⟨c, h1, h2, h3, _⟩
    exact (h k).2 ⟨c, h1, h2, h3⟩
theorem Sifts.stays {D : DataW Unit} {N M c : Nat} {f : Nat → Bool} {left : Lit → Bool} (h : Sifts D N M f left) (hc : c < M) : Sifts D N M f (fun z => left z && !z.sameKey (.int .i64 (c : Int))) := fun k => by
  rw [h]
  constructor
  · rintro ⟨d, h1, h2, h3, h4⟩
    refine ⟨d, h1, h2, h3, ?_⟩
    rcases h4 with h4 | h4
    · exact Or.inl h4
    · by_cases e : d = c
      · subst e; exact Or.inl hc
      · refine Or.inr ?_
        have : ¬ (d : Int) = (c : Int) := by omega
        rw [h3] at h4 ⊢
        simp [h4, Lit.sameKey, this]
  · rintro ⟨d, h1, h2, h3, h4⟩
    refine ⟨d, h1, h2, h3, h4.imp id (fun h => ?_)⟩
    simp only [Bool.and_eq_true] at h
    exact h.1
theorem Sifts.struck {D : DataW Unit} {N M c : Nat} {f : Nat → Bool} {left : Lit → Bool} (h : Sifts D N M f left) (hc : ¬ c < M) : Sifts (D.del (.int .i64 (c : Int))) N M f (fun z => left z && !z.sameKey (.int .i64 (c : Int))) := fun k => by
  by_cases e : k = .int .i64 (c : Int)
  · subst e
    rw [has_del_same]
    simp only [Bool.false_eq_true, false_iff]
    rintro ⟨d, h1, h2, h3, h4⟩
    have := lit_inj h3
    obtain rfl : c = d := by omega
    rcases h4 with h4 | h4
    · exact hc h4
    · simp [Lit.sameKey] at h4
  · rw [has_del_other e, h]
    constructor
    · rintro ⟨d, h1, h2, h3, h4⟩
      refine ⟨d, h1, h2, h3, h4.imp id (fun h => ?_)⟩
      have : ¬ (d : Int) = (c : Int) := fun e' => e (by rw [h3, e'])
      rw [h3] at h ⊢
      simp [h, Lit.sameKey, this]
    · rintro ⟨d, h1, h2, h3, h4⟩
      refine ⟨d, h1, h2, h3, h4.imp id (fun h => ?_)⟩
      simp only [Bool.and_eq_true] at h
      exact h.1
theorem Sifts.done {D : DataW Unit} {N M : Nat} {f : Nat → Bool} {left : Lit → Bool} (h : Sifts D N M f left) (hl : ∀ k, left k = false) : SetIs D M (resF N f) := fun k => by
  rw [h]
  constructor
  · rintro ⟨d, h1, h2, h3, h4⟩
    rcases h4 with h4 | h4
    · exact ⟨d, h4, by simp [resF, h1, h2], h3⟩
    · rw [hl] at h4; cases h4
  · rintro ⟨d, h1, h2, h3⟩
    simp [resF] at h2
    exact ⟨d, h2.1, h2.2, h3, Or.inl h1⟩

set_option maxHeartbeats 1000000 in
theorem resize_bad (t : Nat) (n : Int) (w : World) (hn : ¬ (1 ≤ n ∧ n ≤ 255)) :
    Calls Try.prog 20 #[.pointer (some ⟨t, 0, none⟩), .int .i64 n] w fun e w' => e = .returned (.int .i64 10) ∧ Kept0 w w' := by
  have HB : Hid (decide (1 ≤ n ∧ n ≤ 255) = false) := decide_eq_false hn
  clear hn
  go_enter Try.func20, Try.ntmps20
  go_wp2_with fail
  refine (may_any _ _).mono ?_
  rw [HB.out]
  rintro e w1 ⟨rfl, rfl⟩
  go_wp2_with fail
  go_ret
  exact ⟨rfl, Kept.refl _ _⟩

set_option maxHeartbeats 2000000 in
theorem resize_ok (t m N : Nat) (f : Nat → Bool) (M : Nat) (w : World) (h : TabsAt w t m N f) (hM1 : 1 ≤ M) (hM2 : M ≤ 255) :
    Calls Try.prog 20 #[.pointer (some ⟨t, 0, none⟩), .int .i64 (M : Int)] w fun e w' => e = .returned (.int .i64 0) ∧ TabsAt w' t m M (resF N f) ∧ Kept (fun k => k = t ∨ k = m) w w' := by
  have HB : Hid (decide (1 ≤ (M : Int) ∧ (M : Int) ≤ 255) = true) := decide_eq_true ⟨by omega, by omega⟩
  have c0 := h.c0
  have c1 := h.c1
  have f0 := h.fz 0
  have hne := h.ne
  have hsz := h.lt
  have hN2 := h.N2
  obtain ⟨D, hown, hs⟩ := h.set
  go_enter Try.func20, Try.ntmps20
  go_wp2_with fail
  refine (may_any _ _).mono ?_
  rw [HB.out]
  rintro e w1 ⟨rfl, rfl⟩
  have hk1 : Kept (· = t) w (w.setCell ⟨t, 0, none⟩ (.int .i64 (M : Int))) := Kept.set1 w t 0 _
  have hh1 : (w.setCell ⟨t, 0, none⟩ (.int .i64 (M : Int))).heap[t]? = some (.cells #[.int .i64 (M : Int), .map (some m)] 56 (0, 0)) := by
    simp [World.setCell, Array.getElem?_modify, h.head]
  have hown1 := owns_kept hown hk1 (fun e => hne e.symm)
  go_wp2_with (at_range; refine wpList_range_own _ rfl _ 54 rfl 3 62 law Try.underlying54 _ m N D rfl hown1 ?_; intro w0 hrg0 hg0 hs0)
  have hh0 : w0.heap[t]? = some (.cells #[.int .i64 (M : Int), .map (some m)] 56 (0, 0)) := (hg0.block t (by simpa [World.setCell] using hsz) (by simp)).trans hh1
  have hk0 : Kept (fun k => k = t ∨ k = m) w w0 := (hk1.mono (fun _ _ e => Or.inl e)).later (Kept.ofGrown hg0) (fun i hi e => by cases e)
  have hsz1 : (w.setCell ⟨t, 0, none⟩ (.int .i64 (M : Int))).heap.size = w.heap.size := by simp [World.setCell]
  rw [hsz1] at hrg0 hs0
  clear hown1 hk1 hh1 hg0
  go_frame
  try rw [hsz1]
  clear hsz1 c0 c1 f0
  go_loopw [5] (fun _ wr => ∃ left cnt D, wr.ranges Try.prog 3 uE m w.heap.size N D left cnt ∧ Sifts D N M f left ∧ wr.heap[t]? = some (.cells #[.int .i64 (M : Int), .map (some m)] 56 (0, 0)) ∧ Kept (fun k => k = t ∨ k = m) w wr) (fun _ wr => wr.rangeLeft m w.heap.size)
  case atStart => exact ⟨_, _, D, hrg0, Sifts.start hs, hh0, hk0⟩
  case round =>
    clear hrg0 hs0 hh0 hk0 hown hs
    obtain ⟨left, cnt, D, hrg, hS, hh, hkr⟩ := hrel
    have HS := Lib.hid hS
    have HH := Lib.hid hh
    have c1 : wr.cell? ⟨t, 1, none⟩ = some (.map (some m)) := by simp [World.cell?, hh]
    have htl : t < wr.heap.size := (Array.getElem?_eq_some_iff.1 hh).1
    clear hS hh
    go_wp2_with (at_next; refine wpList_next_ranges _ rfl _ rfl 3 law uE encZ (fun _ : Unit => .agg #[]) (fun key kl hk => by obtain ⟨x, hx, _⟩ := Maps.keyOf_i64 Try.underlying3 hk; exact ⟨x, hx⟩) (fun v y hv => ⟨(), (unitElem_inv hv).1⟩) m w.heap.size N _ _ _ rfl hrg ?_ ?_)
    · intro hc0 hl0
      go_wp2_with fail
      go_ret
      exact ⟨rfl, ⟨HH.out, SetAt.of hrg.owns (HS.out.done hl0), hM1, hM2⟩, hkr⟩
    · intro x c kl y w2 cnt2 hkey hlk hv hat hrg2 hlt hg2 hs2 hen
      obtain ⟨x', ex, rfl, _⟩ := Maps.keyOf_i64 Try.underlying3 hkey
      obtain rfl : x = x' := encZ_inj ex
      obtain ⟨d, hd1, hd2, hd3, _⟩ := (HS.out _).1 (has_true_of_atKey hat)
      obtain rfl := lit_inj hd3
      have hrt : t < w.heap.size := hsz
      have c2 : w2.cell? ⟨t, 1, none⟩ = some (.map (some m)) := (World.cell?_of_block (w := wr) (hg2.block t htl (fun e => by cases e; omega))).trans c1
      have hh2 : w2.heap[t]? = some (.cells #[.int .i64 (M : Int), .map (some m)] 56 (0, 0)) := (hg2.block t htl (fun e => by cases e; omega)).trans HH.out
      have hk2 : Kept (fun k => k = t ∨ k = m) w w2 := hkr.later (Kept.ofGrown hg2) (fun i hi e => by cases e; omega)
      have HH2 := Lib.hid hh2
      have HL : Hid (w2.rangeLeft m w.heap.size < wr.rangeLeft m w.heap.size) := by rw [hrg2.left_eq, hrg.left_eq]; exact hlt
      have HM := Lib.hid hrg.left_eq
      simp only [encZ] at hen
      clear hkey hlk hv hat ex hd3 hh2 hg2 hs2 c1
      by_cases hdm : d < M
      · have HR := Lib.hid hrg2
        have HS2 := Lib.hid (HS.out.stays hdm)
        go_wp2_with fail
        go_roundw
        case rel => exact ⟨_, cnt2, D, HR.out, HS2.out, HH2.out, hk2⟩
        case measure => exact HL.out
      · have HS2 := Lib.hid (HS.out.struck hdm)
        go_wp2_with (at_delete; refine wpList_delete_ranges _ rfl _ _ 54 3 rfl 62 law Try.underlying54 _ m w.heap.size N D _ cnt2 rfl hrg2 _ _ rfl (key_nat (by omega)) ?_; intro w3 cnt3 hrg3 hle hturn; go_frame)
        rw [strike_twice] at hrg3
        have hk3 := turned_kept hturn
        go_wp2_with fail
        go_roundw
        case rel => exact ⟨_, cnt3, _, hrg3, HS2.out, (hk3.block t (by have := hk2.size; omega) hne).trans HH2.out, hk2.trans (hk3.mono (fun _ _ e => Or.inr e))⟩
        case measure => rw [hrg3.left_eq, HM.out]; omega
end Go.Proofs.Ytkfphgcbpphbnaa
