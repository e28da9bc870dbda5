/-
  What does does: Every, Resize, and Next, Prev and Go.
-/
import Derived.Test.YtkfphgcbpphbnaaDoes
namespace Go.Proofs.Ytkfphgcbpphbnaa
open Go.RowKit Go.Maps Go.ChangeMaps Go.MapKept

set_option maxRecDepth 100000 in
set_option maxHeartbeats 4000000 in
theorem does_every (w : World) (t m r b N : Nat) (f : Nat → Bool) (o : OpV) (hT : TabsAt w t m N f) (hR : RefAt w r b N f) (hask : o.ask = 2) :
    Calls Try.prog 12 #[.pointer (some ⟨t, 0, none⟩), .pointer (some ⟨r, 0, none⟩), .agg #[.int .i64 o.ask, .int .i64 o.n, .int .i64 o.m, .slice o.la o.l.length o.lcap]] w (DoesPost w t m r b) := by
  obtain ⟨n1, n2, n3, n4⟩ := apart hT hR
  have htl := hT.lt
  have hml := hT.set.lt
  have hrl := hR.lt
  have hbl := hR.ltb
  have d0 : (o.ask == 0) = false := by rw [hask]; rfl
  have d1 : (o.ask == 1) = false := by rw [hask]; rfl
  have d2 : (o.ask == 2) = true := by rw [hask]; rfl
  clear hask
  go_enter Try.func12, Try.ntmps12
  go_wp2_with fail
  obtain ⟨w1, hw1⟩ : ∃ w1, w1 = w.alloc (.cells #[.int .i64 o.ask, .int .i64 o.n, .int .i64 o.m, .slice o.la o.l.length o.lcap] 35) := ⟨_, rfl⟩
  have hO : OpAt w1 w.heap.size 0 o := by rw [hw1]; exact one_op (heap_new _ _)
  have hk1 : Kept0 w w1 := by rw [hw1]; exact (Kept.refl _ w).alloc _
  have hs1 : w.heap.size < w1.heap.size := by rw [hw1]; simp
  rw [← hw1]
  clear hw1
  have HT1 := Lib.hid (hT.kept0 hk1)
  have HR1 := Lib.hid (hR.kept0 hk1)
  have a1 := hO.n
  simp only [Nat.zero_add] at a1
  have hne : ¬ (w.heap.size = m ∨ w.heap.size = b) := by omega
  go_region_held3 (fun w' => Kept (fun k => k = m ∨ k = b) w1 w' ∧ w'.cell? ⟨w.heap.size, 1, none⟩ = some (.int .i64 o.n))
    (first | exact ⟨(Kept.refl _ w1).drew, a1⟩ | exact ⟨kx, (kx.cell hs1 hne).trans a1⟩)
    (first
      | (go_at_call 19; refine (every_u t m N f _ _ (HT1.out.kept0 (Kept.refl _ w1).drew)).mono ?_; rintro e w5 ⟨rfl, hT5, hk5⟩; have kx : Kept (fun k => k = m ∨ k = b) w1 w5 := (Kept.refl _ w1).drew.later hk5 (fun _ _ e => Or.inl e))
      | (go_at_call 26; refine (refEvery_u r b N f _ _ (HR1.out.kept ((Kept.refl (fun k => k = m) w1).drew.trans hk5) (fun e => n3 e.symm) (fun e => n4 e.symm))).mono ?_; rintro e w6 ⟨rfl, hR6, hk6⟩; have kx : Kept (fun k => k = m ∨ k = b) w1 w6 := kx.later hk6 (fun _ _ e => Or.inr e)))
  go_wp2_with fail
  go_ret2
  have kw : Kept (fun k => k = m ∨ k = b) w w6 := (Kept0.to hk1).trans kx
  exact ⟨r, b, N, _, rfl, hT5.kept hk6 n2 n4, hR6, kw.mono (fun _ _ e => Or.inr e), Or.inl rfl, Or.inl rfl⟩

set_option maxRecDepth 100000 in
set_option maxHeartbeats 4000000 in
theorem does_resize (w : World) (t m r b N : Nat) (f : Nat → Bool) (o : OpV) (hT : TabsAt w t m N f) (hR : RefAt w r b N f) (hask : o.ask = 3) :
    Calls Try.prog 12 #[.pointer (some ⟨t, 0, none⟩), .pointer (some ⟨r, 0, none⟩), .agg #[.int .i64 o.ask, .int .i64 o.n, .int .i64 o.m, .slice o.la o.l.length o.lcap]] w (DoesPost w t m r b) := by
  obtain ⟨n1, n2, n3, n4⟩ := apart hT hR
  have htl := hT.lt
  have hml := hT.set.lt
  have hrl := hR.lt
  have hbl := hR.ltb
  have d0 : (o.ask == 0) = false := by rw [hask]; rfl
  have d1 : (o.ask == 1) = false := by rw [hask]; rfl
  have d2 : (o.ask == 2) = false := by rw [hask]; rfl
  have d3 : (o.ask == 3) = true := by rw [hask]; rfl
  clear hask
  go_enter Try.func12, Try.ntmps12
  go_wp2_with fail
  obtain ⟨w1, hw1⟩ : ∃ w1, w1 = w.alloc (.cells #[.int .i64 o.ask, .int .i64 o.n, .int .i64 o.m, .slice o.la o.l.length o.lcap] 35) := ⟨_, rfl⟩
  have hO : OpAt w1 w.heap.size 0 o := by rw [hw1]; exact one_op (heap_new _ _)
  have hk1 : Kept0 w w1 := by rw [hw1]; exact (Kept.refl _ w).alloc _
  have hs1 : w.heap.size < w1.heap.size := by rw [hw1]; simp
  rw [← hw1]
  clear hw1
  have hT1 := hT.kept0 hk1
  have hR1 := hR.kept0 hk1
  have a1 := hO.n
  simp only [Nat.zero_add] at a1
  by_cases hn : 1 ≤ o.n ∧ o.n ≤ 255
  · obtain ⟨M, hM⟩ := Int.eq_ofNat_of_zero_le (show 0 ≤ o.n by omega)
    have HM1 : Hid (1 ≤ M) := by show 1 ≤ M; omega
    have HM2 : Hid (M ≤ 255) := by show M ≤ 255; omega
    rw [hM] at a1 hn ⊢
    clear hM
    refine (resize_ok t m N f M _ hT1 HM1.out HM2.out).mono ?_
    rintro e w5 ⟨rfl, hT5, hk5⟩
    have hs5 := hk5.size
    have b1 : w5.cell? ⟨w.heap.size, 1, none⟩ = some (.int .i64 (M : Int)) := (hk5.cell hs1 (by omega)).trans a1
    have hR5 := hR1.kept hk5 (by omega) (by omega)
    obtain ⟨hn1, hn2⟩ := hn
    have q1 : ¬ (M : Int) < 1 := by omega
    have q2 : ¬ 255 < (M : Int) := by omega
    clear hn1 hn2
    go_wp2_with fail
    refine (refResize_any r b N f M _ hR5 HM1.out HM2.out).mono ?_
    rintro e w6 ⟨r', b', rfl, hr', hb', hR6, hk6⟩
    go_wp2_with fail
    go_ret2
    have kw : Kept (fun k => k = t ∨ k = m ∨ k = b) w w6 := ((Kept0.to hk1).trans (hk5.mono (fun _ _ e => e.elim Or.inl (fun e => Or.inr (Or.inl e))))).trans (Kept0.to hk6)
    exact ⟨r', b', M, _, rfl, hT5.kept0 hk6, hR6, kw, Or.inr (by omega), Or.inr (by omega)⟩
  · refine (resize_bad t _ _ hn).mono ?_
    rintro e w5 ⟨rfl, hk5⟩
    have b1 := kcell hk5 a1
    have hor : o.n < 1 ∨ (¬ o.n < 1 ∧ 255 < o.n) := by omega
    clear hn
    rcases hor with q1 | ⟨q1, q2⟩
    all_goals
      go_wp2_with fail
      go_ret2
      exact ⟨r, b, N, f, rfl, hT1.kept0 hk5, hR1.kept0 hk5, Kept0.to (hk1.trans hk5), Or.inl rfl, Or.inl rfl⟩

set_option maxRecDepth 100000 in
set_option maxHeartbeats 8000000 in
theorem does_asks (w : World) (t m r b N : Nat) (f : Nat → Bool) (o : OpV) (hT : TabsAt w t m N f) (hR : RefAt w r b N f) (hok : o.Ok) (d0 : (o.ask == 0) = false) (d1 : (o.ask == 1) = false) (d2 : (o.ask == 2) = false) (d3 : (o.ask == 3) = false) :
    Calls Try.prog 12 #[.pointer (some ⟨t, 0, none⟩), .pointer (some ⟨r, 0, none⟩), .agg #[.int .i64 o.ask, .int .i64 o.n, .int .i64 o.m, .slice o.la o.l.length o.lcap]] w (DoesPost w t m r b) := by
  have HM := Lib.hid hok.m
  clear hok
  go_enter Try.func12, Try.ntmps12
  go_wp2_with fail
  obtain ⟨w1, hw1⟩ : ∃ w1, w1 = w.alloc (.cells #[.int .i64 o.ask, .int .i64 o.n, .int .i64 o.m, .slice o.la o.l.length o.lcap] 35) := ⟨_, rfl⟩
  have hO : OpAt w1 w.heap.size 0 o := by rw [hw1]; exact one_op (heap_new _ _)
  have hk1 : Kept0 w w1 := by rw [hw1]; exact (Kept.refl _ w).alloc _
  rw [← hw1]
  clear hw1
  have HT1 := Lib.hid (hT.kept0 hk1)
  have HR1 := Lib.hid (hR.kept0 hk1)
  have a1 := hO.n
  have a2 := hO.m
  simp only [Nat.zero_add] at a1 a2
  go_region_held3 (fun w' => Kept0 w1 w' ∧ w'.cell? ⟨w.heap.size, 1, none⟩ = some (.int .i64 o.n) ∧ w'.cell? ⟨w.heap.size, 2, none⟩ = some (.int .i64 o.m))
    (first | exact ⟨(Kept.refl _ w1).drew, a1, a2⟩ | exact ⟨kx, kcell kx a1, kcell kx a2⟩)
    (first
      | (go_at_call 21; refine (next_any t m N f _ _ (HT1.out.kept0 (Kept.refl _ w1).drew)).mono ?_; rintro e w5 ⟨rfl, hk5⟩; have kx : Kept0 w1 w5 := (Kept.refl _ w1).drew.trans hk5)
      | (go_at_call 28; refine (refNext_any r b N f _ _ (HR1.out.kept0 kx)).mono ?_; rintro e w6 ⟨rfl, rfl⟩)
      | (go_at_call 22; refine (prev_any t m N f _ _ (HT1.out.kept0 kx)).mono ?_; rintro e w7 ⟨rfl, hk7⟩; have kx : Kept0 w1 w7 := kx.trans hk7)
      | (go_at_call 29; refine (refPrev_any r b N f _ _ (HR1.out.kept0 kx)).mono ?_; rintro e w8 ⟨rfl, rfl⟩)
      | (go_at_call 23; refine (go_any t m N f _ _ _ (HT1.out.kept0 kx) HM.out).mono ?_; rintro e w9 ⟨rfl, hk9⟩; have kx : Kept0 w1 w9 := kx.trans hk9)
      | (go_at_call 30; refine (refGo_any r b N f _ _ _ (HR1.out.kept0 kx)).mono ?_; rintro e w10 ⟨rfl, rfl⟩))
  go_wp2_with fail
  go_ret2
  exact ⟨r, b, N, f, rfl, HT1.out.kept0 kx, HR1.out.kept0 kx, Kept0.to (hk1.trans kx), Or.inl rfl, Or.inl rfl⟩

theorem does_any (w : World) (t m r b N : Nat) (f : Nat → Bool) (o : OpV) (hT : TabsAt w t m N f) (hR : RefAt w r b N f) (hl : IntsIn w o.la o.l) (hok : o.Ok) (hab : ∀ (k : Nat) (x : Int), o.l[k]? = some x → ∀ bl off, o.la = some ⟨bl, off, none⟩ → bl ≠ b) :
    Calls Try.prog 12 #[.pointer (some ⟨t, 0, none⟩), .pointer (some ⟨r, 0, none⟩), .agg #[.int .i64 o.ask, .int .i64 o.n, .int .i64 o.m, .slice o.la o.l.length o.lcap]] w (DoesPost w t m r b) := by
  by_cases h0 : o.ask = 0
  · exact does_put w t m r b N f o hT hR hl hok hab (Or.inl h0)
  · by_cases h1 : o.ask = 1
    · exact does_put w t m r b N f o hT hR hl hok hab (Or.inr h1)
    · by_cases h2 : o.ask = 2
      · exact does_every w t m r b N f o hT hR h2
      · by_cases h3 : o.ask = 3
        · exact does_resize w t m r b N f o hT hR h3
        · exact does_asks w t m r b N f o hT hR hok (by simpa using h0) (by simpa using h1) (by simpa using h2) (by simpa using h3)

/-- Tabs and the document's answer's, with the same stops, all made later than B. -/
def NewPair (B : Nat) (w : World) (t m r : Nat) : Prop := ∃ b N f, TabsAt w t m N f ∧ RefAt w r b N f ∧ B ≤ t ∧ B ≤ m ∧ B ≤ r ∧ B ≤ b
theorem NewPair.kept0 {B : Nat} {w w' : World} {t m r : Nat} (h : NewPair B w t m r) (k : Kept0 w w') : NewPair B w' t m r := by
  obtain ⟨b, N, f, h1, h2, h3⟩ := h
  exact ⟨b, N, f, h1.kept0 k, h2.kept0 k, h3⟩
/-- A call that was handed in, with both. -/
theorem does_new (w0 w : World) (t m r : Nat) (o : OpV) (h : NewPair w0.heap.size w t m r) (hk : Kept0 w0 w) (hl : IntsIn w0 o.la o.l) (hok : o.Ok) :
    Calls Try.prog 12 #[.pointer (some ⟨t, 0, none⟩), .pointer (some ⟨r, 0, none⟩), .agg #[.int .i64 o.ask, .int .i64 o.n, .int .i64 o.m, .slice o.la o.l.length o.lcap]] w
      fun e w' => ∃ r', e = .returned (.tuple #[.pointer (some ⟨r', 0, none⟩), .bool true]) ∧ NewPair w0.heap.size w' t m r' ∧ Kept0 w0 w' := by
  obtain ⟨b, N, f, hT, hR, q1, q2, q3, q4⟩ := h
  have hsz := hk.size
  refine (does_any w t m r b N f o hT hR (hl.kept0 hk) hok (fun k x hx bl off ha => ?_)).mono ?_
  · obtain ⟨b', off', ha', hc⟩ := hl k x hx
    rw [ha] at ha'
    cases ha'
    have := World.block_lt_of_cell? w0 _ hc
    simp at this
    omega
  · rintro e w' ⟨r', b', N', f', rfl, hT', hR', hk', e1, e2⟩
    exact ⟨r', rfl, ⟨b', N', f', hT', hR', q1, q2, by omega, by omega⟩, hk.later hk' (fun i hi e => by omega)⟩
end Go.Proofs.Ytkfphgcbpphbnaa
