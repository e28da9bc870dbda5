/-
  What does does: Resize and At; all calls.
-/
import Derived.Test.YtekjjnfbahmjcaaDoesA
namespace Go.Proofs.Ytekjjnfbahmjcaa
open Go.RowKit

theorem resizeR_int (g t cap R C : Nat) (f : Nat → Int) (r c x : Int) (w : World) (hg : RefAt w g t cap R C f) (h : 1 ≤ r ∧ r ≤ 255 ∧ 1 ≤ c ∧ c ≤ 255) :
    Calls Try.prog 39 #[.pointer (some ⟨g, 0, none⟩), .int .i64 r, .int .i64 c, .int .i64 x] w fun e w' =>
      ∃ g' t' cap', e = .returned (.pointer (some ⟨g', 0, none⟩)) ∧ w.heap.size ≤ g' ∧ w.heap.size ≤ t' ∧ RefAt w' g' t' cap' r.toNat c.toNat (resF f R C c.toNat x (R * C)) ∧ Kept0 w w' := by
  have := resizeR g t cap R C r.toNat c.toNat f x w hg (by omega) (by omega) (by omega) (by omega)
  rwa [Int.toNat_of_nonneg (by omega), Int.toNat_of_nonneg (by omega)] at this

set_option maxRecDepth 100000 in
set_option maxHeartbeats 4000000 in
theorem does4 (w : World) (g tg r tr R C : Nat) (f : Nat → Int) (o : OpV) (hp : Pair w g tg r tr R C f) (hask : o.ask = 4) :
    Calls Try.prog 17 #[.pointer (some ⟨g, 0, none⟩), .pointer (some ⟨r, 0, none⟩), .agg #[.int .i64 o.ask, .int .i64 o.ar, .int .i64 o.ac, .int .i64 o.br, .int .i64 o.bc, .int .i64 o.n, .int .i64 o.x]] w (DoesPost w g tg r tr) := by
  obtain ⟨⟨capg, hG⟩, ⟨capr, hR⟩, n1, n2, n3, n4⟩ := hp
  have d0 : (o.ask == 0) = false := by rw [hask]; rfl
  have d1 : (o.ask == 1) = false := by rw [hask]; rfl
  have d2 : (o.ask == 2) = false := by rw [hask]; rfl
  have d3 : (o.ask == 3) = false := by rw [hask]; rfl
  have d4 : (o.ask == 4) = true := by rw [hask]; rfl
  clear hask
  have hgl := hG.lt
  have hrl := hR.lt
  have htgl := hG.row.lt
  have htrl := hR.row.lt
  by_cases hmay : 1 ≤ o.br ∧ o.br ≤ 255 ∧ 1 ≤ o.bc ∧ o.bc ≤ 255
  · have HM := Lib.hid hmay
    have HB : Hid (decide (1 ≤ o.br ∧ o.br ≤ 255 ∧ 1 ≤ o.bc ∧ o.bc ≤ 255) = true) := decide_eq_true hmay
    clear hmay
    go_enter Try.func17, Try.ntmps17
    go_wp2_with fail
    obtain ⟨w1, hw1⟩ : ∃ w1, w1 = w.alloc (.cells #[.int .i64 o.ask, .int .i64 o.ar, .int .i64 o.ac, .int .i64 o.br, .int .i64 o.bc, .int .i64 o.n, .int .i64 o.x] 41) := ⟨_, rfl⟩
    have hO : OpAt w1 w.heap.size 0 o := by rw [hw1]; constructor <;> simp [go_sem]
    have hk1 : Kept0 w w1 := by rw [hw1]; exact (Kept.refl _ w).alloc _
    have hs1 : w.heap.size < w1.heap.size := by rw [hw1]; simp
    rw [← hw1]
    clear hw1
    have hG1 := hG.kept hk1 (fun e => e) (fun e => e)
    have hR1 := hR.kept hk1 (fun e => e) (fun e => e)
    have a3 := hO.br
    have a4 := hO.bc
    have a6 := hO.x
    simp only [Nat.zero_add] at a3 a4 a6
    go_region_held3 (fun w' => Kept (fun k => k = g) w1 w' ∧ w'.cell? ⟨w.heap.size, 3, none⟩ = some (.int .i64 o.br) ∧ w'.cell? ⟨w.heap.size, 4, none⟩ = some (.int .i64 o.bc) ∧ w'.cell? ⟨w.heap.size, 6, none⟩ = some (.int .i64 o.x))
      (first | exact ⟨(Kept.refl _ w1).drew, a3, a4, a6⟩ | exact ⟨kx, (kx.cell hs1 hne).trans a3, (kx.cell hs1 hne).trans a4, (kx.cell hs1 hne).trans a6⟩)
      (first
        | (go_at_call 32; refine (sizeOf_any _ _ _).mono ?_; rintro e w5 ⟨rfl, hk5⟩; have kx : Kept (fun k => k = g) w1 w5 := (Kept.refl _ w1).drew.later hk5 (fun _ _ e => e.elim); have hne : ¬ (w.heap.size = g) := by omega)
        | (go_at_call 28; refine (resize_yes g tg capg R C f _ _ _ _ (hG1.kept ((Kept.refl (fun _ => False) w1).drew.trans hk5) (fun e => e) (fun e => e)) HM.out).mono ?_; rintro e w6 ⟨t', rfl, ht6, hG6, hk6⟩; have kx : Kept (fun k => k = g) w1 w6 := kx.trans hk6))
    have a3' := (kx.cell hs1 hne).trans a3
    have a4' := (kx.cell hs1 hne).trans a4
    have a6' := (kx.cell hs1 hne).trans a6
    have hR6 := hR1.kept kx (fun e => n1 e.symm) (fun e => n2 e.symm)
    go_wp2_with fail
    refine (mayR_any _ _ _).mono ?_
    rw [HB.out]
    rintro e w7 ⟨rfl, rfl⟩
    go_wp2_with fail
    refine (resizeR_int r tr capr R C f _ _ _ _ hR6 HM.out).mono ?_
    rintro e w8 ⟨r', tr', capr', rfl, hr8, htr8, hR8, hk8⟩
    go_wp2_with fail
    go_ret2
    have kw : Kept (fun k => k = g) w w8 := ((Kept0.to hk1).trans kx).later hk8 (fun _ _ e => e.elim)
    have hs5 : w1.heap.size ≤ w5.heap.size := hk5.size
    have hl6 := hG6.row.lt
    have hgl6 := hG6.lt
    exact ⟨r', t', tr', _, _, _, rfl, ⟨⟨_, hG6.kept hk8 (fun e => e) (fun e => e)⟩, ⟨_, hR8⟩, by omega, by omega, by omega, by omega⟩, kw.mono (fun _ _ e => Or.inl e), Or.inr (by omega), Or.inr (by have := kx.size; omega), Or.inr (by have := kx.size; omega)⟩
  · have HM := Lib.hid hmay
    have HB : Hid (decide (1 ≤ o.br ∧ o.br ≤ 255 ∧ 1 ≤ o.bc ∧ o.bc ≤ 255) = false) := decide_eq_false hmay
    clear hmay
    go_enter Try.func17, Try.ntmps17
    go_wp2_with fail
    obtain ⟨w1, hw1⟩ : ∃ w1, w1 = w.alloc (.cells #[.int .i64 o.ask, .int .i64 o.ar, .int .i64 o.ac, .int .i64 o.br, .int .i64 o.bc, .int .i64 o.n, .int .i64 o.x] 41) := ⟨_, rfl⟩
    have hO : OpAt w1 w.heap.size 0 o := by rw [hw1]; constructor <;> simp [go_sem]
    have hk1 : Kept0 w w1 := by rw [hw1]; exact (Kept.refl _ w).alloc _
    have hs1 : w.heap.size < w1.heap.size := by rw [hw1]; simp
    rw [← hw1]
    clear hw1
    have a3 := hO.br
    have a4 := hO.bc
    have a6 := hO.x
    simp only [Nat.zero_add] at a3 a4 a6
    go_region_held3 (fun w' => Kept0 w1 w' ∧ w'.cell? ⟨w.heap.size, 3, none⟩ = some (.int .i64 o.br) ∧ w'.cell? ⟨w.heap.size, 4, none⟩ = some (.int .i64 o.bc) ∧ w'.cell? ⟨w.heap.size, 6, none⟩ = some (.int .i64 o.x))
      (first | exact ⟨(Kept.refl _ w1).drew, a3, a4, a6⟩ | exact ⟨kx, kcell kx a3, kcell kx a4, kcell kx a6⟩)
      (first
        | (go_at_call 32; refine (sizeOf_any _ _ _).mono ?_; rintro e w5 ⟨rfl, hk5⟩; have kx : Kept0 w1 w5 := (Kept.refl _ w1).drew.trans hk5)
        | (go_at_call 28; refine (resize_no g _ _ _ _ HM.out).mono ?_; rintro e w6 ⟨rfl, hk6⟩; have kx : Kept0 w1 w6 := kx.trans hk6))
    have a3' := kcell kx a3
    have a4' := kcell kx a4
    have kw : Kept0 w w6 := hk1.trans kx
    go_wp2_with fail
    refine (mayR_any _ _ _).mono ?_
    rw [HB.out]
    rintro e w7 ⟨rfl, rfl⟩
    go_wp2_with fail
    go_ret2
    exact ⟨r, tg, tr, R, C, f, rfl, ⟨⟨_, hG.kept kw (fun e => e) (fun e => e)⟩, ⟨_, hR.kept kw (fun e => e) (fun e => e)⟩, n1, n2, n3, n4⟩, kw.to, Or.inl rfl, Or.inl rfl, Or.inl rfl⟩

set_option maxRecDepth 100000 in
set_option maxHeartbeats 4000000 in
theorem does5 (w : World) (g tg r tr R C : Nat) (f : Nat → Int) (o : OpV) (hp : Pair w g tg r tr R C f) (h0 : ¬ o.ask = 0) (h1 : ¬ o.ask = 1) (h2 : ¬ o.ask = 2) (h3 : ¬ o.ask = 3) (h4 : ¬ o.ask = 4) :
    Calls Try.prog 17 #[.pointer (some ⟨g, 0, none⟩), .pointer (some ⟨r, 0, none⟩), .agg #[.int .i64 o.ask, .int .i64 o.ar, .int .i64 o.ac, .int .i64 o.br, .int .i64 o.bc, .int .i64 o.n, .int .i64 o.x]] w (DoesPost w g tg r tr) := by
  obtain ⟨⟨capg, hG⟩, ⟨capr, hR⟩, n1, n2, n3, n4⟩ := hp
  have d0 : (o.ask == 0) = false := by simpa using h0
  have d1 : (o.ask == 1) = false := by simpa using h1
  have d2 : (o.ask == 2) = false := by simpa using h2
  have d3 : (o.ask == 3) = false := by simpa using h3
  have d4 : (o.ask == 4) = false := by simpa using h4
  clear h0 h1 h2 h3 h4
  go_enter Try.func17, Try.ntmps17
  go_wp2_with fail
  have k0 : Kept0 w (w.alloc (.cells #[.int .i64 o.ask, .int .i64 o.ar, .int .i64 o.ac, .int .i64 o.br, .int .i64 o.bc, .int .i64 o.n, .int .i64 o.x] 41)) := (Kept.refl _ w).alloc _
  refine (at_u g tg capg R C f _ _ _ (hG.kept k0 (fun e => e) (fun e => e))).mono ?_
  rintro e w5 ⟨rfl, hk5⟩
  have b1 : w5.cell? ⟨w.heap.size, 1, none⟩ = some (.int .i64 o.ar) := kcell hk5 (by simp [go_sem])
  have b2 : w5.cell? ⟨w.heap.size, 2, none⟩ = some (.int .i64 o.ac) := kcell hk5 (by simp [go_sem])
  have kw : Kept0 w w5 := k0.trans hk5
  clear k0 hk5
  have hR5 := hR.kept kw (fun e => e) (fun e => e)
  have hG5 := hG.kept kw (fun e => e) (fun e => e)
  unfold atX setE
  cases hb : thereB R C o.ar o.ac with
  | true =>
    have HB := Lib.hid hb
    clear hb
    simp only [if_true]
    go_wp2_with fail
    refine (thereR r R C _ _ _ hR5.c0 hR5.c1).mono ?_
    rw [HB.out]
    rintro e w6 ⟨rfl, rfl⟩
    go_wp2_with fail
    refine (getR r tr capr R C f _ _ _ hR5 (there_of HB.out)).mono ?_
    rintro e w7 ⟨rfl, hk7⟩
    go_wp2_with fail
    go_ret2
    have kw7 : Kept0 w w7 := kw.trans hk7
    refine ⟨r, tg, tr, R, C, f, ?_, ⟨⟨_, hG.kept kw7 (fun e => e) (fun e => e)⟩, ⟨_, hR.kept kw7 (fun e => e) (fun e => e)⟩, n1, n2, n3, n4⟩, kw7.to, Or.inl rfl, Or.inl rfl, Or.inl rfl⟩
    simp
  | false =>
    have HB := Lib.hid hb
    clear hb
    simp only [Bool.false_eq_true, if_false]
    go_wp2_with fail
    refine (thereR r R C _ _ _ hR5.c0 hR5.c1).mono ?_
    rw [HB.out]
    rintro e w6 ⟨rfl, rfl⟩
    go_wp2_with fail
    go_ret2
    exact ⟨r, tg, tr, R, C, f, rfl, ⟨⟨_, hG5⟩, ⟨_, hR5⟩, n1, n2, n3, n4⟩, kw.to, Or.inl rfl, Or.inl rfl, Or.inl rfl⟩

theorem does_any (w : World) (g tg r tr R C : Nat) (f : Nat → Int) (o : OpV) (hp : Pair w g tg r tr R C f) (hn : -9223372036854775808 ≤ o.n ∧ o.n ≤ 9223372036854775807) :
    Calls Try.prog 17 #[.pointer (some ⟨g, 0, none⟩), .pointer (some ⟨r, 0, none⟩), .agg #[.int .i64 o.ask, .int .i64 o.ar, .int .i64 o.ac, .int .i64 o.br, .int .i64 o.bc, .int .i64 o.n, .int .i64 o.x]] w (DoesPost w g tg r tr) := by
  by_cases h0 : o.ask = 0
  · exact does0 w g tg r tr R C f o hp h0
  by_cases h1 : o.ask = 1
  · exact does1 w g tg r tr R C f o hp h1
  by_cases h2 : o.ask = 2
  · exact does2 w g tg r tr R C f o hp h2 hn
  by_cases h3 : o.ask = 3
  · exact does3 w g tg r tr R C f o hp h3 hn
  by_cases h4 : o.ask = 4
  · exact does4 w g tg r tr R C f o hp h4
  exact does5 w g tg r tr R C f o hp h0 h1 h2 h3 h4
end Go.Proofs.Ytekjjnfbahmjcaa
