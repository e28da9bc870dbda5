/-
  What does does: Set, Fill, Roll and Slide.
-/
import Derived.Test.YtekjjnfbahmjcaaAlike
namespace Go.Proofs.Ytekjjnfbahmjcaa
open Go.RowKit

/-- A grid and the document's answer's, with the same things, apart in memory. -/
structure Pair (w : World) (g tg r tr R C : Nat) (f : Nat → Int) : Prop where
  grid : ∃ cap, GridAt w g tg cap R C f
  ref : ∃ cap, RefAt w r tr cap R C f
  n1 : g ≠ r
  n2 : g ≠ tr
  n3 : tg ≠ r
  n4 : tg ≠ tr

/-- What a call leaves. -/
def DoesPost (w : World) (g tg r tr : Nat) (e : Ending) (w' : World) : Prop :=
  ∃ r' tg' tr' R' C' f', e = .returned (.tuple #[.pointer (some ⟨r', 0, none⟩), .bool true]) ∧ Pair w' g tg' r' tr' R' C' f' ∧ Kept (fun k => k = g ∨ k = tg ∨ k = r ∨ k = tr) w w' ∧
    (tg' = tg ∨ w.heap.size ≤ tg') ∧ (tr' = tr ∨ w.heap.size ≤ tr') ∧ (r' = r ∨ w.heap.size ≤ r')

def OpV.val (o : OpV) : Value := .agg #[.int .i64 o.ask, .int .i64 o.ar, .int .i64 o.ac, .int .i64 o.br, .int .i64 o.bc, .int .i64 o.n, .int .i64 o.x]

set_option maxRecDepth 100000 in
set_option maxHeartbeats 4000000 in
theorem does0 (w : World) (g tg r tr R C : Nat) (f : Nat → Int) (o : OpV) (hp : Pair w g tg r tr R C f) (hask : o.ask = 0) :
    Calls Try.prog 17 #[.pointer (some ⟨g, 0, none⟩), .pointer (some ⟨r, 0, none⟩), .agg #[.int .i64 o.ask, .int .i64 o.ar, .int .i64 o.ac, .int .i64 o.br, .int .i64 o.bc, .int .i64 o.n, .int .i64 o.x]] w (DoesPost w g tg r tr) := by
  obtain ⟨⟨capg, hG⟩, ⟨capr, hR⟩, n1, n2, n3, n4⟩ := hp
  have d0 : (o.ask == 0) = true := by rw [hask]; rfl
  clear hask
  have hgl := hG.lt
  have hrl := hR.lt
  have htgl := hG.row.lt
  have htrl := hR.row.lt
  go_enter Try.func17, Try.ntmps17
  go_wp2_with fail
  obtain ⟨w1, hw1⟩ : ∃ w1, w1 = w.alloc (.cells #[.int .i64 o.ask, .int .i64 o.ar, .int .i64 o.ac, .int .i64 o.br, .int .i64 o.bc, .int .i64 o.n, .int .i64 o.x] 41) := ⟨_, rfl⟩
  have hO : OpAt w1 w.heap.size 0 o := by rw [hw1]; constructor <;> simp [go_sem]
  have hk1 : Kept0 w w1 := by rw [hw1]; exact (Kept.refl _ w).alloc _
  have hs1 : w.heap.size < w1.heap.size := by rw [hw1]; simp
  rw [← hw1]
  clear hw1
  have hG1 := hG.kept hk1 (fun e => e) (fun e => e)
  have hR1 := hR.kept hk1 (fun e => e) (fun e => e)
  have a1 := hO.ar
  have a2 := hO.ac
  have a6 := hO.x
  simp only [Nat.zero_add] at a1 a2 a6
  go_region_held3 (fun w' => Kept (fun k => k = tg ∨ k = tr) w1 w' ∧ w'.cell? ⟨w.heap.size, 1, none⟩ = some (.int .i64 o.ar) ∧ w'.cell? ⟨w.heap.size, 2, none⟩ = some (.int .i64 o.ac) ∧ w'.cell? ⟨w.heap.size, 6, none⟩ = some (.int .i64 o.x))
    (first | exact ⟨(Kept.refl _ w1).drew, a1, a2, a6⟩ | exact ⟨kx, (kx.cell hs1 hne).trans a1, (kx.cell hs1 hne).trans a2, (kx.cell hs1 hne).trans a6⟩)
    (first
      | (go_at_call 24; refine (set_u g tg capg R C f _ _ _ _ (hG1.kept (Kept.refl (fun _ => False) w1).drew (fun e => e) (fun e => e))).mono ?_; rintro e w5 ⟨rfl, hG5, hk5⟩; have kx : Kept (fun k => k = tg ∨ k = tr) w1 w5 := (Kept.refl _ w1).drew.later hk5 (fun _ _ e => Or.inl e); have hne : ¬ (w.heap.size = tg ∨ w.heap.size = tr) := by omega)
      | (go_at_call 35; refine (setR_u r tr capr R C f _ _ _ _ (hR1.kept ((Kept.refl (fun k => k = tg) w1).drew.trans hk5) (by omega) (by omega))).mono ?_; rintro e w6 ⟨rfl, hR6, hk6⟩; have kx : Kept (fun k => k = tg ∨ k = tr) w1 w6 := kx.later hk6 (fun _ _ e => Or.inr e)))
  go_wp2_with fail
  go_ret2
  have kw : Kept (fun k => k = tg ∨ k = tr) w w6 := (Kept0.to hk1).trans kx
  exact ⟨r, tg, tr, R, C, _, rfl, ⟨⟨_, hG5.kept hk6 n2 n4⟩, ⟨_, hR6⟩, n1, n2, n3, n4⟩, kw.mono (fun _ _ e => e.elim (fun e => Or.inr (Or.inl e)) (fun e => Or.inr (Or.inr (Or.inr e)))), Or.inl rfl, Or.inl rfl, Or.inl rfl⟩

set_option maxRecDepth 100000 in
set_option maxHeartbeats 4000000 in
theorem does1 (w : World) (g tg r tr R C : Nat) (f : Nat → Int) (o : OpV) (hp : Pair w g tg r tr R C f) (hask : o.ask = 1) :
    Calls Try.prog 17 #[.pointer (some ⟨g, 0, none⟩), .pointer (some ⟨r, 0, none⟩), .agg #[.int .i64 o.ask, .int .i64 o.ar, .int .i64 o.ac, .int .i64 o.br, .int .i64 o.bc, .int .i64 o.n, .int .i64 o.x]] w (DoesPost w g tg r tr) := by
  obtain ⟨⟨capg, hG⟩, ⟨capr, hR⟩, n1, n2, n3, n4⟩ := hp
  have d0 : (o.ask == 0) = false := by rw [hask]; rfl
  have d1 : (o.ask == 1) = true := by rw [hask]; rfl
  clear hask
  have hgl := hG.lt
  have hrl := hR.lt
  have htgl := hG.row.lt
  have htrl := hR.row.lt
  go_enter Try.func17, Try.ntmps17
  go_wp2_with fail
  obtain ⟨w1, hw1⟩ : ∃ w1, w1 = w.alloc (.cells #[.int .i64 o.ask, .int .i64 o.ar, .int .i64 o.ac, .int .i64 o.br, .int .i64 o.bc, .int .i64 o.n, .int .i64 o.x] 41) := ⟨_, rfl⟩
  have hO : OpAt w1 w.heap.size 0 o := by rw [hw1]; constructor <;> simp [go_sem]
  have hk1 : Kept0 w w1 := by rw [hw1]; exact (Kept.refl _ w).alloc _
  have hs1 : w.heap.size < w1.heap.size := by rw [hw1]; simp
  rw [← hw1]
  clear hw1
  have hG1 := hG.kept hk1 (fun e => e) (fun e => e)
  have hR1 := hR.kept hk1 (fun e => e) (fun e => e)
  have a1 := hO.ar
  have a2 := hO.ac
  have a3 := hO.br
  have a4 := hO.bc
  have a6 := hO.x
  simp only [Nat.zero_add] at a1 a2 a3 a4 a6
  go_region_held3 (fun w' => Kept (fun k => k = tg ∨ k = tr) w1 w' ∧ w'.cell? ⟨w.heap.size, 1, none⟩ = some (.int .i64 o.ar) ∧ w'.cell? ⟨w.heap.size, 2, none⟩ = some (.int .i64 o.ac) ∧ w'.cell? ⟨w.heap.size, 3, none⟩ = some (.int .i64 o.br) ∧ w'.cell? ⟨w.heap.size, 4, none⟩ = some (.int .i64 o.bc) ∧ w'.cell? ⟨w.heap.size, 6, none⟩ = some (.int .i64 o.x))
    (first | exact ⟨(Kept.refl _ w1).drew, a1, a2, a3, a4, a6⟩ | exact ⟨kx, (kx.cell hs1 hne).trans a1, (kx.cell hs1 hne).trans a2, (kx.cell hs1 hne).trans a3, (kx.cell hs1 hne).trans a4, (kx.cell hs1 hne).trans a6⟩)
    (first
      | (go_at_call 30; refine (fill_u g tg capg R C f _ _ _ _ _ _ (hG1.kept (Kept.refl (fun _ => False) w1).drew (fun e => e) (fun e => e))).mono ?_; rintro e w5 ⟨rfl, hG5, hk5⟩; have kx : Kept (fun k => k = tg ∨ k = tr) w1 w5 := (Kept.refl _ w1).drew.later hk5 (fun _ _ e => Or.inl e); have hne : ¬ (w.heap.size = tg ∨ w.heap.size = tr) := by omega)
      | (go_at_call 36; refine (fillR_u r tr capr R C f _ _ _ _ _ _ (hR1.kept ((Kept.refl (fun k => k = tg) w1).drew.trans hk5) (by omega) (by omega))).mono ?_; rintro e w6 ⟨rfl, hR6, hk6⟩; have kx : Kept (fun k => k = tg ∨ k = tr) w1 w6 := kx.later hk6 (fun _ _ e => Or.inr e)))
  go_wp2_with fail
  go_ret2
  have kw : Kept (fun k => k = tg ∨ k = tr) w w6 := (Kept0.to hk1).trans kx
  exact ⟨r, tg, tr, R, C, _, rfl, ⟨⟨_, hG5.kept hk6 n2 n4⟩, ⟨_, hR6⟩, n1, n2, n3, n4⟩, kw.mono (fun _ _ e => e.elim (fun e => Or.inr (Or.inl e)) (fun e => Or.inr (Or.inr (Or.inr e)))), Or.inl rfl, Or.inl rfl, Or.inl rfl⟩

set_option maxRecDepth 100000 in
set_option maxHeartbeats 4000000 in
theorem does2 (w : World) (g tg r tr R C : Nat) (f : Nat → Int) (o : OpV) (hp : Pair w g tg r tr R C f) (hask : o.ask = 2) (hn : -9223372036854775808 ≤ o.n ∧ o.n ≤ 9223372036854775807) :
    Calls Try.prog 17 #[.pointer (some ⟨g, 0, none⟩), .pointer (some ⟨r, 0, none⟩), .agg #[.int .i64 o.ask, .int .i64 o.ar, .int .i64 o.ac, .int .i64 o.br, .int .i64 o.bc, .int .i64 o.n, .int .i64 o.x]] w (DoesPost w g tg r tr) := by
  obtain ⟨⟨capg, hG⟩, ⟨capr, hR⟩, n1, n2, n3, n4⟩ := hp
  have HN := Lib.hid hn
  clear hn
  have d0 : (o.ask == 0) = false := by rw [hask]; rfl
  have d1 : (o.ask == 1) = false := by rw [hask]; rfl
  have d2 : (o.ask == 2) = true := by rw [hask]; rfl
  clear hask
  have hgl := hG.lt
  have hrl := hR.lt
  have htgl := hG.row.lt
  have htrl := hR.row.lt
  go_enter Try.func17, Try.ntmps17
  go_wp2_with fail
  obtain ⟨w1, hw1⟩ : ∃ w1, w1 = w.alloc (.cells #[.int .i64 o.ask, .int .i64 o.ar, .int .i64 o.ac, .int .i64 o.br, .int .i64 o.bc, .int .i64 o.n, .int .i64 o.x] 41) := ⟨_, rfl⟩
  have hO : OpAt w1 w.heap.size 0 o := by rw [hw1]; constructor <;> simp [go_sem]
  have hk1 : Kept0 w w1 := by rw [hw1]; exact (Kept.refl _ w).alloc _
  have hs1 : w.heap.size < w1.heap.size := by rw [hw1]; simp
  rw [← hw1]
  clear hw1
  have hG1 := hG.kept hk1 (fun e => e) (fun e => e)
  have hR1 := hR.kept hk1 (fun e => e) (fun e => e)
  have a1 := hO.ar
  have a3 := hO.br
  have a5 := hO.n
  have a6 := hO.x
  simp only [Nat.zero_add] at a1 a3 a5 a6
  go_region_held3 (fun w' => Kept (fun k => k = tg ∨ k = tr) w1 w' ∧ w'.cell? ⟨w.heap.size, 1, none⟩ = some (.int .i64 o.ar) ∧ w'.cell? ⟨w.heap.size, 3, none⟩ = some (.int .i64 o.br) ∧ w'.cell? ⟨w.heap.size, 5, none⟩ = some (.int .i64 o.n) ∧ w'.cell? ⟨w.heap.size, 6, none⟩ = some (.int .i64 o.x))
    (first | exact ⟨(Kept.refl _ w1).drew, a1, a3, a5, a6⟩ | exact ⟨kx, (kx.cell hs1 hne).trans a1, (kx.cell hs1 hne).trans a3, (kx.cell hs1 hne).trans a5, (kx.cell hs1 hne).trans a6⟩)
    (first
      | (go_at_call 29; refine (roll_u g tg capg R C f _ _ _ _ _ (hG1.kept (Kept.refl (fun _ => False) w1).drew (fun e => e) (fun e => e))).mono ?_; rintro e w5 ⟨rfl, hG5, hk5⟩; have kx : Kept (fun k => k = tg ∨ k = tr) w1 w5 := (Kept.refl _ w1).drew.later hk5 (fun _ _ e => Or.inl e); have hne : ¬ (w.heap.size = tg ∨ w.heap.size = tr) := by omega)
      | (go_at_call 37; refine (rollR_u r tr capr R C f _ _ _ _ _ (hR1.kept ((Kept.refl (fun k => k = tg) w1).drew.trans hk5) (by omega) (by omega)) HN.out).mono ?_; rintro e w6 ⟨rfl, hR6, hk6⟩; have kx : Kept (fun k => k = tg ∨ k = tr) w1 w6 := kx.later hk6 (fun _ _ e => Or.inr e)))
  go_wp2_with fail
  go_ret2
  have kw : Kept (fun k => k = tg ∨ k = tr) w w6 := (Kept0.to hk1).trans kx
  exact ⟨r, tg, tr, R, C, _, rfl, ⟨⟨_, hG5.kept hk6 n2 n4⟩, ⟨_, hR6⟩, n1, n2, n3, n4⟩, kw.mono (fun _ _ e => e.elim (fun e => Or.inr (Or.inl e)) (fun e => Or.inr (Or.inr (Or.inr e)))), Or.inl rfl, Or.inl rfl, Or.inl rfl⟩

set_option maxRecDepth 100000 in
set_option maxHeartbeats 4000000 in
theorem does3 (w : World) (g tg r tr R C : Nat) (f : Nat → Int) (o : OpV) (hp : Pair w g tg r tr R C f) (hask : o.ask = 3) (hn : -9223372036854775808 ≤ o.n ∧ o.n ≤ 9223372036854775807) :
    Calls Try.prog 17 #[.pointer (some ⟨g, 0, none⟩), .pointer (some ⟨r, 0, none⟩), .agg #[.int .i64 o.ask, .int .i64 o.ar, .int .i64 o.ac, .int .i64 o.br, .int .i64 o.bc, .int .i64 o.n, .int .i64 o.x]] w (DoesPost w g tg r tr) := by
  obtain ⟨⟨capg, hG⟩, ⟨capr, hR⟩, n1, n2, n3, n4⟩ := hp
  have HN := Lib.hid hn
  clear hn
  have d0 : (o.ask == 0) = false := by rw [hask]; rfl
  have d1 : (o.ask == 1) = false := by rw [hask]; rfl
  have d2 : (o.ask == 2) = false := by rw [hask]; rfl
  have d3 : (o.ask == 3) = true := by rw [hask]; rfl
  clear hask
  have hgl := hG.lt
  have hrl := hR.lt
  have htgl := hG.row.lt
  have htrl := hR.row.lt
  go_enter Try.func17, Try.ntmps17
  go_wp2_with fail
  obtain ⟨w1, hw1⟩ : ∃ w1, w1 = w.alloc (.cells #[.int .i64 o.ask, .int .i64 o.ar, .int .i64 o.ac, .int .i64 o.br, .int .i64 o.bc, .int .i64 o.n, .int .i64 o.x] 41) := ⟨_, rfl⟩
  have hO : OpAt w1 w.heap.size 0 o := by rw [hw1]; constructor <;> simp [go_sem]
  have hk1 : Kept0 w w1 := by rw [hw1]; exact (Kept.refl _ w).alloc _
  have hs1 : w.heap.size < w1.heap.size := by rw [hw1]; simp
  rw [← hw1]
  clear hw1
  have hG1 := hG.kept hk1 (fun e => e) (fun e => e)
  have hR1 := hR.kept hk1 (fun e => e) (fun e => e)
  have a1 := hO.ar
  have a2 := hO.ac
  have a4 := hO.bc
  have a5 := hO.n
  have a6 := hO.x
  simp only [Nat.zero_add] at a1 a2 a4 a5 a6
  go_region_held3 (fun w' => Kept (fun k => k = tg ∨ k = tr) w1 w' ∧ w'.cell? ⟨w.heap.size, 1, none⟩ = some (.int .i64 o.ar) ∧ w'.cell? ⟨w.heap.size, 2, none⟩ = some (.int .i64 o.ac) ∧ w'.cell? ⟨w.heap.size, 4, none⟩ = some (.int .i64 o.bc) ∧ w'.cell? ⟨w.heap.size, 5, none⟩ = some (.int .i64 o.n) ∧ w'.cell? ⟨w.heap.size, 6, none⟩ = some (.int .i64 o.x))
    (first | exact ⟨(Kept.refl _ w1).drew, a1, a2, a4, a5, a6⟩ | exact ⟨kx, (kx.cell hs1 hne).trans a1, (kx.cell hs1 hne).trans a2, (kx.cell hs1 hne).trans a4, (kx.cell hs1 hne).trans a5, (kx.cell hs1 hne).trans a6⟩)
    (first
      | (go_at_call 31; refine (slide_u g tg capg R C f _ _ _ _ _ _ (hG1.kept (Kept.refl (fun _ => False) w1).drew (fun e => e) (fun e => e))).mono ?_; rintro e w5 ⟨rfl, hG5, hk5⟩; have kx : Kept (fun k => k = tg ∨ k = tr) w1 w5 := (Kept.refl _ w1).drew.later hk5 (fun _ _ e => Or.inl e); have hne : ¬ (w.heap.size = tg ∨ w.heap.size = tr) := by omega)
      | (go_at_call 38; refine (slideR_u r tr capr R C f _ _ _ _ _ _ (hR1.kept ((Kept.refl (fun k => k = tg) w1).drew.trans hk5) (by omega) (by omega)) HN.out).mono ?_; rintro e w6 ⟨rfl, hR6, hk6⟩; have kx : Kept (fun k => k = tg ∨ k = tr) w1 w6 := kx.later hk6 (fun _ _ e => Or.inr e)))
  go_wp2_with fail
  go_ret2
  have kw : Kept (fun k => k = tg ∨ k = tr) w w6 := (Kept0.to hk1).trans kx
  exact ⟨r, tg, tr, R, C, _, rfl, ⟨⟨_, hG5.kept hk6 n2 n4⟩, ⟨_, hR6⟩, n1, n2, n3, n4⟩, kw.mono (fun _ _ e => e.elim (fun e => Or.inr (Or.inl e)) (fun e => Or.inr (Or.inr (Or.inr e)))), Or.inl rfl, Or.inl rfl, Or.inl rfl⟩

end Go.Proofs.Ytekjjnfbahmjcaa
