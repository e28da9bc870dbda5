/-
  What Resize does.
-/
import Derived.Test.YtekjjnfbahmjcaaAllC
namespace Go.Proofs.Ytekjjnfbahmjcaa
open Go.RowKit

attribute [local go_sem] Oper.semAt_some

theorem round_call {n l : Nat} {f : FuncId} {args : Array Value} {w : World} {R : Ending → World → Prop} (h : Calls Try.prog f args w R) :
    (Fence.wide.inRound l).fn f ∧ ((Fence.wide.inRound l).depth.isSome = true → 1 ≤ n) ∧ CallsIn (Fence.wide.inRound l) (n - 1) Try.prog f args w R :=
  ⟨trivial, fun h => by simp [Fence.wide, Fence.inRound] at h, CallsIn.inRound l (callsIn_wide.2 h)⟩

theorem round_call0 {l : Nat} {f : FuncId} {args : Array Value} {w : World} {R : Ending → World → Prop} (h : Calls Try.prog f args w R) :
    Fence.wide.fn f ∧ Fence.wide.depth = none ∧ CallsIn (Fence.wide.inRound l) 0 Try.prog f args w R :=
  ⟨trivial, rfl, CallsIn.inRound l (callsIn_wide.2 h)⟩

/-- What a grid has that is given another size, when k places have come. -/
def resF (f : Nat → Int) (R C C' : Nat) (x : Int) (k : Nat) : Nat → Int := fun j =>
  if rowOf C' j < R ∧ colOf C' j < C ∧ rowOf C' j * C + colOf C' j < k then f (rowOf C' j * C + colOf C' j) else x

theorem resF_zero (f : Nat → Int) (R C C' : Nat) (x : Int) (j : Nat) : resF f R C C' x 0 j = x := by simp [resF]

theorem idx_unique {C a b k : Nat} (hb : b < C) (h : a * C + b = k) : a = rowOf C k ∧ b = colOf C k := by
  unfold rowOf colOf
  subst h
  constructor
  · rw [Nat.add_comm, Nat.add_mul_div_right _ _ (by omega), Nat.div_eq_of_lt hb]; omega
  · rw [Nat.add_comm, Nat.add_mul_mod_self_right, Nat.mod_eq_of_lt hb]

theorem row_col_eq {C j : Nat} : rowOf C j * C + colOf C j = j := by
  have := idx_row_col C j
  simpa [idx] using this

/-- One place more has come, and is put there. -/
theorem resF_put {f : Nat → Int} {R C R' C' k : Nat} {x : Int} (hk : k < R * C) (hC : 1 ≤ C) (hth : There R' C' (rowOf C k) (colOf C k)) (j : Nat) :
    upd (resF f R C C' x k) (idx C' (rowOf C k) (colOf C k)) (f k) j = resF f R C C' x (k + 1) j := by
  have h1 := rowOf_lt hk
  have h2 := colOf_lt (k := k) hC
  have h3 := row_col_eq (C := C) (j := k)
  obtain ⟨_, _, _, h4⟩ := hth
  unfold upd
  by_cases e : j = idx C' (rowOf C k) (colOf C k)
  · rw [if_pos e]
    have e' : rowOf C k * C' + colOf C k = j := by rw [e]; simp [idx]
    obtain ⟨e1, e2⟩ := idx_unique (by omega) e'
    unfold resF
    rw [← e1, ← e2, if_pos ⟨h1, h2, by omega⟩, h3]
  · rw [if_neg e]
    unfold resF
    by_cases c : rowOf C' j < R ∧ colOf C' j < C ∧ rowOf C' j * C + colOf C' j < k
    · rw [if_pos c, if_pos ⟨c.1, c.2.1, by omega⟩]
    · rw [if_neg c]
      by_cases c2 : rowOf C' j < R ∧ colOf C' j < C ∧ rowOf C' j * C + colOf C' j < k + 1
      · exfalso
        apply e
        have h5 : rowOf C' j * C + colOf C' j = k := by
          have : ¬ rowOf C' j * C + colOf C' j < k := fun h => c ⟨c2.1, c2.2.1, h⟩
          omega
        obtain ⟨e1, e2⟩ := idx_unique c2.2.1 h5
        have h6 := row_col_eq (C := C') (j := j)
        simp only [idx, Int.toNat_natCast]
        rw [← e1, ← e2, h6]
      · rw [if_neg c2]

theorem resF_skip {f : Nat → Int} {R C R' C' k : Nat} {x : Int} (hth : ¬ There R' C' (rowOf C k) (colOf C k)) (j : Nat) (hj : j < R' * C') (hC' : 1 ≤ C') :
    resF f R C C' x k j = resF f R C C' x (k + 1) j := by
  unfold resF
  by_cases c : rowOf C' j < R ∧ colOf C' j < C ∧ rowOf C' j * C + colOf C' j < k
  · rw [if_pos c, if_pos ⟨c.1, c.2.1, by omega⟩]
  · rw [if_neg c]
    by_cases c2 : rowOf C' j < R ∧ colOf C' j < C ∧ rowOf C' j * C + colOf C' j < k + 1
    · exfalso
      apply hth
      have h5 : rowOf C' j * C + colOf C' j = k := by
        have : ¬ rowOf C' j * C + colOf C' j < k := fun h => c ⟨c2.1, c2.2.1, h⟩
        omega
      obtain ⟨e1, e2⟩ := idx_unique c2.2.1 h5
      rw [← e1, ← e2]
      exact there_row_col hj hC'
    · rw [if_neg c2]

theorem grid_over {w : World} {g : Nat} {a b c a' b' c' : Value} {ty : TypeId} (h : w.heap[g]? = some (.cells #[a, b, c] ty (0, 0))) :
    (((w.setCell ⟨g, 0, none⟩ a').setCell ⟨g, 1, none⟩ b').setCell ⟨g, 2, none⟩ c').heap[g]? = some (.cells #[a', b', c'] ty (0, 0)) := by
  simp [World.setCell, Array.getElem?_modify, h]

theorem new_no (r c x : Int) (w : World) (h : ¬ (1 ≤ r ∧ r ≤ 255 ∧ 1 ≤ c ∧ c ≤ 255)) :
    Calls Try.prog 13 #[.agg #[.int .i64 r, .int .i64 c], .int .i64 x] w fun e w' => e = .returned (.tuple #[.pointer none, .int .i64 10]) ∧ Kept0 w w' := by
  have hm := mayE_no h
  have HM := Lib.hid hm
  clear hm h
  go_enter Try.func13, Try.ntmps13
  go_wp2_with fail
  refine (may_any _ _ _).mono ?_
  rw [HM.out]
  rintro e w1 ⟨rfl, hk1⟩
  go_wp2_with fail
  go_ret2
  exact ⟨rfl, ((Kept.refl _ w).alloc _).later hk1 (fun _ _ e => e)⟩

theorem resize_no (g : Nat) (r c x : Int) (w : World) (h : ¬ (1 ≤ r ∧ r ≤ 255 ∧ 1 ≤ c ∧ c ≤ 255)) :
    Calls Try.prog 28 #[.pointer (some ⟨g, 0, none⟩), .agg #[.int .i64 r, .int .i64 c], .int .i64 x] w fun e w' => e = .returned (.int .i64 10) ∧ Kept0 w w' := by
  have H := Lib.hid h
  clear h
  go_enter Try.func28, Try.ntmps28
  go_wp2_with fail
  refine (new_no _ _ _ _ H.out).mono ?_
  rintro e w1 ⟨rfl, hk1⟩
  go_wp2_with fail
  go_ret
  exact ⟨rfl, (((Kept.refl _ w).alloc _).later hk1 (fun _ _ e => e)).alloc _⟩

theorem IntsAt.below {w w' : World} {t N B : Nat} {f : Nat → Int} (h : IntsAt w t N f) (b : Below B w w') (ht : t < B) : IntsAt w' t N f := by
  obtain ⟨cur, h1, h2⟩ := h
  exact ⟨cur, (b.block t ht).trans h1, h2⟩
theorem GridAt.below {w w' : World} {g t cap R C B : Nat} {f : Nat → Int} (h : GridAt w g t cap R C f) (b : Below B w w') (hg : g < B) (ht : t < B) : GridAt w' g t cap R C f :=
  ⟨(b.block g hg).trans h.head, h.row.below b ht, h.cap, h.R1, h.R2, h.C1, h.C2⟩
theorem Kept.thenBelow {S : Nat → Prop} {a w w' : World} {B : Nat} (h : Kept S a w) (b : Below B w w') (hB : a.heap.size ≤ B) : Kept S a w' :=
  ⟨b.os.trans h.os, b.tape.trans h.tape, b.output.trans h.output, Nat.le_trans h.size b.size, fun k hk hs => (b.block k (by omega)).trans (h.block k hk hs)⟩

set_option maxHeartbeats 1000000 in
theorem resize_yes (g t cap R C : Nat) (f : Nat → Int) (r c x : Int) (w : World) (hg : GridAt w g t cap R C f) (h : 1 ≤ r ∧ r ≤ 255 ∧ 1 ≤ c ∧ c ≤ 255) :
    Calls Try.prog 28 #[.pointer (some ⟨g, 0, none⟩), .agg #[.int .i64 r, .int .i64 c], .int .i64 x] w fun e w' =>
      ∃ t', e = .returned (.int .i64 0) ∧ w.heap.size ≤ t' ∧ GridAt w' g t' (r.toNat * c.toNat) r.toNat c.toNat (resF f R C c.toNat x (R * C)) ∧ Kept (· = g) w w' := by
  have H := Lib.hid h
  clear h
  refine calls_marks Try.func28 rfl ?_
  simp only [Try.ntmps28, List.size_toArray, List.length_cons, List.length_nil, Nat.reduceAdd, Nat.reduceSub, Array.replicate_succ, Array.replicate_zero, List.push_toArray, List.append_toArray, List.nil_append, List.cons_append]
  go_wp2_with fail
  refine (new_int _ _ _ _ H.out).mono ?_
  rintro e w1 ⟨g2, t2, rfl, hg2, ht2, hG2, hk1⟩
  rw [World.size_alloc] at hg2 ht2
  generalize hR' : r.toNat = R' at *
  generalize hC' : c.toNat = C' at *
  have kk1 : Kept0 w w1 := ((Kept.refl _ w).alloc _).later hk1 (fun _ _ e => e)
  have hG := hg.kept kk1 (fun e => e) (fun e => e)
  clear hk1
  go_wp2_with fail
  refine (all_any _ _).mono ?_
  rintro e w3 ⟨rfl, rfl⟩
  rw [World.size_alloc]
  go_wp2_with fail
  have hG2l := hG2.lt
  have ht2l := hG2.row.lt
  obtain ⟨w4, hw4⟩ : ∃ w4, w4 = (w1.alloc (.cells #[.pointer (some ⟨g2, 0, none⟩)] 28)).alloc (.cells #[.pointer (some ⟨g, 0, none⟩)] 28) := ⟨_, rfl⟩
  have hs4 : w1.heap.size + 2 ≤ w4.heap.size := by rw [hw4]; simp
  have hnb : w4.cell? ⟨w1.heap.size, 0, none⟩ = some (.pointer (some ⟨g2, 0, none⟩)) := by rw [hw4]; simp [go_sem]
  have hbx : w4.cell? ⟨w1.heap.size + 1, 0, none⟩ = some (.pointer (some ⟨g, 0, none⟩)) := by rw [hw4]; simp [go_sem]
  have hk4 : Kept0 w1 w4 := by rw [hw4]; exact ((Kept.refl _ w1).alloc _).alloc _
  rw [← hw4]
  clear hw4
  replace hG := hG.kept hk4 (fun e => e) (fun e => e)
  replace hG2 := hG2.kept hk4 (fun e => e) (fun e => e)
  replace kk1 := kk1.trans hk4
  have hgl := hg.lt
  have htl := hg.row.lt
  have hwl : w.heap.size ≤ w4.heap.size := kk1.size
  clear hk4
  refine wpIn_wide.1 (wp_range (n := 0) (gf := 45) (lb := #[.pointer (some ⟨w1.heap.size + 1, 0, none⟩)]) rfl (enters_of Try.func45 (by kernel_rfl) rfl) (all1_grid (w1.heap.size + 1) g t cap R C f) (fun _ => rfl)
      (fun k W => GridAt W g2 t2 (R' * C') R' C' (resF f R C C' x k) ∧ Kept (· = t2) w4 W) (fun _ _ _ => False)
      (fun _ _ _ h b => ⟨h.1.below b (by omega) (by omega), h.2.thenBelow b (Nat.le_refl _)⟩) (fun _ _ _ _ h _ => h)
      (fun _ W h => ⟨(h.2.cell (by omega) (by omega)).trans hbx, hG.kept h.2 (by omega) (by omega)⟩)
      ⟨hG2.congr (fun j _ => (resF_zero f R C C' x j).symm), Kept.refl _ _⟩ ?_ ?_ ?_)
  · rintro l k W hl1 hl2 hk ⟨hI1, hI2⟩
    have hnbW := (hI2.cell (b := w1.heap.size) (o := 0) (by omega) (by omega)).trans hnb
    have hsW := hI2.size
    unfold allArgs
    gi_wp2_with fail
    refine ⟨(Kept.refl _ W).alloc _, fun W2 hk2 hb2 => ?_⟩
    have hlW : ¬ W.heap.size = l := by omega
    have b0 : W2.cell? ⟨W.heap.size, 0, none⟩ = some (.int .i64 (rowOf C k : Int)) := (hk2.cell (by simp) hlW).trans (by simp [go_sem])
    have b1 : W2.cell? ⟨W.heap.size, 1, none⟩ = some (.int .i64 (colOf C k : Int)) := (hk2.cell (by simp) hlW).trans (by simp [go_sem])
    have hbW : Below w4.heap.size W W2 := ((Below.refl _ W).alloc (by omega) _).trans hb2
    have hnb2 := (hbW.cell (p := ⟨w1.heap.size, 0, none⟩) (by simp; omega)).trans hnbW
    have hG2W := hI1.below hbW (by omega) (by omega)
    have hk4W := hI2.thenBelow hbW (Nat.le_refl _)
    clear hk2 hb2 hI1 hI2 hnbW
    gi_wp2_with fail
    by_cases hth : There R' C' (rowOf C k) (colOf C k)
    · refine round_call0 ((set_in g2 t2 _ R' C' _ _ _ _ _ hG2W hth).mono ?_)
      rintro e W5 ⟨rfl, hG5, hk5⟩
      gi_wp2_with fail
      have hk45 : Kept (· = t2) w4 W5 := hk4W.trans hk5
      exact ⟨hk5.mono (fun _ _ e => by omega), hG5.congr (fun j _ => resF_put hk hg.C1 hth j), hk45⟩
    · refine round_call0 ((set_out g2 R' C' _ _ _ _ hG2W.c0 hG2W.c1 hth).mono ?_)
      rintro e W5 ⟨rfl, hk5⟩
      gi_wp2_with fail
      have hk45 : Kept (· = t2) w4 W5 := hk4W.later hk5 (fun _ _ e => e.elim)
      exact ⟨hk5.to, (hG2W.kept hk5 (fun e => e) (fun e => e)).congr (fun j hj => resF_skip hth j hj hG2W.C1), hk45⟩
  · rintro D W hD ⟨hI1, hI2⟩ hDc
    have hnbW := (hI2.cell (b := w1.heap.size) (o := 0) (by omega) (by omega)).trans hnb
    have hGW := hG.kept hI2 (by omega) (by omega)
    have q0 := hI1.c0
    have q1 := hI1.c1
    have q2 := hI1.c2
    have r0 := hGW.c0
    have r1 := hGW.c1
    have r2 := hGW.c2
    have z0 := hGW.fz 0
    have z1 := hGW.fz 1
    have z2 := hGW.fz 2
    have m1 : ¬ g = g2 := by omega
    have m2 : ¬ g2 = g := by omega
    have HD := Lib.hid hDc
    clear hDc
    go_wp2_with fail
    obtain ⟨W5, hW5⟩ : ∃ W5, W5 = ((W.setCell ⟨g, 0, none⟩ (.int .i64 R')).setCell ⟨g, 1, none⟩ (.int .i64 C')).setCell ⟨g, 2, none⟩ (.slice (some ⟨t2, 0, none⟩) (R' * C') (R' * C')) := ⟨_, rfl⟩
    have hk5 : Kept (· = g) W W5 := by rw [hW5]; exact ((Kept.set1 W _ _ _).trans (Kept.set1 _ _ _ _)).trans (Kept.set1 _ _ _ _)
    have hh5 : W5.heap[g]? = some (.cells #[.int .i64 R', .int .i64 C', .slice (some ⟨t2, 0, none⟩) (R' * C') (R' * C')] 75 (0, 0)) := by rw [hW5]; exact grid_over hGW.head
    have hD5 : W5.heap[D]? = some (.deferred (some [])) := (hk5.block D (Array.getElem?_eq_some_iff.1 HD.out).1 (by omega)).trans HD.out
    rw [← hW5]
    clear hW5
    refine ⟨by simp, .inl ⟨_, _, rfl, run_takeDeferred hD5, ?_⟩⟩
    have hb6 : Below w4.heap.size W5 (W5.putObj D (.deferred none)) := below_putObj _ hD
    have hI3 : Kept (fun k => k = t2 ∨ k = g) w4 W := hI2.mono (fun _ _ e => Or.inl e)
    have hI4 : Kept (fun k => k = t2 ∨ k = g) w4 W5 := hI3.later hk5 (fun _ _ e => Or.inr e)
    have hkw : Kept (· = g) w W5 := (Kept0.to kk1).later hI4 (fun i hi e => by omega)
    refine ⟨_, results_tmp rfl _ _ _, t2, rfl, by omega, ?_, hkw.thenBelow hb6 (by omega)⟩
    rw [hR', hC']
    exact ⟨(hb6.block g (by omega)).trans hh5, (hI1.row.kept hk5 (by omega)).below hb6 (by omega), Nat.le_refl _, hI1.R1, hI1.R2, hI1.C1, hI1.C2⟩
  · intro D c k W _ _ h
    exact h.elim
end Go.Proofs.Ytekjjnfbahmjcaa
