/-
  Texts merged: ScrH ScrI.
-/
import Derived.Test.YtlhajbcabpfbkaaGreatDoorMSe
import Derived.Test.YtlhajbcabpfbkaaGreatDoorGRes
import Derived.Test.YtlhajbcabpfbkaaGreatDoorMTb
/-
  Calls of a screen: Put as one, Resize.
-/
namespace Go.Proofs.YtlhajbcabpfbkaaGreatDoor
open Go.RowKit

/-- What Put leaves. -/
def sputO (R C : Nat) (F : Nat → Cel) (r c : Int) : Option Nat := freeK (R * C) false (st R C r c) F
def sputF (R C : Nat) (F : Nat → Cel) (r c : Int) (b : Bool) (x : Cel) (k : Int) (v : Bool) : Nat → Cel :=
  if v = true then gdF F x (sputO R C F r c) else putF R C F r c b x k blk
def sputR (R C : Nat) (F : Nat → Cel) (r c : Int) (b : Bool) (x : Cel) (k : Int) (v : Bool) : Int :=
  if v = true then (if (sputO R C F r c).isSome = true then gdR R C F x r (sputO R C F r c) else r) else putR R C r c b k
def sputC (R C : Nat) (F : Nat → Cel) (r c : Int) (b : Bool) (x : Cel) (k : Int) (v : Bool) : Int :=
  if v = true then (if (sputO R C F r c).isSome = true then gdC R C F x c (sputO R C F r c) else c) else putC C c b k
def sputB (R C : Nat) (F : Nat → Cel) (r c : Int) (b : Bool) (k : Int) (v : Bool) : Bool :=
  if v = true then (if (sputO R C F r c).isSome = true then false else b) else putP C c b k

theorem put_there {R C : Nat} {r c k : Int} {b : Bool} (hR : 1 ≤ R) (hC : 1 ≤ C) : There R C (putR R C r c b k) (putC C c b k) := by
  have h := a_there (r := r) (c := c) (b := b) hR hC
  unfold putR putC bR bC
  obtain ⟨h1, h2, h3, h4⟩ := h
  generalize aR R r b = p at *
  generalize aC C c b = q at *
  have hn : 0 ≤ nextR R p ∧ nextR R p < R := by
    have := next_in (r := p) hR
    rwa [nr_in _ _ h1 h2] at this
  obtain ⟨n1, n2⟩ := hn
  unfold There
  split <;> (try split) <;> (try split) <;> omega

theorem gd_there {R C : Nat} {F : Nat → Cel} {x : Cel} {r c : Int} (hR : 1 ≤ R) (hC : 1 ≤ C) {o : Option Nat} (ho : o.isSome = true) : There R C (gdR R C F x r o) (gdC R C F x c o) := by
  cases o with
  | none => simp at ho
  | some k =>
    unfold gdR gdC
    simp only
    cases hg : gdO (R * C) F x k with
    | none => simpa using st_there (r := r) (c := c) hR hC
    | some j =>
      obtain ⟨hj, _⟩ := freeK_some hg
      simpa [oR, oC] using there_row_col hj hC

theorem sput_any {s g t cap tb m R C : Nat} {F : Nat → Cel} {S : Nat → Bool} {r c : Int} {b : Bool} (x : Cel) (k : Int) (v : Bool) (w : World) (h : ScrIn w s g t cap tb m R C F S r c b) (hbl : Blank w) (ht0 : ¬ t = 0) :
    Calls Tryz.prog 100 #[ptr s, x.v, .int .i64 k, .bool v] w fun e w' => e = .returned (.tuple #[]) ∧ ScrIn w' s g t cap tb m R C (sputF R C F r c b x k v) S (sputR R C F r c b x k v) (sputC R C F r c b x k v) (sputB R C F r c b k v) ∧ Kept (fun i => i = s ∨ i = t) w w' := by
  have hR := h.grid.R1
  have hC := h.grid.C1
  cases v
  · have := sput_free (F' := putF R C F r c b x k blk) x k (putR R C r c b k) (putC C c b k) (putP C c b k) w h hbl ht0 (put_there hR hC) (fun w' hg => (put_any g t cap R C F r c k b x blk w' hg).mono (by rintro e w2 ⟨rfl, h1, h2⟩; exact ⟨⟨_, _, rfl⟩, h1, h2⟩))
    simpa [sputF, sputR, sputC, sputB] using this
  · obtain ⟨o, ho⟩ : ∃ o, o = sputO R C F r c := ⟨_, rfl⟩
    unfold sputF sputR sputC sputB
    rw [← ho]
    simp only [if_true]
    have hg := fun w' hg => guard_any g t cap R C F r c b x w' hg o ho
    cases o with
    | some j =>
      simp only [Option.isSome_some, if_true]
      exact sput_some x k _ _ w h (gd_there hR hC rfl) hg
    | none =>
      simp only [Option.isSome_none, Bool.false_eq_true, if_false]
      exact sput_none x k _ _ w h hg

/-- A screen whose cursor may be beyond an edge. -/
structure ScrM (w : World) (s g t cap tb m R C : Nat) (F : Nat → Cel) (S : Nat → Bool) (r c : Int) (b : Bool) : Prop where
  head : w.heap[s]? = some (.cells #[.int .i64 r, .int .i64 c, .bool b, ptr g, ptr tb] 89 (0, 0))
  grid : GridAt w g t cap R C F
  tabs : Tb.TabsAt w tb m C S

namespace ScrM
variable {w w' : World} {s g t cap tb m R C : Nat} {F : Nat → Cel} {S : Nat → Bool} {r c : Int} {b : Bool}
theorem lt (h : ScrM w s g t cap tb m R C F S r c b) : s < w.heap.size := (Array.getElem?_eq_some_iff.1 h.head).1
theorem c0 (h : ScrM w s g t cap tb m R C F S r c b) : w.cell? ⟨s, 0, none⟩ = some (.int .i64 r) := by simp [World.cell?, h.head]
theorem c1 (h : ScrM w s g t cap tb m R C F S r c b) : w.cell? ⟨s, 1, none⟩ = some (.int .i64 c) := by simp [World.cell?, h.head]
theorem c2 (h : ScrM w s g t cap tb m R C F S r c b) : w.cell? ⟨s, 2, none⟩ = some (.bool b) := by simp [World.cell?, h.head]
theorem c3 (h : ScrM w s g t cap tb m R C F S r c b) : w.cell? ⟨s, 3, none⟩ = some (ptr g) := by simp [World.cell?, h.head]
theorem c4 (h : ScrM w s g t cap tb m R C F S r c b) : w.cell? ⟨s, 4, none⟩ = some (ptr tb) := by simp [World.cell?, h.head]
theorem fz (h : ScrM w s g t cap tb m R C F S r c b) (k : Nat) : w.frozen? ⟨s, k, none⟩ = false := by simp [World.frozen?, h.head]
theorem apart (h : ScrM w s g t cap tb m R C F S r c b) : (s ≠ g ∧ s ≠ t ∧ s ≠ tb ∧ s ≠ m) ∧ (g ≠ t ∧ g ≠ tb ∧ g ≠ m) ∧ (t ≠ tb ∧ t ≠ m) ∧ tb ≠ m := by
  have hs := h.head
  have hg := h.grid.head
  obtain ⟨cur, ht, _⟩ := h.grid.row
  have htb := h.tabs.head
  obtain ⟨es, ck, hm⟩ := h.tabs.set.block
  refine ⟨⟨?_, ?_, ?_, ?_⟩, ⟨?_, ?_, ?_⟩, ⟨?_, ?_⟩, ?_⟩ <;> rintro rfl <;> simp_all
theorem all_lt (h : ScrM w s g t cap tb m R C F S r c b) : ∀ i, Own s g t tb m i → i < w.heap.size := by
  have h1 := h.lt
  have h2 := h.grid.lt
  have h3 := h.grid.row.lt
  have h4 := h.tabs.lt
  have h5 := h.tabs.set.lt
  rintro i (rfl | rfl | rfl | rfl | rfl) <;> assumption
theorem kept (h : ScrM w s g t cap tb m R C F S r c b) {T : Nat → Prop} (k : Kept T w w') (hT : ∀ i, Own s g t tb m i → ¬ T i) : ScrM w' s g t cap tb m R C F S r c b :=
  ⟨(k.block s h.lt (hT s (by simp [Own]))).trans h.head, h.grid.kept k (hT g (by simp [Own])) (hT t (by simp [Own])), h.tabs.kept k (hT tb (by simp [Own])) (hT m (by simp [Own]))⟩
theorem kept0 (h : ScrM w s g t cap tb m R C F S r c b) (k : Kept0 w w') : ScrM w' s g t cap tb m R C F S r c b := h.kept k (fun _ _ e => e)
/-- The cursor is turned, nothing else. -/
theorem onPlace (h : ScrM w s g t cap tb m R C F S r c b) {r' c' : Int} {b' : Bool} (ht : There R C r' c') :
    ScrIn (((w.setCell ⟨s, 0, none⟩ (.int .i64 r')).setCell ⟨s, 1, none⟩ (.int .i64 c')).setCell ⟨s, 2, none⟩ (.bool b')) s g t cap tb m R C F S r' c' b' := by
  obtain ⟨⟨a1, a2, a3, a4⟩, _⟩ := h.apart
  have k : Kept (· = s) w (((w.setCell ⟨s, 0, none⟩ (.int .i64 r')).setCell ⟨s, 1, none⟩ (.int .i64 c')).setCell ⟨s, 2, none⟩ (.bool b')) :=
    (((Kept.refl (· = s) w).setCell _ (Or.inr rfl) _).setCell _ (Or.inr rfl) _).setCell _ (Or.inr rfl) _
  refine ⟨?_, h.grid.kept k (fun e => a1 e.symm) (fun e => a2 e.symm), h.tabs.kept k (fun e => a3 e.symm) (fun e => a4 e.symm), ht⟩
  have hs := h.head
  simp [World.setCell, Array.getElem?_modify, hs]
end ScrM

set_option maxHeartbeats 400000 in
theorem msize_any {s g t cap tb m R C : Nat} {F : Nat → Cel} {S : Nat → Bool} {r c : Int} {b : Bool} (w : World) (h : ScrM w s g t cap tb m R C F S r c b) :
    Calls Tryz.prog 39 #[ptr s] w fun e w' => e = .returned (pos R C) ∧ Kept0 w w' := by
  have c3 := h.c3
  have hg := h.grid
  have HG := Lib.hid hg
  have hl := h.lt
  clear h hg
  go_enter Tryz.func39, Tryz.ntmps39
  go_wp2_with fail
  refine (size_any g (R : Int) (C : Int) _ (HG.out.kept (((Kept.refl (fun _ => False) w).alloc _)) (fun e => e) (fun e => e)).c0 (HG.out.kept (((Kept.refl (fun _ => False) w).alloc _)) (fun e => e) (fun e => e)).c1).mono ?_
  rintro e w1 ⟨rfl, hk1⟩
  have ho := (Two.of (heap_new w (.cells #[.int .i64 0, .int .i64 0] 23))).kept0 hk1
  obtain ⟨o0, o1, o2, o3⟩ := ho
  have hk : Kept0 w w1 := ((Kept.refl _ w).alloc _).trans hk1
  clear hk1
  go_wp2_with fail
  exact bodyPost_ret (v := pos R C) (by simp [results, Tryz.results39, go_sem, o0, o1]) rfl ⟨rfl, (hk.setCell _ (Or.inl (Nat.le_refl _)) _).setCell _ (Or.inl (Nat.le_refl _)) _⟩

set_option maxHeartbeats 400000 in
theorem mmove_deferred {s g t cap tb m R C : Nat} {F : Nat → Cel} {S : Nat → Bool} {r c : Int} {b : Bool} (p q : Int) (u : FrameMode) (w : World) (h : ScrM w s g t cap tb m R C F S r c b) :
    CallsD Tryz.prog 24 #[ptr s, pos p q] u w fun e u' w' => u' = u ∧ (e = .returned (.tuple #[]) ∧ ScrIn w' s g t cap tb m R C F S (nr p R) (nr q C) false ∧ Kept (· = s) w w') := by
  have hl := h.lt
  have HN := Lib.hid (fun w' => near_any (R : Int) (C : Int) p q w')
  rw [show nearR (R : Int) (C : Int) p = nr p R from if_pos (may_of h.grid.R1 h.grid.R2 h.grid.C1 h.grid.C2), show nearC (R : Int) (C : Int) q = nr q C from if_pos (may_of h.grid.R1 h.grid.R2 h.grid.C1 h.grid.C2)] at HN
  have HT : Hid (There R C (nr p R) (nr q C)) := st_there h.grid.R1 h.grid.C1
  have H := Lib.hid h
  clear h
  go_enter_d Tryz.func24, Tryz.ntmps24
  go_wp2_with fail
  obtain ⟨W, hW⟩ : ∃ W, W = w.alloc (.cells #[.int .i64 p, .int .i64 q] 45) := ⟨_, rfl⟩
  have k0 : Kept0 w W := by rw [hW]; exact (Kept.refl _ w).alloc _
  have hp : Two W w.heap.size p q := by rw [hW]; exact Two.of (heap_new _ _)
  rw [← hW]
  clear hW
  have HW := Lib.hid (H.out.kept0 k0)
  have KK := Lib.hid k0
  clear k0
  obtain ⟨p0, p1, p2, p3⟩ := hp
  have n1 : ¬ w.heap.size = s := by omega
  have n2 : ¬ s = w.heap.size := by omega
  obtain ⟨p5, hp5⟩ : ∃ p5, p5 = nr p R := ⟨_, rfl⟩
  obtain ⟨q5, hq5⟩ : ∃ q5, q5 = nr q C := ⟨_, rfl⟩
  rw [← hp5, ← hq5] at HN HT
  have HP5 := Lib.hid hp5
  have HQ5 := Lib.hid hq5
  clear hp5 hq5
  go_region_held3 (fun w' => w'.cell? ⟨w.heap.size, 0, none⟩ = some (.int .i64 p) ∧ w'.cell? ⟨w.heap.size, 1, none⟩ = some (.int .i64 q)) (go_keep)
    (first
      | (go_at_call 38; refine (HN.out _).mono ?_; rintro e w4 ⟨rfl, hk4⟩; have kn4 : Hid (Kept0 W w4) := kn.out.trans hk4; obtain ⟨z0, z1, z2, z3⟩ := z.kept0 hk4; have HS := Lib.hid (HW.out.kept0 kn4.out); have y0 := HS.out.c0; have y1 := HS.out.c1; have y2 := HS.out.c2; have f0 := HS.out.fz 0; have f1 := HS.out.fz 1; have f2 := HS.out.fz 2)
      | (go_at_call 39; refine (msize_any _ (HW.out.kept0 (Kept.refl _ W).drew)).mono ?_; rintro e w3 ⟨rfl, hk3⟩; have kn : Hid (Kept0 W w3) := (Kept.refl _ W).drew.trans hk3; have z : Two w3 w.heap.size p q := ⟨kcell kn.out p0, kcell kn.out p1, kfrozen kn.out p0 p2, kfrozen kn.out p1 p3⟩; have z9 := z; obtain ⟨z0, z1, z2, z3⟩ := z9))
  all_goals
    go_wp2_with fail
    go_end0
    have e1 := HP5.out
    have e2 := HQ5.out
    subst e1 e2
    exact ⟨rfl, HS.out.onPlace HT.out, (KK.out.to.trans kn4.out.to).trans (ScrIn.keptPlace _ s _ _ false)⟩

theorem ScrIn.g0 {w : World} {s g t cap tb m R C : Nat} {F : Nat → Cel} {S : Nat → Bool} {r c : Int} {b : Bool} (h : ScrIn w s g t cap tb m R C F S r c b) (hb : Blank w) : ¬ g = 0 := by
  rintro rfl
  have := h.grid.head
  obtain ⟨ty, hb⟩ := hb
  rw [hb] at this
  simp at this


end Go.Proofs.YtlhajbcabpfbkaaGreatDoor

/-
  New, Copy, Rows, Listed of a screen.
-/
namespace Go.Proofs.YtlhajbcabpfbkaaGreatDoor
open Go.RowKit

theorem new_bad (p q : Int) (x : Cel) (w : World) (h : ¬ (1 ≤ p ∧ p ≤ 255 ∧ 1 ≤ q ∧ q ≤ 255)) :
    Calls Tryz.prog 36 #[pos p q, x.v] w fun e w' => e = .returned (.tuple #[.pointer none, .int .i64 10]) ∧ Kept0 w w' := by
  have HM := Lib.hid (mayE_no h)
  clear h
  go_enter Tryz.func36, Tryz.ntmps36
  go_wp2_with fail
  refine (may_any _ _ _).mono ?_
  rw [HM.out]
  rintro e w1 ⟨rfl, hk1⟩
  have kk : Hid (Kept0 w w1) := (((Kept.refl _ w).alloc _).alloc _).trans hk1
  clear hk1
  go_wp2_with fail
  go_ret2
  exact ⟨rfl, kk.out⟩

set_option maxHeartbeats 1000000 in
theorem snew_no (p q : Int) (w : World) (hb : Blank w) (h : ¬ (1 ≤ p ∧ p ≤ 255 ∧ 1 ≤ q ∧ q ≤ 255)) :
    Calls Tryz.prog 21 #[pos p q] w fun e w' => e = .returned (.tuple #[.pointer none, .int .i64 10]) ∧ Kept0 w w' := by
  have H := Lib.hid h
  obtain ⟨g0, g1, g2, g3⟩ := hb.cel
  have hl := hb.lt
  clear h hb
  go_enter Tryz.func21, Tryz.ntmps21
  go_wp2_with fail
  refine (new_bad p q blk _ H.out).mono ?_
  rintro e w1 ⟨rfl, hk1⟩
  have kk : Hid (Kept0 w w1) := ((Kept.refl _ w).alloc _).trans hk1
  clear hk1
  go_wp2_with fail
  go_ret2
  exact ⟨rfl, kk.out⟩

set_option maxHeartbeats 1000000 in
theorem snew_yes (R C : Nat) (w : World) (hb : Blank w) (h : 1 ≤ R ∧ R ≤ 255 ∧ 1 ≤ C ∧ C ≤ 255) :
    Calls Tryz.prog 21 #[pos R C] w fun e w' => ∃ s g t cap tb m, e = .returned (.tuple #[ptr s, .int .i64 0]) ∧ (∀ i, Own s g t tb m i → w.heap.size ≤ i) ∧ ScrIn w' s g t cap tb m R C (fun _ => blk) (fun _ => false) 0 0 false ∧ Kept0 w w' := by
  have H := Lib.hid h
  obtain ⟨g0, g1, g2, g3⟩ := hb.cel
  have hl := hb.lt
  clear h hb
  go_enter Tryz.func21, Tryz.ntmps21
  go_wp2_with fail
  refine (new_yes R C blk _ H.out.1 H.out.2.1 H.out.2.2.1 H.out.2.2.2).mono ?_
  rintro e w1 ⟨g, t, rfl, hg1, ht1, hG1, hk1⟩
  rw [World.size_alloc] at hg1 ht1
  have bz := (Two.of (heap_new w (.cells #[.int .i64 R, .int .i64 C] 23))).kept0 hk1
  have k1 : Kept0 w w1 := ((Kept.refl _ w).alloc _).trans hk1
  obtain ⟨z0, z1, z2, z3⟩ := bz
  have HG := Lib.hid hG1
  have KK := Lib.hid k1
  clear hk1 hG1 k1
  go_wp2_with fail
  refine (Tb.new_yes C _ H.out.2.2.1 H.out.2.2.2).mono ?_
  rintro e w2 ⟨tb, m, rfl, htb, hm, hT2, hk2⟩
  have HT := Lib.hid hT2
  have HG2 := Lib.hid (HG.out.kept hk2 (fun e => e) (fun e => e))
  have K2 := Lib.hid (KK.out.trans hk2)
  have hz2 := hk2.size
  have hz1 := KK.out.size
  clear hT2 hk2
  go_wp2_with fail
  go_ret2
  refine ⟨w2.heap.size, g, t, R * C, tb, m, rfl, ?_, ⟨heap_new _ _, HG2.out.kept ((Kept.refl (fun _ => False) _).alloc _) (fun e => e) (fun e => e), HT.out.kept0 ((Kept.refl _ _).alloc _), ?_⟩, K2.out.alloc _⟩
  · rintro i (rfl | rfl | rfl | rfl | rfl) <;> omega
  · have := H.out
    exact ⟨by omega, by omega, by omega, by omega⟩

set_option maxHeartbeats 400000 in
theorem srows_any {s g t cap tb m R C : Nat} {F : Nat → Cel} {S : Nat → Bool} {r c : Int} {b : Bool} (w : World) (h : ScrIn w s g t cap tb m R C F S r c b) :
    Calls Tryz.prog 18 #[ptr s] w fun e w' => ∃ l, e = .returned (.slice (some ⟨l, 0, none⟩) R R) ∧ w.heap.size ≤ l ∧ RowsAt w' w.heap.size l R C (fun i k => F (i * C + k)) ∧ Kept0 w w' := by
  have c3 := h.c3
  have HG := Lib.hid h.grid
  have hl := h.lt
  clear h
  go_enter Tryz.func18, Tryz.ntmps18
  go_wp2_with fail
  refine (rows_any g t cap R C F _ HG.out).mono ?_
  rintro e w1 ⟨l, rfl, hl1, hro, hk1⟩
  have HR := Lib.hid (And.intro hl1 (And.intro hro hk1))
  clear hl1 hro hk1
  go_wp2_with fail
  go_ret
  exact ⟨l, rfl, HR.out⟩


end Go.Proofs.YtlhajbcabpfbkaaGreatDoor
