/-
  The document's screen in memory; Size, Move, Step.
-/
import Derived.Test.YtkpfhgfdfndliaaGreatDoorRefG
import Derived.Test.YtkpfhgfdfndliaaGreatDoorTbFew
import Derived.Test.YtkpfhgfdfndliaaGreatDoorDoesD
namespace Go.Proofs.YtkpfhgfdfndliaaGreatDoor
open Go.RowKit

/-- The document's screen at block s: its grid at g (things at t), its stops at tb (their row at m). -/
structure RIn (w : World) (s g t cap tb m R C : Nat) (F : Nat → Cel) (S : Nat → Bool) (r c : Int) (b : Bool) : Prop where
  head : w.heap[s]? = some (.cells #[ptr g, .int .i64 r, .int .i64 c, .bool b, ptr tb] 85 (0, 0))
  grid : RefAt w g t cap R C F
  tabs : Tb.RefAt w tb m C S
  there : There R C r c

namespace RIn
variable {w w' : World} {s g t cap tb m R C : Nat} {F : Nat → Cel} {S : Nat → Bool} {r c : Int} {b : Bool}
theorem lt (h : RIn w s g t cap tb m R C F S r c b) : s < w.heap.size := (Array.getElem?_eq_some_iff.1 h.head).1
theorem c0 (h : RIn w s g t cap tb m R C F S r c b) : w.cell? ⟨s, 0, none⟩ = some (ptr g) := by simp [World.cell?, h.head]
theorem c1 (h : RIn w s g t cap tb m R C F S r c b) : w.cell? ⟨s, 1, none⟩ = some (.int .i64 r) := by simp [World.cell?, h.head]
theorem c2 (h : RIn w s g t cap tb m R C F S r c b) : w.cell? ⟨s, 2, none⟩ = some (.int .i64 c) := by simp [World.cell?, h.head]
theorem c3 (h : RIn w s g t cap tb m R C F S r c b) : w.cell? ⟨s, 3, none⟩ = some (.bool b) := by simp [World.cell?, h.head]
theorem c4 (h : RIn w s g t cap tb m R C F S r c b) : w.cell? ⟨s, 4, none⟩ = some (ptr tb) := by simp [World.cell?, h.head]
theorem fz (h : RIn w s g t cap tb m R C F S r c b) (k : Nat) : w.frozen? ⟨s, k, none⟩ = false := by simp [World.frozen?, h.head]
theorem apart (h : RIn w s g t cap tb m R C F S r c b) : (s ≠ g ∧ s ≠ t ∧ s ≠ tb ∧ s ≠ m) ∧ (g ≠ t ∧ g ≠ tb ∧ g ≠ m) ∧ (t ≠ tb ∧ t ≠ m) ∧ tb ≠ m := by
  have hs := h.head
  have hg := h.grid.head
  obtain ⟨cur, ht, _⟩ := h.grid.row
  have htb := h.tabs.head
  obtain ⟨es, hm, _⟩ := h.tabs.row
  refine ⟨⟨?_, ?_, ?_, ?_⟩, ⟨?_, ?_, ?_⟩, ⟨?_, ?_⟩, ?_⟩ <;> rintro rfl <;> simp_all
theorem all_lt (h : RIn w s g t cap tb m R C F S r c b) : ∀ i, Own s g t tb m i → i < w.heap.size := by
  have h1 := h.lt
  have h2 := h.grid.lt
  have h3 := h.grid.row.lt
  have h4 := h.tabs.lt
  have h5 := h.tabs.ltb
  rintro i (rfl | rfl | rfl | rfl | rfl) <;> assumption
theorem kept (h : RIn w s g t cap tb m R C F S r c b) {T : Nat → Prop} (k : Kept T w w') (hT : ∀ i, Own s g t tb m i → ¬ T i) : RIn w' s g t cap tb m R C F S r c b :=
  ⟨(k.block s h.lt (hT s (by simp [Own]))).trans h.head, h.grid.kept k (hT g (by simp [Own])) (hT t (by simp [Own])), h.tabs.kept k (hT tb (by simp [Own])) (hT m (by simp [Own])), h.there⟩
theorem kept0 (h : RIn w s g t cap tb m R C F S r c b) (k : Kept0 w w') : RIn w' s g t cap tb m R C F S r c b := h.kept k (fun _ _ e => e)
theorem onGrid (h : RIn w s g t cap tb m R C F S r c b) {F' : Nat → Cel} (k : Kept (· = t) w w') (hg : RefAt w' g t cap R C F') : RIn w' s g t cap tb m R C F' S r c b := by
  obtain ⟨⟨a1, a2, a3, a4⟩, ⟨b1, b2, b3⟩, ⟨d1, d2⟩, e1⟩ := h.apart
  exact ⟨(k.block s h.lt a2).trans h.head, hg, h.tabs.kept k (fun e => d1 e.symm) (fun e => d2 e.symm), h.there⟩
theorem onTabs (h : RIn w s g t cap tb m R C F S r c b) {S' : Nat → Bool} (k : Kept (· = m) w w') (hg : Tb.RefAt w' tb m C S') : RIn w' s g t cap tb m R C F S' r c b := by
  obtain ⟨⟨a1, a2, a3, a4⟩, ⟨b1, b2, b3⟩, ⟨d1, d2⟩, e1⟩ := h.apart
  exact ⟨(k.block s h.lt a4).trans h.head, h.grid.kept k b3 d2, hg, h.there⟩
theorem onPlace (h : RIn w s g t cap tb m R C F S r c b) {r' c' : Int} {b' : Bool} (ht : There R C r' c') :
    RIn (((w.setCell ⟨s, 1, none⟩ (.int .i64 r')).setCell ⟨s, 2, none⟩ (.int .i64 c')).setCell ⟨s, 3, none⟩ (.bool b')) s g t cap tb m R C F S r' c' b' := by
  obtain ⟨⟨a1, a2, a3, a4⟩, _⟩ := h.apart
  have k : Kept (· = s) w (((w.setCell ⟨s, 1, none⟩ (.int .i64 r')).setCell ⟨s, 2, none⟩ (.int .i64 c')).setCell ⟨s, 3, none⟩ (.bool b')) :=
    (((Kept.refl (· = s) w).setCell _ (Or.inr rfl) _).setCell _ (Or.inr rfl) _).setCell _ (Or.inr rfl) _
  refine ⟨?_, h.grid.kept k (fun e => a1 e.symm) (fun e => a2 e.symm), h.tabs.kept k (fun e => a3 e.symm) (fun e => a4 e.symm), ht⟩
  have hs := h.head
  simp [World.setCell, Array.getElem?_modify, hs]
theorem keptPlace (w : World) (s : Nat) (r' c' : Int) (b' : Bool) :
    Kept (· = s) w (((w.setCell ⟨s, 1, none⟩ (.int .i64 r')).setCell ⟨s, 2, none⟩ (.int .i64 c')).setCell ⟨s, 3, none⟩ (.bool b')) :=
  (((Kept.refl (· = s) w).setCell _ (Or.inr rfl) _).setCell _ (Or.inr rfl) _).setCell _ (Or.inr rfl) _
/-- The cursor's row alone. -/
theorem onRow (h : RIn w s g t cap tb m R C F S r c b) {r' : Int} (ht : There R C r' c) : RIn (w.setCell ⟨s, 1, none⟩ (.int .i64 r')) s g t cap tb m R C F S r' c b := by
  obtain ⟨⟨a1, a2, a3, a4⟩, _⟩ := h.apart
  have k : Kept (· = s) w (w.setCell ⟨s, 1, none⟩ (.int .i64 r')) := (Kept.refl (· = s) w).setCell _ (Or.inr rfl) _
  refine ⟨?_, h.grid.kept k (fun e => a1 e.symm) (fun e => a2 e.symm), h.tabs.kept k (fun e => a3 e.symm) (fun e => a4 e.symm), ht⟩
  have hs := h.head
  simp [World.setCell, Array.getElem?_modify, hs]
/-- The mark alone. -/
theorem onMark (h : RIn w s g t cap tb m R C F S r c b) (b' : Bool) : RIn (w.setCell ⟨s, 3, none⟩ (.bool b')) s g t cap tb m R C F S r c b' := by
  obtain ⟨⟨a1, a2, a3, a4⟩, _⟩ := h.apart
  have k : Kept (· = s) w (w.setCell ⟨s, 3, none⟩ (.bool b')) := (Kept.refl (· = s) w).setCell _ (Or.inr rfl) _
  refine ⟨?_, h.grid.kept k (fun e => a1 e.symm) (fun e => a2 e.symm), h.tabs.kept k (fun e => a3 e.symm) (fun e => a4 e.symm), h.there⟩
  have hs := h.head
  simp [World.setCell, Array.getElem?_modify, hs]
theorem congrF (h : RIn w s g t cap tb m R C F S r c b) {F' : Nat → Cel} (e : ∀ k, k < R * C → F k = F' k) : RIn w s g t cap tb m R C F' S r c b :=
  ⟨h.head, h.grid.congr e, h.tabs, h.there⟩
end RIn

/-- The document's screen, of whose blocks B says which they are. -/
def RScr (w : World) (B : Nat → Prop) (s : Nat) (z : St) : Prop :=
  ∃ g t cap tb m, RIn w s g t cap tb m z.R z.C z.F z.S z.r z.c z.b ∧ B = Own s g t tb m
theorem RScr.lt {w : World} {B : Nat → Prop} {s : Nat} {z : St} (h : RScr w B s z) : ∀ i, B i → i < w.heap.size := by
  obtain ⟨g, t, cap, tb, m, h1, rfl⟩ := h
  exact h1.all_lt
theorem RScr.kept {w w' : World} {B : Nat → Prop} {s : Nat} {z : St} (h : RScr w B s z) {T : Nat → Prop} (k : Kept T w w') (hT : ∀ i, B i → ¬ T i) : RScr w' B s z := by
  obtain ⟨g, t, cap, tb, m, h1, rfl⟩ := h
  exact ⟨g, t, cap, tb, m, h1.kept k hT, rfl⟩
theorem RScr.kept0 {w w' : World} {B : Nat → Prop} {s : Nat} {z : St} (h : RScr w B s z) (k : Kept0 w w') : RScr w' B s z := h.kept k (fun _ _ e => e)

/-- What a call of the document's leaves: at s or at a new block. -/
def RPost (B : Nat → Prop) (s : Nat) (z : St) (w w' : World) : Prop :=
  ∃ B', RScr w' B' s z ∧ (∀ i, B' i → B i ∨ w.heap.size ≤ i) ∧ Kept B w w'
theorem rpost_later {B : Nat → Prop} {s : Nat} {z : St} {w : World} (hB : ∀ i, B i → i < w.heap.size) : Later w (RPost B s z) := by
  refine ⟨fun w1 w2 w3 k1 hp k3 => ?_, fun w1 w2 hp => ?_⟩
  · obtain ⟨B', h1, h2, h3⟩ := hp
    have hz := k1.size
    refine ⟨B', h1.kept k3 (fun i hi e => ?_), fun i hi => ?_, ((Kept0.to k1 : Kept B w w1).trans h3).later k3 (fun i hi e => by omega)⟩
    · rcases h2 i hi with h | h
      · have := hB i h; omega
      · omega
    · rcases h2 i hi with h | h
      · exact Or.inl h
      · exact Or.inr (by omega)
  · obtain ⟨B', h1, h2, h3⟩ := hp
    exact h3.mono (fun i _ e => hB i e)

set_option maxHeartbeats 1000000 in
theorem rsize_any {s g t cap tb m R C : Nat} {F : Nat → Cel} {S : Nat → Bool} {r c : Int} {b : Bool} (w : World) (h : RIn w s g t cap tb m R C F S r c b) :
    Calls Tryz.prog 32 #[ptr s] w fun e w' => e = .returned (pos R C) ∧ Kept0 w w' := by
  have c0 := h.c0
  have d0 := h.grid.c0
  have d1 := h.grid.c1
  have hl := h.lt
  have hgl := h.grid.lt
  have b1 : ¬ g = w.heap.size := by omega
  have b2 : ¬ w.heap.size = g := by omega
  have b3 : ¬ s = w.heap.size := by omega
  have b4 : ¬ w.heap.size = s := by omega
  clear h
  go_enter Tryz.func32, Tryz.ntmps32
  go_wp2_with fail
  obtain ⟨W, hW⟩ : ∃ W, W = w.alloc (.cells #[.int .i64 0, .int .i64 0] 23) := ⟨_, rfl⟩
  have k0 : Kept0 w W := by rw [hW]; exact (Kept.refl _ w).alloc _
  have ho : Two W w.heap.size 0 0 := by rw [hW]; exact Two.of (heap_new _ _)
  rw [← hW]
  clear hW
  replace c0 := kcell k0 c0
  replace d0 := kcell k0 d0
  replace d1 := kcell k0 d1
  obtain ⟨o0, o1, o2, o3⟩ := ho
  go_region_held3 (fun w' => w'.cell? ⟨s, 0, none⟩ = some (ptr g) ∧ w'.cell? ⟨g, 0, none⟩ = some (.int .i64 R) ∧ w'.cell? ⟨g, 1, none⟩ = some (.int .i64 C)) (go_keep) (first | fail)
  all_goals
    go_wp2_with fail
    exact bodyPost_ret (v := pos R C) (by simp [results, Tryz.results32, go_sem, o0, o1]) rfl ⟨rfl, ((k0.drew.setCell _ (Or.inl (Nat.le_refl _)) _).setCell _ (Or.inl (Nat.le_refl _)) _)⟩

theorem refNear_nr {R C : Nat} (h1 : 1 ≤ R) (h2 : R ≤ 255) (h3 : 1 ≤ C) (h4 : C ≤ 255) (r c : Int) (w : World) :
    Calls Tryz.prog 86 #[pos R C, pos r c] w fun e w' => e = .returned (pos (nr r R) (nr c C)) ∧ Kept0 w w' :=
  refNear_any (R : Int) (C : Int) r c (may_nat h1 h2 h3 h4) w

set_option maxHeartbeats 1000000 in
theorem rmove_any {s g t cap tb m R C : Nat} {F : Nat → Cel} {S : Nat → Bool} {r c : Int} {b : Bool} (p q : Int) (w : World) (h : RIn w s g t cap tb m R C F S r c b) :
    Calls Tryz.prog 44 #[ptr s, pos p q] w fun e w' => e = .returned (.tuple #[]) ∧ RIn w' s g t cap tb m R C F S (nr p R) (nr q C) false ∧ Kept (· = s) w w' := by
  have hl := h.lt
  have HN := Lib.hid (refNear_nr h.grid.R1 h.grid.R2 h.grid.C1 h.grid.C2 p q)
  have HT : Hid (There R C (nr p R) (nr q C)) := st_there h.grid.R1 h.grid.C1
  have H := Lib.hid h
  clear h
  go_enter Tryz.func44, Tryz.ntmps44
  go_wp2_with fail
  obtain ⟨W, hW⟩ : ∃ W, W = w.alloc (.cells #[.int .i64 p, .int .i64 q] 40) := ⟨_, rfl⟩
  have k0 : Kept0 w W := by rw [hW]; exact (Kept.refl _ w).alloc _
  have hp : Two W w.heap.size p q := by rw [hW]; exact Two.of (heap_new _ _)
  rw [← hW]
  clear hW
  have HW := Lib.hid (H.out.kept0 k0)
  have KK := Lib.hid k0
  clear k0
  obtain ⟨p0, p1, p2, p3⟩ := hp
  have n1 : ¬ w.heap.size = s := by omega
  have n2 : ¬ s = w.heap.size := by omega
  obtain ⟨p5, hp5⟩ : ∃ p5, p5 = nr p R := ⟨_, rfl⟩
  obtain ⟨q5, hq5⟩ : ∃ q5, q5 = nr q C := ⟨_, rfl⟩
  rw [← hp5, ← hq5] at HN HT
  have HP5 := Lib.hid hp5
  have HQ5 := Lib.hid hq5
  clear hp5 hq5
  go_region_held3 (fun w' => w'.cell? ⟨w.heap.size, 0, none⟩ = some (.int .i64 p) ∧ w'.cell? ⟨w.heap.size, 1, none⟩ = some (.int .i64 q)) (go_keep)
    (first
      | (go_at_call 86; refine (HN.out _).mono ?_; rintro e w4 ⟨rfl, hk4⟩; have kn4 : Hid (Kept0 W w4) := kn.out.trans hk4; obtain ⟨z0, z1, z2, z3⟩ := z.kept0 hk4; have HS := Lib.hid (HW.out.kept0 kn4.out); have y0 := HS.out.c1; have y1 := HS.out.c2; have y2 := HS.out.c3; have f0 := HS.out.fz 1; have f1 := HS.out.fz 2; have f2 := HS.out.fz 3)
      | (go_at_call 32; refine (rsize_any _ (HW.out.kept0 (Kept.refl _ W).drew)).mono ?_; rintro e w3 ⟨rfl, hk3⟩; have kn : Hid (Kept0 W w3) := (Kept.refl _ W).drew.trans hk3; have z : Two w3 w.heap.size p q := ⟨kcell kn.out p0, kcell kn.out p1, kfrozen kn.out p0 p2, kfrozen kn.out p1 p3⟩; have z9 := z; obtain ⟨z0, z1, z2, z3⟩ := z9))
  all_goals
    go_wp2_with fail
    go_end0
    have e1 := HP5.out
    have e2 := HQ5.out
    subst e1 e2
    exact ⟨rfl, HS.out.onPlace HT.out, (KK.out.to.trans kn4.out.to).trans (RIn.keptPlace _ s _ _ false)⟩

end Go.Proofs.YtkpfhgfdfndliaaGreatDoor
