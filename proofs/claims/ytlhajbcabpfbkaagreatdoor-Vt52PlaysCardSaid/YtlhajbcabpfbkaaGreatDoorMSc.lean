/-
  Texts merged: Scr ScrA ScrB.
-/
import Derived.Test.YtlhajbcabpfbkaaGreatDoorMGo
import Derived.Test.YtlhajbcabpfbkaaGreatDoorMWk
import Derived.Test.YtlhajbcabpfbkaaGreatDoorMTb
import Derived.Test.YtlhajbcabpfbkaaGreatDoorMFr
import Derived.Deep.RegionWith
import Derived.Test.YtlhajbcabpfbkaaGreatDoorMSh
/-
  A screen in memory: its cursor's place, its cells, its stops; the variable that holds the blank cell. Of the program the types alone.
-/
namespace Go.Proofs.YtlhajbcabpfbkaaGreatDoor
open Go.RowKit

/-- A pointer to a block. -/
abbrev ptr (s : Nat) : Value := .pointer (some ⟨s, 0, none⟩)

/-- A cell in which there is nothing. -/
def blk : Cel := ⟨32, 0, false, 0⟩

/-- The package's variable holds a blank cell. -/
def Blank (w : World) : Prop := ∃ t, w.heap[0]? = some (.cells #[.int .i32 32, .int .i64 0, .bool false, .int .i64 0] t (0, 0))
theorem Blank.kept {w w' : World} (h : Blank w) {S : Nat → Prop} (k : Kept S w w') (hs : ¬ S 0) : Blank w' := by
  obtain ⟨t, h⟩ := h
  exact ⟨t, (k.block 0 (Array.getElem?_eq_some_iff.1 h).1 hs).trans h⟩
theorem Blank.kept0 {w w' : World} (h : Blank w) (k : Kept0 w w') : Blank w' := h.kept k (fun e => e)
theorem Blank.lt {w : World} (h : Blank w) : 0 < w.heap.size := by
  obtain ⟨t, h⟩ := h
  exact (Array.getElem?_eq_some_iff.1 h).1

/-- A screen at block s: its grid at g (things at t), its tabs at tb (their set at m). -/
structure ScrIn (w : World) (s g t cap tb m R C : Nat) (F : Nat → Cel) (S : Nat → Bool) (r c : Int) (b : Bool) : Prop where
  head : w.heap[s]? = some (.cells #[.int .i64 r, .int .i64 c, .bool b, ptr g, ptr tb] 89 (0, 0))
  grid : GridAt w g t cap R C F
  tabs : Tb.TabsAt w tb m C S
  there : There R C r c

/-- The blocks of a screen. -/
def Own (s g t tb m : Nat) (i : Nat) : Prop := i = s ∨ i = g ∨ i = t ∨ i = tb ∨ i = m

namespace ScrIn
variable {w w' : World} {s g t cap tb m R C : Nat} {F : Nat → Cel} {S : Nat → Bool} {r c : Int} {b : Bool}
theorem lt (h : ScrIn w s g t cap tb m R C F S r c b) : s < w.heap.size := (Array.getElem?_eq_some_iff.1 h.head).1
theorem c0 (h : ScrIn w s g t cap tb m R C F S r c b) : w.cell? ⟨s, 0, none⟩ = some (.int .i64 r) := by simp [World.cell?, h.head]
theorem c1 (h : ScrIn w s g t cap tb m R C F S r c b) : w.cell? ⟨s, 1, none⟩ = some (.int .i64 c) := by simp [World.cell?, h.head]
theorem c2 (h : ScrIn w s g t cap tb m R C F S r c b) : w.cell? ⟨s, 2, none⟩ = some (.bool b) := by simp [World.cell?, h.head]
theorem c3 (h : ScrIn w s g t cap tb m R C F S r c b) : w.cell? ⟨s, 3, none⟩ = some (ptr g) := by simp [World.cell?, h.head]
theorem c4 (h : ScrIn w s g t cap tb m R C F S r c b) : w.cell? ⟨s, 4, none⟩ = some (ptr tb) := by simp [World.cell?, h.head]
theorem fz (h : ScrIn w s g t cap tb m R C F S r c b) (k : Nat) : w.frozen? ⟨s, k, none⟩ = false := by simp [World.frozen?, h.head]
theorem apart (h : ScrIn w s g t cap tb m R C F S r c b) : (s ≠ g ∧ s ≠ t ∧ s ≠ tb ∧ s ≠ m) ∧ (g ≠ t ∧ g ≠ tb ∧ g ≠ m) ∧ (t ≠ tb ∧ t ≠ m) ∧ tb ≠ m := by
  have hs := h.head
  have hg := h.grid.head
  obtain ⟨cur, ht, _⟩ := h.grid.row
  have htb := h.tabs.head
  obtain ⟨es, ck, hm⟩ := h.tabs.set.block
  refine ⟨⟨?_, ?_, ?_, ?_⟩, ⟨?_, ?_, ?_⟩, ⟨?_, ?_⟩, ?_⟩ <;> rintro rfl <;> simp_all
theorem all_lt (h : ScrIn w s g t cap tb m R C F S r c b) : ∀ i, Own s g t tb m i → i < w.heap.size := by
  have h1 := h.lt
  have h2 := h.grid.lt
  have h3 := h.grid.row.lt
  have h4 := h.tabs.lt
  have h5 := h.tabs.set.lt
  rintro i (rfl | rfl | rfl | rfl | rfl) <;> assumption
theorem kept (h : ScrIn w s g t cap tb m R C F S r c b) {T : Nat → Prop} (k : Kept T w w') (hT : ∀ i, Own s g t tb m i → ¬ T i) : ScrIn w' s g t cap tb m R C F S r c b :=
  ⟨(k.block s h.lt (hT s (by simp [Own]))).trans h.head, h.grid.kept k (hT g (by simp [Own])) (hT t (by simp [Own])), h.tabs.kept k (hT tb (by simp [Own])) (hT m (by simp [Own])), h.there⟩
theorem kept0 (h : ScrIn w s g t cap tb m R C F S r c b) (k : Kept0 w w') : ScrIn w' s g t cap tb m R C F S r c b := h.kept k (fun _ _ e => e)
/-- The cells are turned, nothing else. -/
theorem onGrid (h : ScrIn w s g t cap tb m R C F S r c b) {F' : Nat → Cel} (k : Kept (· = t) w w') (hg : GridAt w' g t cap R C F') : ScrIn w' s g t cap tb m R C F' S r c b := by
  obtain ⟨⟨a1, a2, a3, a4⟩, ⟨b1, b2, b3⟩, ⟨d1, d2⟩, e1⟩ := h.apart
  exact ⟨(k.block s h.lt a2).trans h.head, hg, h.tabs.kept k (fun e => d1 e.symm) (fun e => d2 e.symm), h.there⟩
/-- The stops are turned, nothing else. -/
theorem onTabs (h : ScrIn w s g t cap tb m R C F S r c b) {S' : Nat → Bool} (k : Kept (· = m) w w') (hg : Tb.TabsAt w' tb m C S') : ScrIn w' s g t cap tb m R C F S' r c b := by
  obtain ⟨⟨a1, a2, a3, a4⟩, ⟨b1, b2, b3⟩, ⟨d1, d2⟩, e1⟩ := h.apart
  exact ⟨(k.block s h.lt a4).trans h.head, h.grid.kept k b3 d2, hg, h.there⟩
/-- The cursor is turned, nothing else. -/
theorem onPlace (h : ScrIn w s g t cap tb m R C F S r c b) {r' c' : Int} {b' : Bool} (ht : There R C r' c') :
    ScrIn (((w.setCell ⟨s, 0, none⟩ (.int .i64 r')).setCell ⟨s, 1, none⟩ (.int .i64 c')).setCell ⟨s, 2, none⟩ (.bool b')) s g t cap tb m R C F S r' c' b' := by
  obtain ⟨⟨a1, a2, a3, a4⟩, _⟩ := h.apart
  have k : Kept (· = s) w (((w.setCell ⟨s, 0, none⟩ (.int .i64 r')).setCell ⟨s, 1, none⟩ (.int .i64 c')).setCell ⟨s, 2, none⟩ (.bool b')) :=
    (((Kept.refl (· = s) w).setCell _ (Or.inr rfl) _).setCell _ (Or.inr rfl) _).setCell _ (Or.inr rfl) _
  refine ⟨?_, h.grid.kept k (fun e => a1 e.symm) (fun e => a2 e.symm), h.tabs.kept k (fun e => a3 e.symm) (fun e => a4 e.symm), ht⟩
  have hs := h.head
  simp [World.setCell, Array.getElem?_modify, hs]
theorem keptPlace (w : World) (s : Nat) (r' c' : Int) (b' : Bool) :
    Kept (· = s) w (((w.setCell ⟨s, 0, none⟩ (.int .i64 r')).setCell ⟨s, 1, none⟩ (.int .i64 c')).setCell ⟨s, 2, none⟩ (.bool b')) :=
  (((Kept.refl (· = s) w).setCell _ (Or.inr rfl) _).setCell _ (Or.inr rfl) _).setCell _ (Or.inr rfl) _
theorem congrS (h : ScrIn w s g t cap tb m R C F S r c b) {S' : Nat → Bool} (e : ∀ k, k < C → S k = S' k) : ScrIn w s g t cap tb m R C F S' r c b :=
  ⟨h.head, h.grid, h.tabs.congr e, h.there⟩
theorem congrF (h : ScrIn w s g t cap tb m R C F S r c b) {F' : Nat → Cel} (e : ∀ k, k < R * C → F k = F' k) : ScrIn w s g t cap tb m R C F' S r c b :=
  ⟨h.head, h.grid.congr e, h.tabs, h.there⟩
end ScrIn

end Go.Proofs.YtlhajbcabpfbkaaGreatDoor

/-
  The small calls of a screen: Size, Cursor, At, Set, Move, and of none.
-/
namespace Go.Proofs.YtlhajbcabpfbkaaGreatDoor
open Go.RowKit

theorem may_of {R C : Nat} (h1 : 1 ≤ R) (h2 : R ≤ 255) (h3 : 1 ≤ C) (h4 : C ≤ 255) : may (R : Int) (C : Int) := may_nat h1 h2 h3 h4

set_option maxHeartbeats 400000 in
theorem ssize_any {s g t cap tb m R C : Nat} {F : Nat → Cel} {S : Nat → Bool} {r c : Int} {b : Bool} (w : World) (h : ScrIn w s g t cap tb m R C F S r c b) :
    Calls Tryz.prog 39 #[ptr s] w fun e w' => e = .returned (pos R C) ∧ Kept0 w w' := by
  have c3 := h.c3
  have hg := h.grid
  have HG := Lib.hid hg
  have hl := h.lt
  clear h hg
  go_enter Tryz.func39, Tryz.ntmps39
  go_wp2_with fail
  refine (size_any g (R : Int) (C : Int) _ (HG.out.kept (((Kept.refl (fun _ => False) w).alloc _)) (fun e => e) (fun e => e)).c0 (HG.out.kept (((Kept.refl (fun _ => False) w).alloc _)) (fun e => e) (fun e => e)).c1).mono ?_
  rintro e w1 ⟨rfl, hk1⟩
  have ho := (Two.of (heap_new w (.cells #[.int .i64 0, .int .i64 0] 23))).kept0 hk1
  obtain ⟨o0, o1, o2, o3⟩ := ho
  have hk : Kept0 w w1 := ((Kept.refl _ w).alloc _).trans hk1
  clear hk1
  go_wp2_with fail
  exact bodyPost_ret (v := pos R C) (by simp [results, Tryz.results39, go_sem, o0, o1]) rfl ⟨rfl, (hk.setCell _ (Or.inl (Nat.le_refl _)) _).setCell _ (Or.inl (Nat.le_refl _)) _⟩

set_option maxHeartbeats 400000 in
theorem ssize_nil (w : World) :
    Calls Tryz.prog 39 #[.pointer none] w fun e w' => e = .returned (pos 0 0) ∧ Kept0 w w' := by
  go_enter Tryz.func39, Tryz.ntmps39
  go_wp2_with fail
  exact bodyPost_ret (v := pos 0 0) (by simp [results, Tryz.results39, go_sem]) rfl ⟨rfl, (Kept.refl _ w).alloc _⟩

set_option maxHeartbeats 400000 in
theorem cursor_any {s g t cap tb m R C : Nat} {F : Nat → Cel} {S : Nat → Bool} {r c : Int} {b : Bool} (w : World) (h : ScrIn w s g t cap tb m R C F S r c b) :
    Calls Tryz.prog 16 #[ptr s] w fun e w' => e = .returned (.tuple #[pos r c, .bool b]) ∧ Kept0 w w' := by
  have c0 := h.c0
  have c1 := h.c1
  have c2 := h.c2
  have hl := h.lt
  clear h
  go_enter Tryz.func16, Tryz.ntmps16
  go_wp2_with fail
  obtain ⟨W, hW⟩ : ∃ W, W = w.alloc (.cells #[.int .i64 0, .int .i64 0] 45) := ⟨_, rfl⟩
  have k0 : Kept0 w W := by rw [hW]; exact (Kept.refl _ w).alloc _
  have ho : Two W w.heap.size 0 0 := by rw [hW]; exact Two.of (heap_new _ _)
  rw [← hW]
  clear hW
  replace c0 := kcell k0 c0
  replace c1 := kcell k0 c1
  replace c2 := kcell k0 c2
  obtain ⟨o0, o1, o2, o3⟩ := ho
  have n1 : ¬ s = w.heap.size := by omega
  have n2 : ¬ w.heap.size = s := by omega
  go_region_held3 (fun w' => w'.cell? ⟨s, 0, none⟩ = some (.int .i64 r) ∧ w'.cell? ⟨s, 1, none⟩ = some (.int .i64 c) ∧ w'.cell? ⟨s, 2, none⟩ = some (.bool b)) (go_keep) (first | fail)
  all_goals
    go_wp2_with fail
    exact bodyPost_ret (v := .tuple #[pos r c, .bool b]) (by simp [results, Tryz.results16, go_sem, o0, o1]) rfl ⟨rfl, ((k0.drew.setCell _ (Or.inl (Nat.le_refl _)) _).setCell _ (Or.inl (Nat.le_refl _)) _)⟩

set_option maxHeartbeats 400000 in
theorem cursor_nil (w : World) :
    Calls Tryz.prog 16 #[.pointer none] w fun e w' => e = .returned (.tuple #[pos 0 0, .bool false]) ∧ Kept0 w w' := by
  go_enter Tryz.func16, Tryz.ntmps16
  go_wp2_with fail
  exact bodyPost_ret (v := .tuple #[pos 0 0, .bool false]) (by simp [results, Tryz.results16, go_sem]) rfl ⟨rfl, (Kept.refl _ w).alloc _⟩

/-- What At answers. -/
def atX (R C : Nat) (F : Nat → Cel) (p q : Int) : Cel := if 0 ≤ p ∧ p < R ∧ 0 ≤ q ∧ q < C then F (idx C p q) else zc
def atE (R C : Nat) (p q : Int) : Int := if 0 ≤ p ∧ p < R ∧ 0 ≤ q ∧ q < C then 0 else 11

theorem at_any (g t cap R C : Nat) (f : Nat → Cel) (p q : Int) (w : World) (hg : GridAt w g t cap R C f) :
    Calls Tryz.prog 35 #[ptr g, pos p q] w fun e w' => e = .returned (.tuple #[(atX R C f p q).v, .int .i64 (atE R C p q)]) ∧ Kept0 w w' := by
  by_cases h : 0 ≤ p ∧ p < R ∧ 0 ≤ q ∧ q < C
  · rw [show atX R C f p q = f (idx C p q) from if_pos h, show atE R C p q = 0 from if_pos h]
    exact at_in g t cap R C f p q w hg h
  · rw [show atX R C f p q = zc from if_neg h, show atE R C p q = 11 from if_neg h]
    exact at_out g R C p q w hg.c0 hg.c1 h

set_option maxHeartbeats 400000 in
theorem sat_core (gp : Option Addr) (s : Nat) (p q E : Int) (x : Cel) (w : World) (c3 : w.cell? ⟨s, 3, none⟩ = some (.pointer gp))
    (hA : ∀ w', Kept0 w w' → Calls Tryz.prog 35 #[.pointer gp, pos p q] w' fun e w'' => e = .returned (.tuple #[x.v, .int .i64 E]) ∧ Kept0 w' w'') :
    Calls Tryz.prog 20 #[ptr s, pos p q] w fun e w' => e = .returned (.tuple #[x.v, .int .i64 E]) ∧ Kept0 w w' := by
  have HA := Lib.hid hA
  have hl := World.block_lt_of_cell? w _ c3
  clear hA
  go_enter Tryz.func20, Tryz.ntmps20
  go_wp2_with fail
  obtain ⟨W, hW⟩ : ∃ W, W = (w.alloc (.cells #[.int .i64 p, .int .i64 q] 45)).alloc (.cells #[.int .i32 0, .int .i64 0, .bool false, .int .i64 0] 52) := ⟨_, rfl⟩
  have k0 : Kept0 w W := by rw [hW]; exact ((Kept.refl _ w).alloc _).alloc _
  have hp : Two W w.heap.size p q := by rw [hW]; exact Two.of (heap_old _ _ (heap_new _ _))
  have ho : CelW W (w.heap.size + 1) zc := by rw [hW]; have := CelW.new (w.alloc (.cells #[.int .i64 p, .int .i64 q] 45)) zc 52; rwa [World.size_alloc] at this
  rw [← hW]
  clear hW
  replace c3 := kcell k0 c3
  have KK := Lib.hid k0
  have HO := Lib.hid ho
  have lo := ho.lt
  obtain ⟨p0, p1, p2, p3⟩ := hp
  have n1 : ¬ s = w.heap.size + 1 := by omega
  have n2 : ¬ w.heap.size + 1 = s := by omega
  have n3 : ¬ w.heap.size = w.heap.size + 1 := by omega
  have n4 : ¬ w.heap.size + 1 = w.heap.size := by omega
  clear k0 ho
  go_region_held3 (fun w' => w'.cell? ⟨s, 3, none⟩ = some (.pointer gp) ∧ w'.cell? ⟨w.heap.size, 0, none⟩ = some (.int .i64 p) ∧ w'.cell? ⟨w.heap.size, 1, none⟩ = some (.int .i64 q)) (go_keep)
    (first
      | (go_at_call 35; refine (HA.out _ (Kept.drew KK.out)).mono ?_; rintro e w3 ⟨rfl, hk3⟩; have kn : Hid (Kept0 W w3) := (Kept.refl _ W).drew.trans hk3; have z0 := kcell kn.out c3; have z1 := kcell kn.out p0; have z2 := kcell kn.out p1; obtain ⟨⟨o0, o1, o2, o3⟩, f0, f1, f2, f3⟩ := HO.out.kept kn.out (fun e => e)))
  all_goals
    go_wp2_with fail
    exact bodyPost_ret (v := .tuple #[x.v, .int .i64 E]) (by simp [results, Tryz.results20, go_sem, o0, o1, o2, o3]) rfl ⟨rfl, ((((KK.out.trans kn.out).setCell _ (Or.inl (Nat.le_add_right _ 1)) _).setCell _ (Or.inl (Nat.le_add_right _ 1)) _).setCell _ (Or.inl (Nat.le_add_right _ 1)) _).setCell _ (Or.inl (Nat.le_add_right _ 1)) _⟩

end Go.Proofs.YtlhajbcabpfbkaaGreatDoor

/-
  Calls of a screen that turn one thing: Set, Lines, Chars, Stop, Stops, Move, Step.
-/
namespace Go.Proofs.YtlhajbcabpfbkaaGreatDoor
open Go.RowKit

/-- What Set leaves. -/
def setF (R C : Nat) (F : Nat → Cel) (p q : Int) (x : Cel) : Nat → Cel := if 0 ≤ p ∧ p < R ∧ 0 ≤ q ∧ q < C then upd F (idx C p q) x else F

theorem set_any (g t cap R C : Nat) (f : Nat → Cel) (p q : Int) (x : Cel) (w : World) (hg : GridAt w g t cap R C f) :
    Calls Tryz.prog 90 #[ptr g, pos p q, x.v] w fun e w' => e = .returned (.int .i64 (atE R C p q)) ∧ GridAt w' g t cap R C (setF R C f p q x) ∧ Kept (· = t) w w' := by
  by_cases h : 0 ≤ p ∧ p < R ∧ 0 ≤ q ∧ q < C
  · rw [show setF R C f p q x = upd f (idx C p q) x from if_pos h, show atE R C p q = 0 from if_pos h]
    exact set_in g t cap R C f p q x w hg h
  · rw [show setF R C f p q x = f from if_neg h, show atE R C p q = 11 from if_neg h]
    refine (set_out g R C p q x w hg.c0 hg.c1 h).mono ?_
    rintro e w' ⟨rfl, k⟩
    exact ⟨rfl, hg.kept k (fun e => e) (fun e => e), k.to⟩







/-- What Stop leaves. -/
def stopF (C : Nat) (S : Nat → Bool) (col : Int) (on : Bool) : Nat → Bool := if 0 ≤ col ∧ col < C then Tb.putF S on [col] else S
/-- What Stops leaves. -/
def stopsF (S : Nat → Bool) (n : Int) : Nat → Bool := if n < 0 then S else Tb.everyF n





set_option maxHeartbeats 400000 in
theorem smove_any {s g t cap tb m R C : Nat} {F : Nat → Cel} {S : Nat → Bool} {r c : Int} {b : Bool} (p q : Int) (w : World) (h : ScrIn w s g t cap tb m R C F S r c b) :
    Calls Tryz.prog 24 #[ptr s, pos p q] w fun e w' => e = .returned (.tuple #[]) ∧ ScrIn w' s g t cap tb m R C F S (nr p R) (nr q C) false ∧ Kept (· = s) w w' := by
  have hl := h.lt
  have HN := Lib.hid (fun w' => near_any (R : Int) (C : Int) p q w')
  rw [show nearR (R : Int) (C : Int) p = nr p R from if_pos (may_of h.grid.R1 h.grid.R2 h.grid.C1 h.grid.C2), show nearC (R : Int) (C : Int) q = nr q C from if_pos (may_of h.grid.R1 h.grid.R2 h.grid.C1 h.grid.C2)] at HN
  have HT : Hid (There R C (nr p R) (nr q C)) := st_there h.grid.R1 h.grid.C1
  have H := Lib.hid h
  clear h
  go_enter Tryz.func24, Tryz.ntmps24
  go_wp2_with fail
  obtain ⟨W, hW⟩ : ∃ W, W = w.alloc (.cells #[.int .i64 p, .int .i64 q] 45) := ⟨_, rfl⟩
  have k0 : Kept0 w W := by rw [hW]; exact (Kept.refl _ w).alloc _
  have hp : Two W w.heap.size p q := by rw [hW]; exact Two.of (heap_new _ _)
  rw [← hW]
  clear hW
  have HW := Lib.hid (H.out.kept0 k0)
  have KK := Lib.hid k0
  clear k0
  obtain ⟨p0, p1, p2, p3⟩ := hp
  have n1 : ¬ w.heap.size = s := by omega
  have n2 : ¬ s = w.heap.size := by omega
  obtain ⟨p5, hp5⟩ : ∃ p5, p5 = nr p R := ⟨_, rfl⟩
  obtain ⟨q5, hq5⟩ : ∃ q5, q5 = nr q C := ⟨_, rfl⟩
  rw [← hp5, ← hq5] at HN HT
  have HP5 := Lib.hid hp5
  have HQ5 := Lib.hid hq5
  clear hp5 hq5
  go_region_held3 (fun w' => w'.cell? ⟨w.heap.size, 0, none⟩ = some (.int .i64 p) ∧ w'.cell? ⟨w.heap.size, 1, none⟩ = some (.int .i64 q)) (go_keep)
    (first
      | (go_at_call 38; refine (HN.out _).mono ?_; rintro e w4 ⟨rfl, hk4⟩; have kn4 : Hid (Kept0 W w4) := kn.out.trans hk4; obtain ⟨z0, z1, z2, z3⟩ := z.kept0 hk4; have HS := Lib.hid (HW.out.kept0 kn4.out); have y0 := HS.out.c0; have y1 := HS.out.c1; have y2 := HS.out.c2; have f0 := HS.out.fz 0; have f1 := HS.out.fz 1; have f2 := HS.out.fz 2)
      | (go_at_call 39; refine (ssize_any _ (HW.out.kept0 (Kept.refl _ W).drew)).mono ?_; rintro e w3 ⟨rfl, hk3⟩; have kn : Hid (Kept0 W w3) := (Kept.refl _ W).drew.trans hk3; have z : Two w3 w.heap.size p q := ⟨kcell kn.out p0, kcell kn.out p1, kfrozen kn.out p0 p2, kfrozen kn.out p1 p3⟩; have z9 := z; obtain ⟨z0, z1, z2, z3⟩ := z9))
  all_goals
    go_wp2_with fail
    go_end0
    have e1 := HP5.out
    have e2 := HQ5.out
    subst e1 e2
    exact ⟨rfl, HS.out.onPlace HT.out, (KK.out.to.trans kn4.out.to).trans (ScrIn.keptPlace _ s _ _ false)⟩

set_option maxHeartbeats 400000 in
theorem sstep_any {s g t cap tb m R C : Nat} {F : Nat → Cel} {S : Nat → Bool} {r c : Int} {b : Bool} (p q : Int) (w : World) (h : ScrIn w s g t cap tb m R C F S r c b) :
    Calls Tryz.prog 94 #[ptr s, .int .i64 p, .int .i64 q] w fun e w' => e = .returned (.tuple #[]) ∧ ScrIn w' s g t cap tb m R C F S (nr (r + cut p 255) R) (nr (c + cut q 255) C) false ∧ Kept (· = s) w w' := by
  have hl := h.lt
  have HN := Lib.hid (fun w' => step_any (R : Int) (C : Int) r c p q b w')
  have hm := may_of h.grid.R1 h.grid.R2 h.grid.C1 h.grid.C2
  have hth := h.there
  rw [show nearR (R : Int) (C : Int) r = r from (if_pos hm).trans (nr_in _ _ hth.1 hth.2.1), show nearC (R : Int) (C : Int) c = c from (if_pos hm).trans (nr_in _ _ hth.2.2.1 hth.2.2.2), show nearR (R : Int) (C : Int) (r + cut p 255) = nr (r + cut p 255) R from if_pos hm, show nearC (R : Int) (C : Int) (c + cut q 255) = nr (c + cut q 255) C from if_pos hm] at HN
  have HT : Hid (There R C (nr (r + cut p 255) R) (nr (c + cut q 255) C)) := st_there h.grid.R1 h.grid.C1
  have HW := Lib.hid h
  have c0 := h.c0
  have c1 := h.c1
  have c2 := h.c2
  clear h hm hth
  go_enter Tryz.func94, Tryz.ntmps94
  go_wp2_with fail
  obtain ⟨p5, hp5⟩ : ∃ p5, p5 = nr (r + cut p 255) R := ⟨_, rfl⟩
  obtain ⟨q5, hq5⟩ : ∃ q5, q5 = nr (c + cut q 255) C := ⟨_, rfl⟩
  rw [← hp5, ← hq5] at HN HT
  have HP5 := Lib.hid hp5
  have HQ5 := Lib.hid hq5
  clear hp5 hq5
  go_region_with
    (first
      | (go_at_call 106; refine (HN.out _).mono ?_; rintro e w4 ⟨rfl, hk4⟩; have kn4 : Hid (Kept0 w w4) := kn.out.trans hk4; have HS := Lib.hid (HW.out.kept0 kn4.out); have y0 := HS.out.c0; have y1 := HS.out.c1; have y2 := HS.out.c2; have f0 := HS.out.fz 0; have f1 := HS.out.fz 1; have f2 := HS.out.fz 2)
      | (go_at_call 39; refine (ssize_any _ (HW.out.kept0 (Kept.refl _ w).drew)).mono ?_; rintro e w3 ⟨rfl, hk3⟩; have kn : Hid (Kept0 w w3) := (Kept.refl _ w).drew.trans hk3; have z0 := kcell kn.out c0; have z1 := kcell kn.out c1; have z2 := kcell kn.out c2))
  all_goals
    go_wp2_with fail
    go_end0
    have e1 := HP5.out
    have e2 := HQ5.out
    subst e1 e2
    exact ⟨rfl, HS.out.onPlace HT.out, kn4.out.to.trans (ScrIn.keptPlace _ s _ _ false)⟩

end Go.Proofs.YtlhajbcabpfbkaaGreatDoor
