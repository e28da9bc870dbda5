/-
  What Put does.
-/
import Derived.Test.YtkdnjkcebfckiaaPutF
namespace Go.Proofs.Ytkdnjkcebfckiaa
open Go.RowKit

theorem three_newD (w : World) (t : TypeId) : Three (w.alloc (.cells #[.int .i64 0, .int .i64 0, .bool false] t)).drew w.heap.size 0 0 false := (Three.of (heap_new w _)).kept0 (Kept.drew (Kept.refl _ _))
theorem two_newN (w : World) (t : TypeId) : Two (w.alloc (.cells #[.int .i64 0, .int .i64 0] t)) w.heap.size 0 0 := Two.of (heap_new w _)
theorem three_newN (w : World) (t : TypeId) : Three (w.alloc (.cells #[.int .i64 0, .int .i64 0, .bool false] t)) w.heap.size 0 0 false := Three.of (heap_new w _)

theorem Three.set {w : World} {b : Nat} {x y : Int} {v : Bool} (h : Three w b x y v) (x' y' : Int) (v' : Bool) : Three (((w.setCell ⟨b, 0, none⟩ (.int .i64 x')).setCell ⟨b, 1, none⟩ (.int .i64 y')).setCell ⟨b, 2, none⟩ (.bool v')) b x' y' v' :=
  ⟨by simp [go_sem, h.c0], by simp [go_sem, h.c1], by simp [go_sem, h.c2], by simp [go_sem, h.f0], by simp [go_sem, h.f1], by simp [go_sem, h.f2]⟩

set_option maxHeartbeats 4000000 in
theorem put_core (g t cap R C : Nat) (f f1 f2 f3 : Nat → Cel) (r c p q p2 q2 k m1n m2n : Int) (b vv u1 u2 : Bool) (x bl : Cel) (w : World) (hg : GridAt w g t cap R C f)
    (hA : ∀ w', Calls Try.prog 31 #[pos R C, place r c b] w' fun e w'' => e = .returned (.tuple #[pos p q, .bool u1]) ∧ Kept0 w' w'')
    (hB : ∀ w', Calls Try.prog 37 #[pos R C, pos p q, .int .i64 k] w' fun e w'' => e = .returned (.tuple #[place p2 q2 vv, .bool u2]) ∧ Kept0 w' w'')
    (hL1 : ∀ w', GridAt w' g t cap R C f → Calls Try.prog 36 #[.pointer (some ⟨g, 0, none⟩), .bool u1, bl.v] w' fun e w'' => e = .returned (.int .i64 m1n) ∧ GridAt w'' g t cap R C f1 ∧ Kept (· = t) w' w'')
    (hST : ∀ w', GridAt w' g t cap R C f1 → Calls Try.prog 35 #[.pointer (some ⟨g, 0, none⟩), pos p q, x.v] w' fun e w'' => e = .returned (.int .i64 0) ∧ GridAt w'' g t cap R C f2 ∧ Kept (· = t) w' w'')
    (hL2 : ∀ w', GridAt w' g t cap R C f2 → Calls Try.prog 36 #[.pointer (some ⟨g, 0, none⟩), .bool u2, bl.v] w' fun e w'' => e = .returned (.int .i64 m2n) ∧ GridAt w'' g t cap R C f3 ∧ Kept (· = t) w' w'')
    (hn : IntKind.i64.wrap (m1n + m2n) = m1n + m2n) :
    Calls Try.prog 15 #[.pointer (some ⟨g, 0, none⟩), place r c b, x.v, .int .i64 k, bl.v] w fun e w' => e = .returned (.tuple #[place p2 q2 vv, .int .i64 (m1n + m2n), .int .i64 0]) ∧ GridAt w' g t cap R C f3 ∧ Kept (· = t) w w' := by
  have HA := Lib.hid hA
  have HB := Lib.hid hB
  have HL1 := Lib.hid hL1
  have HST := Lib.hid hST
  have HL2 := Lib.hid hL2
  have htl := hg.row.lt
  have hgl := hg.lt
  have HG := Lib.hid hg
  clear hA hB hL1 hST hL2 hg
  go_enter Try.func15, Try.ntmps15
  go_wp2_with fail
  obtain ⟨W, hW⟩ : ∃ W, W = (((w.alloc (.cells #[.int .i64 r, .int .i64 c, .bool b] 39)).alloc (.cells #[.int .i32 x.g, .int .i64 x.a, .bool x.b, .int .i64 x.m] 36)).alloc (.cells #[.int .i32 bl.g, .int .i64 bl.a, .bool bl.b, .int .i64 bl.m] 36)).alloc (.cells #[.int .i64 0, .int .i64 0, .bool false] 39) := ⟨_, rfl⟩
  have k0 : Kept0 w W := by rw [hW]; exact ((((Kept.refl _ w).alloc _).alloc _).alloc _).alloc _
  have hp : Three W w.heap.size r c b := by rw [hW]; exact Three.of (heap_old _ _ (heap_old _ _ (heap_old _ _ (heap_new _ _))))
  have hx : CelAt W (w.heap.size + 1) x := by rw [hW]; constructor <;> simp [go_sem]
  have hbl : CelAt W (w.heap.size + 1 + 1) bl := by rw [hW]; constructor <;> simp [go_sem]
  have ho : Three W (w.heap.size + 1 + 1 + 1) 0 0 false := by rw [hW]; exact Three.of (by have := heap_newC (w.alloc (.cells #[.int .i64 r, .int .i64 c, .bool b] 39)) (.cells #[.int .i32 x.g, .int .i64 x.a, .bool x.b, .int .i64 x.m] 36) (.cells #[.int .i32 bl.g, .int .i64 bl.a, .bool bl.b, .int .i64 bl.m] 36) (.cells #[.int .i64 0, .int .i64 0, .bool false] 39); rwa [World.size_alloc] at this)
  rw [← hW]
  clear hW
  have HGW : Hid (GridAt W g t cap R C f) := HG.out.kept k0 (fun e => e) (fun e => e)
  clear HG
  have KK : Hid (Kept0 w W) := k0
  have HS : Hid (∀ w', Kept0 W w' → Calls Try.prog 30 #[.pointer (some ⟨g, 0, none⟩)] w' fun e w'' => e = .returned (pos R C) ∧ Kept0 w' w'') := fun w' k => size_any g R C w' (kcell k HGW.out.c0) (kcell k HGW.out.c1)
  have HP := Lib.hid hp
  have HX := Lib.hid hx
  have HBL := Lib.hid hbl
  have HOO := Lib.hid ho
  have lo := ho.lt
  clear k0 hx hbl ho
  obtain ⟨p0, p1, p9, p3, p4, p5⟩ := hp
  have n1 : ¬ w.heap.size = W.heap.size := by omega
  have n2 : ¬ W.heap.size = w.heap.size := by omega
  go_wp2_with fail
  go_region_held3 (fun w' => w'.cell? ⟨w.heap.size, 0, none⟩ = some (.int .i64 r) ∧ w'.cell? ⟨w.heap.size, 1, none⟩ = some (.int .i64 c) ∧ w'.cell? ⟨w.heap.size, 2, none⟩ = some (.bool b)) (go_keep)
    (first
      | (go_at_call 30
         refine (HS.out _ (by first | exact (Kept.refl _ W).drew | exact ((Kept.refl _ W).alloc _).drew)).mono ?_
         rintro e w3 ⟨rfl, hk3⟩
         have kn : Hid (Kept0 W w3) := (by first | exact (Kept.refl _ W).drew.trans hk3 | exact ((Kept.refl _ W).alloc _).drew.trans hk3)
         have m1 : ¬ w.heap.size = w3.heap.size := (by have := kn.out.size; omega)
         have m2 : ¬ w3.heap.size = w.heap.size := (by have := kn.out.size; omega)
         obtain ⟨v0, v1, v2, v3, v4, v5⟩ := HP.out.kept0 kn.out
         try (have hn9 := (two_newD W 26).kept0 hk3; obtain ⟨a0, a1, a2, a3⟩ := hn9))
      | (go_at_call 31
         refine (HA.out _).mono ?_
         rintro e w4 ⟨rfl, hk4⟩
         have kn4 : Hid (Kept0 W w4) := (by first | exact kn.out.trans hk4 | exact (kn.out.alloc _).trans hk4)
         have m3 : ¬ w.heap.size = w4.heap.size := (by have := kn4.out.size; omega)
         have m4 : ¬ w4.heap.size = w.heap.size := (by have := kn4.out.size; omega)
         obtain ⟨v0, v1, v2, v3, v4, v5⟩ := HP.out.kept0 kn4.out
         try (have hn8 := (two_newN w3 26).kept0 hk4; obtain ⟨a0, a1, a2, a3⟩ := hn8)
         try (have hn7 := (Two.mk a0 a1 a2 a3).kept0 hk4; obtain ⟨a0, a1, a2, a3⟩ := hn7)))
  all_goals
    first
      | (obtain ⟨b9, hb9⟩ : ∃ b9, b9 = w4.heap.size := ⟨_, rfl⟩
         obtain ⟨W9, hW9⟩ : ∃ W9, W9 = w4.alloc (.cells #[.int .i64 p, .int .i64 q] 26) := ⟨_, rfl⟩
         rw [← hW9, ← hb9]
         have hT : Two W9 b9 p q := by rw [hW9, hb9]; exact Two.of (heap_new w4 _)
         have k9 : Kept0 W W9 := by rw [hW9]; exact kn4.out.alloc _
         have hle9 : W.heap.size ≤ b9 := by rw [hb9]; exact kn4.out.size
         clear hW9 hb9)
      | (obtain ⟨b9, hb9⟩ : ∃ b9, b9 = w3.heap.size := ⟨_, rfl⟩
         obtain ⟨W9, hW9⟩ : ∃ W9, W9 = (w4.setCell ⟨w3.heap.size, 0, none⟩ (.int .i64 p)).setCell ⟨w3.heap.size, 1, none⟩ (.int .i64 q) := ⟨_, rfl⟩
         rw [← hW9, ← hb9]
         have hT : Two W9 b9 p q := by rw [hW9, hb9]; exact Two.set ⟨a0, a1, a2, a3⟩ p q
         have k9 : Kept0 W W9 := by rw [hW9]; exact ((kn4.out.setCell _ (Or.inl kn.out.size) _).setCell _ (Or.inl kn.out.size) _)
         have hle9 : W.heap.size ≤ b9 := by rw [hb9]; exact kn.out.size
         clear hW9 hb9)
      | (obtain ⟨b9, hb9⟩ : ∃ b9, b9 = W.heap.size := ⟨_, rfl⟩
         obtain ⟨W9, hW9⟩ : ∃ W9, W9 = (w4.setCell ⟨W.heap.size, 0, none⟩ (.int .i64 p)).setCell ⟨W.heap.size, 1, none⟩ (.int .i64 q) := ⟨_, rfl⟩
         rw [← hW9, ← hb9]
         have hT : Two W9 b9 p q := by rw [hW9, hb9]; exact Two.set ⟨a0, a1, a2, a3⟩ p q
         have k9 : Kept0 W W9 := by rw [hW9]; exact ((kn4.out.setCell _ (Or.inl (Nat.le_refl _)) _).setCell _ (Or.inl (Nat.le_refl _)) _)
         have hle9 : W.heap.size ≤ b9 := by rw [hb9]; exact Nat.le_refl _
         clear hW9 hb9)
    clear hk3 hk4 kn kn4 HS p0 p1 p9 p3 p4 p5 v0 v1 v2 v3 v4 v5 m1 m2 m3 m4 n1 n2 HP HA
    try clear a0 a1 a2 a3
    have HG9 : Hid (GridAt W9 g t cap R C f) := HGW.out.kept k9 (fun e => e) (fun e => e)
    have hX9 := HX.out.kept k9 (fun e => e)
    have hB9 := HBL.out.kept k9 (fun e => e)
    have hO9 := HOO.out.kept0 k9
    have K9 : Hid (Kept0 w W9) := KK.out.trans k9
    have hl9 : b9 < W9.heap.size := hT.lt
    clear HGW HX HBL HOO KK k9
    obtain ⟨d0, d1, d2, d3⟩ := hB9
    go_wp2_with fail
    refine (HL1.out _ HG9.out).mono ?_
    rintro e w5 ⟨rfl, hG5, hk5⟩
    have hT5 := hT.kept hk5 (by omega)
    have hX5 := hX9.kept hk5 (by omega)
    have hB5 : Hid (CelAt w5 (w.heap.size + 1 + 1) bl) := CelAt.kept ⟨d0, d1, d2, d3⟩ hk5 (by omega)
    have hO5 := Lib.hid (hO9.kept hk5 (by omega))
    have HG5 := Lib.hid hG5
    have K5 : Hid (Kept (· = t) w w5) := K9.out.to.trans hk5
    clear hT hX9 d0 d1 d2 d3 hO9 K9 hG5 hk5 HG9 HL1
    have HT5 := Lib.hid hT5
    obtain ⟨t0, t1, t2, t3⟩ := hT5
    have HX5 := Lib.hid hX5
    obtain ⟨x0, x1, x2, x3⟩ := hX5
    go_wp2_with fail
    refine (HST.out _ HG5.out).mono ?_
    rintro e w6 ⟨rfl, hG6, hk6⟩
    have hT6 := HT5.out.kept hk6 (by omega)
    have hB6 := Lib.hid (hB5.out.kept hk6 (by omega))
    have hO6 := Lib.hid (hO5.out.kept hk6 (by omega))
    have HG6 := Lib.hid hG6
    have K6 : Hid (Kept (· = t) w w6) := K5.out.trans hk6
    clear HT5 HX5 hB5 hO5 HG5 K5 hG6 hk6 HST x0 x1 x2 x3 t0 t1 t2 t3
    have HT6 := Lib.hid hT6
    have lt6 := hT6.lt
    obtain ⟨t0, t1, t2, t3⟩ := hT6
    have n1 : ¬ b9 = w6.heap.size := by omega
    have n2 : ¬ w6.heap.size = b9 := by omega
    have HS : Hid (∀ w', Kept0 w6 w' → Calls Try.prog 30 #[.pointer (some ⟨g, 0, none⟩)] w' fun e w'' => e = .returned (pos R C) ∧ Kept0 w' w'') := fun w' k => size_any g R C w' (kcell k HG6.out.c0) (kcell k HG6.out.c1)
    go_wp2_with fail
    go_region_held3 (fun w' => w'.cell? ⟨b9, 0, none⟩ = some (.int .i64 p) ∧ w'.cell? ⟨b9, 1, none⟩ = some (.int .i64 q)) (go_keep)
      (first
        | (go_at_call 30
           refine (HS.out _ (by first | exact (Kept.refl _ w6).drew | exact ((Kept.refl _ w6).alloc _).drew)).mono ?_
           rintro e z3 ⟨rfl, hk3⟩
           have kz : Hid (Kept0 w6 z3) := (by first | exact (Kept.refl _ w6).drew.trans hk3 | exact ((Kept.refl _ w6).alloc _).drew.trans hk3)
           have m1 : ¬ b9 = z3.heap.size := (by have := kz.out.size; omega)
           have m2 : ¬ z3.heap.size = b9 := (by have := kz.out.size; omega)
           obtain ⟨v0, v1, v2, v3⟩ := HT6.out.kept0 kz.out
           try (have hn9 := (three_newD w6 39).kept0 hk3; obtain ⟨a0, a1, a2, a3, a4, a5⟩ := hn9))
        | (go_at_call 37
           refine (HB.out _).mono ?_
           rintro e z4 ⟨rfl, hk4⟩
           have kz4 : Hid (Kept0 w6 z4) := (by first | exact kz.out.trans hk4 | exact (kz.out.alloc _).trans hk4)
           have m3 : ¬ b9 = z4.heap.size := (by have := kz4.out.size; omega)
           have m4 : ¬ z4.heap.size = b9 := (by have := kz4.out.size; omega)
           obtain ⟨v0, v1, v2, v3⟩ := HT6.out.kept0 kz4.out
           try (have hn8 := (three_newN z3 39).kept0 hk4; obtain ⟨a0, a1, a2, a3, a4, a5⟩ := hn8)
           try (have hn7 := (Three.mk a0 a1 a2 a3 a4 a5).kept0 hk4; obtain ⟨a0, a1, a2, a3, a4, a5⟩ := hn7)))
    all_goals
      first
        | (obtain ⟨b8, hb9⟩ : ∃ b8, b8 = z4.heap.size := ⟨_, rfl⟩
           obtain ⟨W8, hW9⟩ : ∃ W8, W8 = z4.alloc (.cells #[.int .i64 p2, .int .i64 q2, .bool vv] 39) := ⟨_, rfl⟩
           rw [← hW9, ← hb9]
           have hT8 : Three W8 b8 p2 q2 vv := by rw [hW9, hb9]; exact Three.of (heap_new z4 _)
           have k8 : Kept0 w6 W8 := by rw [hW9]; exact kz4.out.alloc _
           have hle9 : w6.heap.size ≤ b8 := by rw [hb9]; exact kz4.out.size
           clear hW9 hb9)
        | (obtain ⟨b8, hb9⟩ : ∃ b8, b8 = z3.heap.size := ⟨_, rfl⟩
           obtain ⟨W8, hW9⟩ : ∃ W8, W8 = ((z4.setCell ⟨z3.heap.size, 0, none⟩ (.int .i64 p2)).setCell ⟨z3.heap.size, 1, none⟩ (.int .i64 q2)).setCell ⟨z3.heap.size, 2, none⟩ (.bool vv) := ⟨_, rfl⟩
           rw [← hW9, ← hb9]
           have hT8 : Three W8 b8 p2 q2 vv := by rw [hW9, hb9]; exact Three.set ⟨a0, a1, a2, a3, a4, a5⟩ p2 q2 vv
           have k8 : Kept0 w6 W8 := by rw [hW9]; exact (((kz4.out.setCell _ (Or.inl kz.out.size) _).setCell _ (Or.inl kz.out.size) _).setCell _ (Or.inl kz.out.size) _)
           have hle9 : w6.heap.size ≤ b8 := by rw [hb9]; exact kz.out.size
           clear hW9 hb9)
        | (obtain ⟨b8, hb9⟩ : ∃ b8, b8 = w6.heap.size := ⟨_, rfl⟩
           obtain ⟨W8, hW9⟩ : ∃ W8, W8 = ((z4.setCell ⟨w6.heap.size, 0, none⟩ (.int .i64 p2)).setCell ⟨w6.heap.size, 1, none⟩ (.int .i64 q2)).setCell ⟨w6.heap.size, 2, none⟩ (.bool vv) := ⟨_, rfl⟩
           rw [← hW9, ← hb9]
           have hT8 : Three W8 b8 p2 q2 vv := by rw [hW9, hb9]; exact Three.set ⟨a0, a1, a2, a3, a4, a5⟩ p2 q2 vv
           have k8 : Kept0 w6 W8 := by rw [hW9]; exact (((kz4.out.setCell _ (Or.inl (Nat.le_refl _)) _).setCell _ (Or.inl (Nat.le_refl _)) _).setCell _ (Or.inl (Nat.le_refl _)) _)
           have hle9 : w6.heap.size ≤ b8 := by rw [hb9]; exact Nat.le_refl _
           clear hW9 hb9)
      clear hk3 hk4 kz kz4 HS t0 t1 t2 t3 v0 v1 v2 v3 m1 m2 m3 m4 n1 n2 HT6 HB
      try clear a0 a1 a2 a3 a4 a5
      have HG8 : Hid (GridAt W8 g t cap R C f2) := HG6.out.kept k8 (fun e => e) (fun e => e)
      have hB8 := hB6.out.kept k8 (fun e => e)
      have hO8 := Lib.hid (hO6.out.kept0 k8)
      have K8 : Hid (Kept (· = t) w W8) := K6.out.trans k8.to
      have hl8 : b8 < W8.heap.size := hT8.lt
      clear HG6 hB6 hO6 K6 k8
      obtain ⟨d0, d1, d2, d3⟩ := hB8
      go_wp2_with fail
      refine (HL2.out _ HG8.out).mono ?_
      rintro e w7 ⟨rfl, hG7, hk7⟩
      have hT7 := hT8.kept hk7 (by omega)
      have hO7 := hO8.out.kept hk7 (by omega)
      have K7 : Hid (Kept (· = t) w w7) := K8.out.trans hk7
      clear hT8 hO8 K8 hk7 HL2 HG8 d0 d1 d2 d3
      have l7 := hT7.lt
      have l6 := hO7.lt
      obtain ⟨t0, t1, t2, t3, t4, t5⟩ := hT7
      obtain ⟨o0, o1, o2, o3, o4, o5⟩ := hO7
      go_wp2_with fail
      have q3 : w.heap.size ≤ w.heap.size + 1 + 1 + 1 := by omega
      have hne : ¬ w.heap.size + 1 + 1 + 1 = t := by omega
      have kend : Kept (· = w.heap.size + 1 + 1 + 1) w7 _ := (((Kept.refl (· = w.heap.size + 1 + 1 + 1) w7).setCell ⟨w.heap.size + 1 + 1 + 1, 0, none⟩ (Or.inr rfl) (.int .i64 p2)).setCell ⟨w.heap.size + 1 + 1 + 1, 1, none⟩ (Or.inr rfl) (.int .i64 q2)).setCell ⟨w.heap.size + 1 + 1 + 1, 2, none⟩ (Or.inr rfl) (.bool vv)
      exact bodyPost_ret (v := .tuple #[place p2 q2 vv, .int .i64 (m1n + m2n), .int .i64 0]) (by simp [results, Try.results15, go_sem, o0, o1, o2]) rfl ⟨rfl, hG7.kept kend (by have := hG7.lt; omega) (by omega), ((K7.out.setCell _ (Or.inl q3) _).setCell _ (Or.inl q3) _).setCell _ (Or.inl q3) _⟩

theorem put_any (g t cap R C : Nat) (f : Nat → Cel) (r c k : Int) (b : Bool) (x bl : Cel) (w : World) (hg : GridAt w g t cap R C f) :
    Calls Try.prog 15 #[.pointer (some ⟨g, 0, none⟩), place r c b, x.v, .int .i64 k, bl.v] w fun e w' => e = .returned (.tuple #[place (putR R C r c b k) (putC C c b k) (putP C c b k), .int .i64 (putN R C r c b k), .int .i64 0]) ∧ GridAt w' g t cap R C (putF R C f r c b x k bl) ∧ Kept (· = t) w w' := by
  have hth : There R C (aR R r b) (aC C c b) := a_there hg.R1 hg.C1
  refine put_core g t cap R C f _ _ _ r c _ _ _ _ k _ _ b _ _ _ x bl w hg (fun w' => ahead_any' R C r c b w' hg.R1 hg.R2 hg.C1 hg.C2) (fun w' => behind_any' R C _ _ k w' hg.R1 hg.R2 hg.C1 hg.C2 hth)
    (fun w' h => lift_any g t cap R C f _ bl w' h) (fun w' h => set_in g t cap R C _ _ _ x w' h hth) (fun w' h => lift_any g t cap R C _ _ bl w' h) ?_
  have h1 := liftN_in (aU R r b)
  have h2 := liftN_in (bU R C (aR R r b) (aC C c b) k)
  exact IntWalk.i64_in _ ⟨by omega, by omega⟩

set_option maxHeartbeats 400000 in
theorem put_nil (r c k : Int) (b : Bool) (x bl : Cel) (w : World) :
    Calls Try.prog 15 #[.pointer none, place r c b, x.v, .int .i64 k, bl.v] w fun e w' => e = .returned (.tuple #[place 0 0 false, .int .i64 0, .int .i64 2]) ∧ Kept0 w w' := by
  go_enter Try.func15, Try.ntmps15
  go_wp2_with fail
  exact bodyPost_ret (v := .tuple #[place 0 0 false, .int .i64 0, .int .i64 2]) (by simp [results, Try.results15, go_sem]) rfl ⟨rfl, ((((Kept.refl _ w).alloc _).alloc _).alloc _).alloc _⟩

end Go.Proofs.Ytkdnjkcebfckiaa
