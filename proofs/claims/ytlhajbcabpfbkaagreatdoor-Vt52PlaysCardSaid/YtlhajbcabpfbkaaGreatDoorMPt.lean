/-
  Texts merged: Put Guard.
-/
import Derived.Test.YtlhajbcabpfbkaaGreatDoorMFr
/-
  What Put does.
-/
namespace Go.Proofs.YtlhajbcabpfbkaaGreatDoor
open Go.RowKit

theorem three_newD (w : World) (t : TypeId) : Three (w.alloc (.cells #[.int .i64 0, .int .i64 0, .bool false] t)).drew w.heap.size 0 0 false := (Three.of (heap_new w _)).kept0 (Kept.drew (Kept.refl _ _))
theorem two_newN (w : World) (t : TypeId) : Two (w.alloc (.cells #[.int .i64 0, .int .i64 0] t)) w.heap.size 0 0 := Two.of (heap_new w _)
theorem three_newN (w : World) (t : TypeId) : Three (w.alloc (.cells #[.int .i64 0, .int .i64 0, .bool false] t)) w.heap.size 0 0 false := Three.of (heap_new w _)

theorem Three.set {w : World} {b : Nat} {x y : Int} {v : Bool} (h : Three w b x y v) (x' y' : Int) (v' : Bool) : Three (((w.setCell ⟨b, 0, none⟩ (.int .i64 x')).setCell ⟨b, 1, none⟩ (.int .i64 y')).setCell ⟨b, 2, none⟩ (.bool v')) b x' y' v' :=
  ⟨by simp [go_sem, h.c0], by simp [go_sem, h.c1], by simp [go_sem, h.c2], by simp [go_sem, h.f0], by simp [go_sem, h.f1], by simp [go_sem, h.f2]⟩

set_option maxHeartbeats 4000000 in
theorem put_core (g t cap R C : Nat) (f f1 f2 f3 : Nat → Cel) (r c p q p2 q2 k m1n m2n : Int) (b vv u1 u2 : Bool) (x bl : Cel) (w : World) (hg : GridAt w g t cap R C f)
    (hA : ∀ w', Calls Tryz.prog 115 #[pos R C, place r c b] w' fun e w'' => e = .returned (.tuple #[pos p q, .bool u1]) ∧ Kept0 w' w'')
    (hB : ∀ w', Calls Tryz.prog 117 #[pos R C, pos p q, .int .i64 k] w' fun e w'' => e = .returned (.tuple #[place p2 q2 vv, .bool u2]) ∧ Kept0 w' w'')
    (hL1 : ∀ w', GridAt w' g t cap R C f → Calls Tryz.prog 116 #[.pointer (some ⟨g, 0, none⟩), .bool u1, bl.v] w' fun e w'' => e = .returned (.int .i64 m1n) ∧ GridAt w'' g t cap R C f1 ∧ Kept (· = t) w' w'')
    (hST : ∀ w', GridAt w' g t cap R C f1 → Calls Tryz.prog 90 #[.pointer (some ⟨g, 0, none⟩), pos p q, x.v] w' fun e w'' => e = .returned (.int .i64 0) ∧ GridAt w'' g t cap R C f2 ∧ Kept (· = t) w' w'')
    (hL2 : ∀ w', GridAt w' g t cap R C f2 → Calls Tryz.prog 116 #[.pointer (some ⟨g, 0, none⟩), .bool u2, bl.v] w' fun e w'' => e = .returned (.int .i64 m2n) ∧ GridAt w'' g t cap R C f3 ∧ Kept (· = t) w' w'')
    (hn : IntKind.i64.wrap (m1n + m2n) = m1n + m2n) :
    Calls Tryz.prog 109 #[.pointer (some ⟨g, 0, none⟩), place r c b, x.v, .int .i64 k, bl.v] w fun e w' => e = .returned (.tuple #[place p2 q2 vv, .int .i64 (m1n + m2n), .int .i64 0]) ∧ GridAt w' g t cap R C f3 ∧ Kept (· = t) w w' := by
  have HA := Lib.hid hA
  have HB := Lib.hid hB
  have HL1 := Lib.hid hL1
  have HST := Lib.hid hST
  have HL2 := Lib.hid hL2
  have htl := hg.row.lt
  have hgl := hg.lt
  have HG := Lib.hid hg
  clear hA hB hL1 hST hL2 hg
  go_enter Tryz.func109, Tryz.ntmps109
  go_wp2_with fail
  obtain ⟨W, hW⟩ : ∃ W, W = (((w.alloc (.cells #[.int .i64 r, .int .i64 c, .bool b] 85)).alloc (.cells #[.int .i32 x.g, .int .i64 x.a, .bool x.b, .int .i64 x.m] 52)).alloc (.cells #[.int .i32 bl.g, .int .i64 bl.a, .bool bl.b, .int .i64 bl.m] 52)).alloc (.cells #[.int .i64 0, .int .i64 0, .bool false] 85) := ⟨_, rfl⟩
  have k0 : Kept0 w W := by rw [hW]; exact ((((Kept.refl _ w).alloc _).alloc _).alloc _).alloc _
  have hp : Three W w.heap.size r c b := by rw [hW]; exact Three.of (heap_old _ _ (heap_old _ _ (heap_old _ _ (heap_new _ _))))
  have hx : CelAt W (w.heap.size + 1) x := by rw [hW]; constructor <;> simp [go_sem]
  have hbl : CelAt W (w.heap.size + 1 + 1) bl := by rw [hW]; constructor <;> simp [go_sem]
  have ho : Three W (w.heap.size + 1 + 1 + 1) 0 0 false := by rw [hW]; exact Three.of (by have := heap_newC (w.alloc (.cells #[.int .i64 r, .int .i64 c, .bool b] 85)) (.cells #[.int .i32 x.g, .int .i64 x.a, .bool x.b, .int .i64 x.m] 52) (.cells #[.int .i32 bl.g, .int .i64 bl.a, .bool bl.b, .int .i64 bl.m] 52) (.cells #[.int .i64 0, .int .i64 0, .bool false] 85); rwa [World.size_alloc] at this)
  rw [← hW]
  clear hW
  have HGW : Hid (GridAt W g t cap R C f) := HG.out.kept k0 (fun e => e) (fun e => e)
  clear HG
  have KK : Hid (Kept0 w W) := k0
  have HS : Hid (∀ w', Kept0 W w' → Calls Tryz.prog 56 #[.pointer (some ⟨g, 0, none⟩)] w' fun e w'' => e = .returned (pos R C) ∧ Kept0 w' w'') := fun w' k => size_any g R C w' (kcell k HGW.out.c0) (kcell k HGW.out.c1)
  have HP := Lib.hid hp
  have HX := Lib.hid hx
  have HBL := Lib.hid hbl
  have HOO := Lib.hid ho
  have lo := ho.lt
  clear k0 hx hbl ho
  obtain ⟨p0, p1, p9, p3, p4, p5⟩ := hp
  have n1 : ¬ w.heap.size = W.heap.size := by omega
  have n2 : ¬ W.heap.size = w.heap.size := by omega
  go_wp2_with fail
  go_region_held3 (fun w' => w'.cell? ⟨w.heap.size, 0, none⟩ = some (.int .i64 r) ∧ w'.cell? ⟨w.heap.size, 1, none⟩ = some (.int .i64 c) ∧ w'.cell? ⟨w.heap.size, 2, none⟩ = some (.bool b)) (go_keep)
    (first
      | (go_at_call 56
         refine (HS.out _ (by first | exact (Kept.refl _ W).drew | exact ((Kept.refl _ W).alloc _).drew)).mono ?_
         rintro e w3 ⟨rfl, hk3⟩
         have kn : Hid (Kept0 W w3) := (by first | exact (Kept.refl _ W).drew.trans hk3 | exact ((Kept.refl _ W).alloc _).drew.trans hk3)
         have m1 : ¬ w.heap.size = w3.heap.size := (by have := kn.out.size; omega)
         have m2 : ¬ w3.heap.size = w.heap.size := (by have := kn.out.size; omega)
         obtain ⟨v0, v1, v2, v3, v4, v5⟩ := HP.out.kept0 kn.out
         try (have hn9 := (two_newD W 45).kept0 hk3; obtain ⟨a0, a1, a2, a3⟩ := hn9))
      | (go_at_call 115
         refine (HA.out _).mono ?_
         rintro e w4 ⟨rfl, hk4⟩
         have kn4 : Hid (Kept0 W w4) := (by first | exact kn.out.trans hk4 | exact (kn.out.alloc _).trans hk4)
         have m3 : ¬ w.heap.size = w4.heap.size := (by have := kn4.out.size; omega)
         have m4 : ¬ w4.heap.size = w.heap.size := (by have := kn4.out.size; omega)
         obtain ⟨v0, v1, v2, v3, v4, v5⟩ := HP.out.kept0 kn4.out
         try (have hn8 := (two_newN w3 45).kept0 hk4; obtain ⟨a0, a1, a2, a3⟩ := hn8)
         try (have hn7 := (Two.mk a0 a1 a2 a3).kept0 hk4; obtain ⟨a0, a1, a2, a3⟩ := hn7)))
  all_goals
    first
      | (obtain ⟨b9, hb9⟩ : ∃ b9, b9 = w4.heap.size := ⟨_, rfl⟩
         obtain ⟨W9, hW9⟩ : ∃ W9, W9 = w4.alloc (.cells #[.int .i64 p, .int .i64 q] 45) := ⟨_, rfl⟩
         rw [← hW9, ← hb9]
         have hT : Two W9 b9 p q := by rw [hW9, hb9]; exact Two.of (heap_new w4 _)
         have k9 : Kept0 W W9 := by rw [hW9]; exact kn4.out.alloc _
         have hle9 : W.heap.size ≤ b9 := by rw [hb9]; exact kn4.out.size
         clear hW9 hb9)
      | (obtain ⟨b9, hb9⟩ : ∃ b9, b9 = w3.heap.size := ⟨_, rfl⟩
         obtain ⟨W9, hW9⟩ : ∃ W9, W9 = (w4.setCell ⟨w3.heap.size, 0, none⟩ (.int .i64 p)).setCell ⟨w3.heap.size, 1, none⟩ (.int .i64 q) := ⟨_, rfl⟩
         rw [← hW9, ← hb9]
         have hT : Two W9 b9 p q := by rw [hW9, hb9]; exact Two.set ⟨a0, a1, a2, a3⟩ p q
         have k9 : Kept0 W W9 := by rw [hW9]; exact ((kn4.out.setCell _ (Or.inl kn.out.size) _).setCell _ (Or.inl kn.out.size) _)
         have hle9 : W.heap.size ≤ b9 := by rw [hb9]; exact kn.out.size
         clear hW9 hb9)
      | (obtain ⟨b9, hb9⟩ : ∃ b9, b9 = W.heap.size := ⟨_, rfl⟩
         obtain ⟨W9, hW9⟩ : ∃ W9, W9 = (w4.setCell ⟨W.heap.size, 0, none⟩ (.int .i64 p)).setCell ⟨W.heap.size, 1, none⟩ (.int .i64 q) := ⟨_, rfl⟩
         rw [← hW9, ← hb9]
         have hT : Two W9 b9 p q := by rw [hW9, hb9]; exact Two.set ⟨a0, a1, a2, a3⟩ p q
         have k9 : Kept0 W W9 := by rw [hW9]; exact ((kn4.out.setCell _ (Or.inl (Nat.le_refl _)) _).setCell _ (Or.inl (Nat.le_refl _)) _)
         have hle9 : W.heap.size ≤ b9 := by rw [hb9]; exact Nat.le_refl _
         clear hW9 hb9)
    clear hk3 hk4 kn kn4 HS p0 p1 p9 p3 p4 p5 v0 v1 v2 v3 v4 v5 m1 m2 m3 m4 n1 n2 HP HA
    try clear a0 a1 a2 a3
    have HG9 : Hid (GridAt W9 g t cap R C f) := HGW.out.kept k9 (fun e => e) (fun e => e)
    have hX9 := HX.out.kept k9 (fun e => e)
    have hB9 := HBL.out.kept k9 (fun e => e)
    have hO9 := HOO.out.kept0 k9
    have K9 : Hid (Kept0 w W9) := KK.out.trans k9
    have hl9 : b9 < W9.heap.size := hT.lt
    clear HGW HX HBL HOO KK k9
    obtain ⟨d0, d1, d2, d3⟩ := hB9
    go_wp2_with fail
    refine (HL1.out _ HG9.out).mono ?_
    rintro e w5 ⟨rfl, hG5, hk5⟩
    have hT5 := hT.kept hk5 (by omega)
    have hX5 := hX9.kept hk5 (by omega)
    have hB5 : Hid (CelAt w5 (w.heap.size + 1 + 1) bl) := CelAt.kept ⟨d0, d1, d2, d3⟩ hk5 (by omega)
    have hO5 := Lib.hid (hO9.kept hk5 (by omega))
    have HG5 := Lib.hid hG5
    have K5 : Hid (Kept (· = t) w w5) := K9.out.to.trans hk5
    clear hT hX9 d0 d1 d2 d3 hO9 K9 hG5 hk5 HG9 HL1
    have HT5 := Lib.hid hT5
    obtain ⟨t0, t1, t2, t3⟩ := hT5
    have HX5 := Lib.hid hX5
    obtain ⟨x0, x1, x2, x3⟩ := hX5
    go_wp2_with fail
    refine (HST.out _ HG5.out).mono ?_
    rintro e w6 ⟨rfl, hG6, hk6⟩
    have hT6 := HT5.out.kept hk6 (by omega)
    have hB6 := Lib.hid (hB5.out.kept hk6 (by omega))
    have hO6 := Lib.hid (hO5.out.kept hk6 (by omega))
    have HG6 := Lib.hid hG6
    have K6 : Hid (Kept (· = t) w w6) := K5.out.trans hk6
    clear HT5 HX5 hB5 hO5 HG5 K5 hG6 hk6 HST x0 x1 x2 x3 t0 t1 t2 t3
    have HT6 := Lib.hid hT6
    have lt6 := hT6.lt
    obtain ⟨t0, t1, t2, t3⟩ := hT6
    have n1 : ¬ b9 = w6.heap.size := by omega
    have n2 : ¬ w6.heap.size = b9 := by omega
    have HS : Hid (∀ w', Kept0 w6 w' → Calls Tryz.prog 56 #[.pointer (some ⟨g, 0, none⟩)] w' fun e w'' => e = .returned (pos R C) ∧ Kept0 w' w'') := fun w' k => size_any g R C w' (kcell k HG6.out.c0) (kcell k HG6.out.c1)
    go_wp2_with fail
    go_region_held3 (fun w' => w'.cell? ⟨b9, 0, none⟩ = some (.int .i64 p) ∧ w'.cell? ⟨b9, 1, none⟩ = some (.int .i64 q)) (go_keep)
      (first
        | (go_at_call 56
           refine (HS.out _ (by first | exact (Kept.refl _ w6).drew | exact ((Kept.refl _ w6).alloc _).drew)).mono ?_
           rintro e z3 ⟨rfl, hk3⟩
           have kz : Hid (Kept0 w6 z3) := (by first | exact (Kept.refl _ w6).drew.trans hk3 | exact ((Kept.refl _ w6).alloc _).drew.trans hk3)
           have m1 : ¬ b9 = z3.heap.size := (by have := kz.out.size; omega)
           have m2 : ¬ z3.heap.size = b9 := (by have := kz.out.size; omega)
           obtain ⟨v0, v1, v2, v3⟩ := HT6.out.kept0 kz.out
           try (have hn9 := (three_newD w6 85).kept0 hk3; obtain ⟨a0, a1, a2, a3, a4, a5⟩ := hn9))
        | (go_at_call 117
           refine (HB.out _).mono ?_
           rintro e z4 ⟨rfl, hk4⟩
           have kz4 : Hid (Kept0 w6 z4) := (by first | exact kz.out.trans hk4 | exact (kz.out.alloc _).trans hk4)
           have m3 : ¬ b9 = z4.heap.size := (by have := kz4.out.size; omega)
           have m4 : ¬ z4.heap.size = b9 := (by have := kz4.out.size; omega)
           obtain ⟨v0, v1, v2, v3⟩ := HT6.out.kept0 kz4.out
           try (have hn8 := (three_newN z3 85).kept0 hk4; obtain ⟨a0, a1, a2, a3, a4, a5⟩ := hn8)
           try (have hn7 := (Three.mk a0 a1 a2 a3 a4 a5).kept0 hk4; obtain ⟨a0, a1, a2, a3, a4, a5⟩ := hn7)))
    all_goals
      first
        | (obtain ⟨b8, hb9⟩ : ∃ b8, b8 = z4.heap.size := ⟨_, rfl⟩
           obtain ⟨W8, hW9⟩ : ∃ W8, W8 = z4.alloc (.cells #[.int .i64 p2, .int .i64 q2, .bool vv] 85) := ⟨_, rfl⟩
           rw [← hW9, ← hb9]
           have hT8 : Three W8 b8 p2 q2 vv := by rw [hW9, hb9]; exact Three.of (heap_new z4 _)
           have k8 : Kept0 w6 W8 := by rw [hW9]; exact kz4.out.alloc _
           have hle9 : w6.heap.size ≤ b8 := by rw [hb9]; exact kz4.out.size
           clear hW9 hb9)
        | (obtain ⟨b8, hb9⟩ : ∃ b8, b8 = z3.heap.size := ⟨_, rfl⟩
           obtain ⟨W8, hW9⟩ : ∃ W8, W8 = ((z4.setCell ⟨z3.heap.size, 0, none⟩ (.int .i64 p2)).setCell ⟨z3.heap.size, 1, none⟩ (.int .i64 q2)).setCell ⟨z3.heap.size, 2, none⟩ (.bool vv) := ⟨_, rfl⟩
           rw [← hW9, ← hb9]
           have hT8 : Three W8 b8 p2 q2 vv := by rw [hW9, hb9]; exact Three.set ⟨a0, a1, a2, a3, a4, a5⟩ p2 q2 vv
           have k8 : Kept0 w6 W8 := by rw [hW9]; exact (((kz4.out.setCell _ (Or.inl kz.out.size) _).setCell _ (Or.inl kz.out.size) _).setCell _ (Or.inl kz.out.size) _)
           have hle9 : w6.heap.size ≤ b8 := by rw [hb9]; exact kz.out.size
           clear hW9 hb9)
        | (obtain ⟨b8, hb9⟩ : ∃ b8, b8 = w6.heap.size := ⟨_, rfl⟩
           obtain ⟨W8, hW9⟩ : ∃ W8, W8 = ((z4.setCell ⟨w6.heap.size, 0, none⟩ (.int .i64 p2)).setCell ⟨w6.heap.size, 1, none⟩ (.int .i64 q2)).setCell ⟨w6.heap.size, 2, none⟩ (.bool vv) := ⟨_, rfl⟩
           rw [← hW9, ← hb9]
           have hT8 : Three W8 b8 p2 q2 vv := by rw [hW9, hb9]; exact Three.set ⟨a0, a1, a2, a3, a4, a5⟩ p2 q2 vv
           have k8 : Kept0 w6 W8 := by rw [hW9]; exact (((kz4.out.setCell _ (Or.inl (Nat.le_refl _)) _).setCell _ (Or.inl (Nat.le_refl _)) _).setCell _ (Or.inl (Nat.le_refl _)) _)
           have hle9 : w6.heap.size ≤ b8 := by rw [hb9]; exact Nat.le_refl _
           clear hW9 hb9)
      clear hk3 hk4 kz kz4 HS t0 t1 t2 t3 v0 v1 v2 v3 m1 m2 m3 m4 n1 n2 HT6 HB
      try clear a0 a1 a2 a3 a4 a5
      have HG8 : Hid (GridAt W8 g t cap R C f2) := HG6.out.kept k8 (fun e => e) (fun e => e)
      have hB8 := hB6.out.kept k8 (fun e => e)
      have hO8 := Lib.hid (hO6.out.kept0 k8)
      have K8 : Hid (Kept (· = t) w W8) := K6.out.trans k8.to
      have hl8 : b8 < W8.heap.size := hT8.lt
      clear HG6 hB6 hO6 K6 k8
      obtain ⟨d0, d1, d2, d3⟩ := hB8
      go_wp2_with fail
      refine (HL2.out _ HG8.out).mono ?_
      rintro e w7 ⟨rfl, hG7, hk7⟩
      have hT7 := hT8.kept hk7 (by omega)
      have hO7 := hO8.out.kept hk7 (by omega)
      have K7 : Hid (Kept (· = t) w w7) := K8.out.trans hk7
      clear hT8 hO8 K8 hk7 HL2 HG8 d0 d1 d2 d3
      have l7 := hT7.lt
      have l6 := hO7.lt
      obtain ⟨t0, t1, t2, t3, t4, t5⟩ := hT7
      obtain ⟨o0, o1, o2, o3, o4, o5⟩ := hO7
      go_wp2_with fail
      have q3 : w.heap.size ≤ w.heap.size + 1 + 1 + 1 := by omega
      have hne : ¬ w.heap.size + 1 + 1 + 1 = t := by omega
      have kend : Kept (· = w.heap.size + 1 + 1 + 1) w7 _ := (((Kept.refl (· = w.heap.size + 1 + 1 + 1) w7).setCell ⟨w.heap.size + 1 + 1 + 1, 0, none⟩ (Or.inr rfl) (.int .i64 p2)).setCell ⟨w.heap.size + 1 + 1 + 1, 1, none⟩ (Or.inr rfl) (.int .i64 q2)).setCell ⟨w.heap.size + 1 + 1 + 1, 2, none⟩ (Or.inr rfl) (.bool vv)
      exact bodyPost_ret (v := .tuple #[place p2 q2 vv, .int .i64 (m1n + m2n), .int .i64 0]) (by simp [results, Tryz.results109, go_sem, o0, o1, o2]) rfl ⟨rfl, hG7.kept kend (by have := hG7.lt; omega) (by omega), ((K7.out.setCell _ (Or.inl q3) _).setCell _ (Or.inl q3) _).setCell _ (Or.inl q3) _⟩

theorem put_any (g t cap R C : Nat) (f : Nat → Cel) (r c k : Int) (b : Bool) (x bl : Cel) (w : World) (hg : GridAt w g t cap R C f) :
    Calls Tryz.prog 109 #[.pointer (some ⟨g, 0, none⟩), place r c b, x.v, .int .i64 k, bl.v] w fun e w' => e = .returned (.tuple #[place (putR R C r c b k) (putC C c b k) (putP C c b k), .int .i64 (putN R C r c b k), .int .i64 0]) ∧ GridAt w' g t cap R C (putF R C f r c b x k bl) ∧ Kept (· = t) w w' := by
  have hth : There R C (aR R r b) (aC C c b) := a_there hg.R1 hg.C1
  refine put_core g t cap R C f _ _ _ r c _ _ _ _ k _ _ b _ _ _ x bl w hg (fun w' => ahead_any' R C r c b w' hg.R1 hg.R2 hg.C1 hg.C2) (fun w' => behind_any' R C _ _ k w' hg.R1 hg.R2 hg.C1 hg.C2 hth)
    (fun w' h => lift_any g t cap R C f _ bl w' h) (fun w' h => set_in g t cap R C _ _ _ x w' h hth) (fun w' h => lift_any g t cap R C _ _ bl w' h) ?_
  have h1 := liftN_in (aU R r b)
  have h2 := liftN_in (bU R C (aR R r b) (aC C c b) k)
  exact IntWalk.i64_in _ ⟨by omega, by omega⟩

set_option maxHeartbeats 400000 in
theorem put_nil (r c k : Int) (b : Bool) (x bl : Cel) (w : World) :
    Calls Tryz.prog 109 #[.pointer none, place r c b, x.v, .int .i64 k, bl.v] w fun e w' => e = .returned (.tuple #[place 0 0 false, .int .i64 0, .int .i64 2]) ∧ Kept0 w w' := by
  go_enter Tryz.func109, Tryz.ntmps109
  go_wp2_with fail
  exact bodyPost_ret (v := .tuple #[place 0 0 false, .int .i64 0, .int .i64 2]) (by simp [results, Tryz.results109, go_sem]) rfl ⟨rfl, ((((Kept.refl _ w).alloc _).alloc _).alloc _).alloc _⟩

end Go.Proofs.YtlhajbcabpfbkaaGreatDoor

/-
  What Guard does.
-/
namespace Go.Proofs.YtlhajbcabpfbkaaGreatDoor
open Go.RowKit

set_option maxHeartbeats 400000 in
theorem guard_nil (r c : Int) (b : Bool) (x : Cel) (w : World) :
    Calls Tryz.prog 110 #[.pointer none, place r c b, x.v] w fun e w' => e = .returned (.tuple #[place 0 0 false, .int .i64 2]) ∧ Kept0 w w' := by
  go_enter Tryz.func110, Tryz.ntmps110
  go_wp2_with fail
  exact bodyPost_ret (v := .tuple #[place 0 0 false, .int .i64 2]) (by simp [results, Tryz.results110, go_sem]) rfl ⟨rfl, (((Kept.refl _ w).alloc _).alloc _).alloc _⟩

set_option maxHeartbeats 1000000 in
theorem guard_none (g t cap R C : Nat) (f : Nat → Cel) (r c p q : Int) (b : Bool) (x : Cel) (w : World) (hg : GridAt w g t cap R C f)
    (hF : ∀ w', GridAt w' g t cap R C f → Calls Tryz.prog 118 #[.pointer (some ⟨g, 0, none⟩), pos r c] w' fun e w'' => e = .returned (.tuple #[pos p q, .bool false]) ∧ Kept0 w' w'') :
    Calls Tryz.prog 110 #[.pointer (some ⟨g, 0, none⟩), place r c b, x.v] w fun e w' => e = .returned (.tuple #[place 0 0 false, .int .i64 15]) ∧ Kept0 w w' := by
  have HF := Lib.hid hF
  have HG := Lib.hid hg
  clear hF hg
  go_enter Tryz.func110, Tryz.ntmps110
  go_wp2_with fail
  obtain ⟨W, hW⟩ : ∃ W, W = ((w.alloc (.cells #[.int .i64 r, .int .i64 c, .bool b] 85)).alloc (.cells #[.int .i32 x.g, .int .i64 x.a, .bool x.b, .int .i64 x.m] 52)).alloc (.cells #[.int .i64 0, .int .i64 0, .bool false] 85) := ⟨_, rfl⟩
  have k0 : Kept0 w W := by rw [hW]; exact (((Kept.refl _ w).alloc _).alloc _).alloc _
  have hp : Three W w.heap.size r c b := by rw [hW]; exact Three.of (heap_old _ _ (heap_old _ _ (heap_new _ _)))
  have hx : CelAt W (w.heap.size + 1) x := by rw [hW]; constructor <;> simp [go_sem]
  have ho : Three W (w.heap.size + 1 + 1) 0 0 false := by rw [hW]; exact Three.of (heap_newC _ _ _ _)
  rw [← hW]
  clear hW
  have HGW : Hid (GridAt W g t cap R C f) := HG.out.kept k0 (fun e => e) (fun e => e)
  clear HG
  have HP := Lib.hid hp
  obtain ⟨p0, p1, p9, p3, p4, p5⟩ := hp
  go_wp2_with fail
  refine (HF.out _ HGW.out).mono ?_
  rintro e w1 ⟨rfl, hk1⟩
  have HP1 := Lib.hid (HP.out.kept0 hk1)
  have hx1 := hx.kept hk1 (fun e => e)
  have ho1 := ho.kept0 hk1
  have HG1 : Hid (GridAt w1 g t cap R C f) := HGW.out.kept hk1 (fun e => e) (fun e => e)
  have K1 : Hid (Kept0 w w1) := k0.trans hk1
  have lo := ho1.lt
  clear HGW HP p0 p1 p9 p3 p4 p5 hx ho k0 hk1 HF
  obtain ⟨o0, o1, o2, o3, o4, o5⟩ := ho1
  go_wp2_with fail
  have q2 : w.heap.size ≤ w.heap.size + 1 + 1 := by omega
  exact bodyPost_ret (v := .tuple #[place 0 0 false, .int .i64 15]) (by simp [results, Tryz.results110, go_sem, *]) rfl ⟨rfl, (((K1.out.setCell _ (Or.inl q2) _).setCell _ (Or.inl q2) _).setCell _ (Or.inl q2) _).alloc _⟩

set_option maxHeartbeats 4000000 in
theorem guard_some (g t cap R C : Nat) (f f2 : Nat → Cel) (r c p q p3q q3q p4q q4q p5q q5q : Int) (b vv : Bool) (x : Cel) (w : World) (hg : GridAt w g t cap R C f)
    (hF : ∀ w', GridAt w' g t cap R C f → Calls Tryz.prog 118 #[.pointer (some ⟨g, 0, none⟩), pos r c] w' fun e w'' => e = .returned (.tuple #[pos p q, .bool true]) ∧ Kept0 w' w'')
    (hST : ∀ w', GridAt w' g t cap R C f → Calls Tryz.prog 90 #[.pointer (some ⟨g, 0, none⟩), pos p q, x.v] w' fun e w'' => e = .returned (.int .i64 0) ∧ GridAt w'' g t cap R C f2 ∧ Kept (· = t) w' w'')
    (hBS : ∀ w', Calls Tryz.prog 119 #[pos R C, pos p q, .int .i64 1] w' fun e w'' => e = .returned (pos p3q q3q) ∧ Kept0 w' w'')
    (hF2 : ∀ w', GridAt w' g t cap R C f2 → Calls Tryz.prog 118 #[.pointer (some ⟨g, 0, none⟩), pos p3q q3q] w' fun e w'' => e = .returned (.tuple #[pos p4q q4q, .bool vv]) ∧ Kept0 w' w'')
    (hNR : ∀ w', Calls Tryz.prog 38 #[pos R C, pos r c] w' fun e w'' => e = .returned (pos p5q q5q) ∧ Kept0 w' w'') :
    Calls Tryz.prog 110 #[.pointer (some ⟨g, 0, none⟩), place r c b, x.v] w fun e w' => e = .returned (.tuple #[place (if vv = true then p4q else p5q) (if vv = true then q4q else q5q) false, .int .i64 0]) ∧ GridAt w' g t cap R C f2 ∧ Kept (· = t) w w' := by
  have HF := Lib.hid hF
  have HG := Lib.hid hg
  have HST := Lib.hid hST
  have HBS := Lib.hid hBS
  have HF2 := Lib.hid hF2
  have HNR := Lib.hid hNR
  have htl := hg.row.lt
  have hgl := hg.lt
  clear hF hg hST hBS hF2 hNR
  go_enter Tryz.func110, Tryz.ntmps110
  go_wp2_with fail
  obtain ⟨W, hW⟩ : ∃ W, W = ((w.alloc (.cells #[.int .i64 r, .int .i64 c, .bool b] 85)).alloc (.cells #[.int .i32 x.g, .int .i64 x.a, .bool x.b, .int .i64 x.m] 52)).alloc (.cells #[.int .i64 0, .int .i64 0, .bool false] 85) := ⟨_, rfl⟩
  have k0 : Kept0 w W := by rw [hW]; exact (((Kept.refl _ w).alloc _).alloc _).alloc _
  have hp : Three W w.heap.size r c b := by rw [hW]; exact Three.of (heap_old _ _ (heap_old _ _ (heap_new _ _)))
  have hx : CelAt W (w.heap.size + 1) x := by rw [hW]; constructor <;> simp [go_sem]
  have ho : Three W (w.heap.size + 1 + 1) 0 0 false := by rw [hW]; exact Three.of (heap_newC _ _ _ _)
  rw [← hW]
  clear hW
  have HGW : Hid (GridAt W g t cap R C f) := HG.out.kept k0 (fun e => e) (fun e => e)
  clear HG
  have HP := Lib.hid hp
  obtain ⟨p0, p1, p9, p3, p4, p5⟩ := hp
  go_wp2_with fail
  refine (HF.out _ HGW.out).mono ?_
  rintro e w1 ⟨rfl, hk1⟩
  have HP1 := Lib.hid (HP.out.kept0 hk1)
  have hx1 := hx.kept hk1 (fun e => e)
  have ho1 := ho.kept0 hk1
  have HG1 : Hid (GridAt w1 g t cap R C f) := HGW.out.kept hk1 (fun e => e) (fun e => e)
  have K1 : Hid (Kept0 w w1) := k0.trans hk1
  have lo := ho1.lt
  clear HGW HP p0 p1 p9 p3 p4 p5 hx ho k0 hk1 HF
  obtain ⟨x0, x1, x2, x3⟩ := hx1
  have lx : w.heap.size + 1 < w1.heap.size := by omega
  have HO1 := Lib.hid ho1
  clear ho1
  go_wp2_with fail
  obtain ⟨b9, hb9⟩ : ∃ b9, b9 = w1.heap.size := ⟨_, rfl⟩
  obtain ⟨V, hV⟩ : ∃ V, V = w1.alloc (.cells #[.int .i64 p, .int .i64 q] 45) := ⟨_, rfl⟩
  have kV : Kept0 w1 V := by rw [hV]; exact (Kept.refl _ w1).alloc _
  have hT : Two V b9 p q := by rw [hV, hb9]; exact Two.of (heap_new w1 _)
  rw [← hV, ← hb9]
  have hle7 : w1.heap.size ≤ b9 := by omega
  clear hV hb9
  refine (HST.out _ (HG1.out.kept kV (fun e => e) (fun e => e))).mono ?_
  rintro e w6 ⟨rfl, hG6, hk6⟩
  have hT6 := hT.kept hk6 (by omega)
  have hO6 := Lib.hid ((HO1.out.kept0 kV).kept hk6 (by omega))
  have HP6 := Lib.hid ((HP1.out.kept0 kV).kept hk6 (by omega))
  have HG6 := Lib.hid hG6
  have K6 : Hid (Kept (· = t) w w6) := (Kept0.to (K1.out.trans kV)).trans hk6
  have lt6 := hT6.lt
  have HT6 := Lib.hid hT6
  have HS : Hid (∀ w', Kept0 w6 w' → Calls Tryz.prog 56 #[.pointer (some ⟨g, 0, none⟩)] w' fun e w'' => e = .returned (pos R C) ∧ Kept0 w' w'') := fun w' k => size_any g R C w' (kcell k HG6.out.c0) (kcell k HG6.out.c1)
  obtain ⟨t0, t1, t2, t3⟩ := hT6
  have n1 : ¬ b9 = w6.heap.size := by omega
  have n2 : ¬ w6.heap.size = b9 := by omega
  clear HP1 x0 x1 x2 x3 HO1 HG1 K1 kV hT hG6 hk6 HST
  go_wp2_with fail
  go_region_held3 (fun w' => w'.cell? ⟨b9, 0, none⟩ = some (.int .i64 p) ∧ w'.cell? ⟨b9, 1, none⟩ = some (.int .i64 q)) (go_keep)
    (first
        | (go_at_call 56
           refine (HS.out _ (by first | exact (Kept.refl _ w6).drew | exact ((Kept.refl _ w6).alloc _).drew)).mono ?_
           rintro e z3 ⟨rfl, hk3⟩
           have kz3 : Hid (Kept0 w6 z3) := (by first | exact (Kept.refl _ w6).drew.trans hk3 | exact ((Kept.refl _ w6).alloc _).drew.trans hk3)
           have m1z3 : ¬ b9 = z3.heap.size := (by have := kz3.out.size; omega)
           have m2z3 : ¬ z3.heap.size = b9 := (by have := kz3.out.size; omega)
           obtain ⟨v0, v1, v2, v3⟩ := HT6.out.kept0 kz3.out
           try (have hn8 := (two_newD w6 45).kept0 hk3; obtain ⟨a0, a1, a2, a3⟩ := hn8))
        | (go_at_call 119
           refine (HBS.out _).mono ?_
           rintro e z4 ⟨rfl, hk4⟩
           have kz4 : Hid (Kept0 w6 z4) := (by first | exact kz3.out.trans hk4 | exact (kz3.out.alloc _).trans hk4)
           have m1z4 : ¬ b9 = z4.heap.size := (by have := kz4.out.size; omega)
           have m2z4 : ¬ z4.heap.size = b9 := (by have := kz4.out.size; omega)
           obtain ⟨v0, v1, v2, v3⟩ := HT6.out.kept0 kz4.out
           try (have hn8 := (two_newN z3 45).kept0 hk4; obtain ⟨a0, a1, a2, a3⟩ := hn8)
           try (have hn7 := (Two.mk a0 a1 a2 a3).kept0 hk4; obtain ⟨a0, a1, a2, a3⟩ := hn7))
        | (go_at_call 118
           refine (HF2.out _ (HG6.out.kept (by first | exact kz4.out | exact kz4.out.alloc _) (fun e => e) (fun e => e))).mono ?_
           rintro e z5 ⟨rfl, hk5⟩
           have kz5 : Hid (Kept0 w6 z5) := (by first | exact kz4.out.trans hk5 | exact (kz4.out.alloc _).trans hk5)
           have m1z5 : ¬ b9 = z5.heap.size := (by have := kz5.out.size; omega)
           have m2z5 : ¬ z5.heap.size = b9 := (by have := kz5.out.size; omega)
           obtain ⟨v0, v1, v2, v3⟩ := HT6.out.kept0 kz5.out
           try (have hn8 := (two_newN z4 45).kept0 hk5; obtain ⟨a0, a1, a2, a3⟩ := hn8)
           try (have hn7 := (Two.mk a0 a1 a2 a3).kept0 hk5; obtain ⟨a0, a1, a2, a3⟩ := hn7)))
  all_goals
    first
      | (obtain ⟨b8, hb9⟩ : ∃ b8, b8 = z5.heap.size := ⟨_, rfl⟩
         obtain ⟨W8, hW9⟩ : ∃ W8, W8 = z5.alloc (.cells #[.int .i64 p4q, .int .i64 q4q] 45) := ⟨_, rfl⟩
         rw [← hW9, ← hb9]
         have hT8 : Two W8 b8 p4q q4q := by rw [hW9, hb9]; exact Two.of (heap_new z5 _)
         have k8 : Kept0 w6 W8 := by rw [hW9]; exact kz5.out.alloc _
         have hle9 : w6.heap.size ≤ b8 := by rw [hb9]; exact kz5.out.size
         clear hW9 hb9)
      | (obtain ⟨b8, hb9⟩ : ∃ b8, b8 = z4.heap.size := ⟨_, rfl⟩
         obtain ⟨W8, hW9⟩ : ∃ W8, W8 = (z5.setCell ⟨z4.heap.size, 0, none⟩ (.int .i64 p4q)).setCell ⟨z4.heap.size, 1, none⟩ (.int .i64 q4q) := ⟨_, rfl⟩
         rw [← hW9, ← hb9]
         have hT8 : Two W8 b8 p4q q4q := by rw [hW9, hb9]; exact Two.set ⟨a0, a1, a2, a3⟩ p4q q4q
         have k8 : Kept0 w6 W8 := by rw [hW9]; exact ((kz5.out.setCell _ (Or.inl kz4.out.size) _).setCell _ (Or.inl kz4.out.size) _)
         have hle9 : w6.heap.size ≤ b8 := by rw [hb9]; exact kz4.out.size
         clear hW9 hb9)
      | (obtain ⟨b8, hb9⟩ : ∃ b8, b8 = z3.heap.size := ⟨_, rfl⟩
         obtain ⟨W8, hW9⟩ : ∃ W8, W8 = (z5.setCell ⟨z3.heap.size, 0, none⟩ (.int .i64 p4q)).setCell ⟨z3.heap.size, 1, none⟩ (.int .i64 q4q) := ⟨_, rfl⟩
         rw [← hW9, ← hb9]
         have hT8 : Two W8 b8 p4q q4q := by rw [hW9, hb9]; exact Two.set ⟨a0, a1, a2, a3⟩ p4q q4q
         have k8 : Kept0 w6 W8 := by rw [hW9]; exact ((kz5.out.setCell _ (Or.inl kz3.out.size) _).setCell _ (Or.inl kz3.out.size) _)
         have hle9 : w6.heap.size ≤ b8 := by rw [hb9]; exact kz3.out.size
         clear hW9 hb9)
      | (obtain ⟨b8, hb9⟩ : ∃ b8, b8 = w6.heap.size := ⟨_, rfl⟩
         obtain ⟨W8, hW9⟩ : ∃ W8, W8 = (z5.setCell ⟨w6.heap.size, 0, none⟩ (.int .i64 p4q)).setCell ⟨w6.heap.size, 1, none⟩ (.int .i64 q4q) := ⟨_, rfl⟩
         rw [← hW9, ← hb9]
         have hT8 : Two W8 b8 p4q q4q := by rw [hW9, hb9]; exact Two.set ⟨a0, a1, a2, a3⟩ p4q q4q
         have k8 : Kept0 w6 W8 := by rw [hW9]; exact ((kz5.out.setCell _ (Or.inl (Nat.le_refl _)) _).setCell _ (Or.inl (Nat.le_refl _)) _)
         have hle9 : w6.heap.size ≤ b8 := by rw [hb9]; exact (Nat.le_refl _)
         clear hW9 hb9)
    clear t0 t1 t2 t3 v0 v1 v2 v3 n1 n2
    have HG8 : Hid (GridAt W8 g t cap R C f2) := HG6.out.kept k8 (fun e => e) (fun e => e)
    have hO8 := hO6.out.kept0 k8
    have hP8 := HP6.out.kept0 k8
    have K8 : Hid (Kept (· = t) w W8) := K6.out.trans k8.to
    have hl8 : b8 < W8.heap.size := hT8.lt
    have HS8 : Hid (∀ w', Kept0 W8 w' → Calls Tryz.prog 56 #[.pointer (some ⟨g, 0, none⟩)] w' fun e w'' => e = .returned (pos R C) ∧ Kept0 w' w'') := fun w' k => size_any g R C w' (kcell k HG8.out.c0) (kcell k HG8.out.c1)
    have q2 : w.heap.size ≤ w.heap.size + 1 + 1 := by omega
    have hl6 := hO8.lt
    have HO8 := Lib.hid hO8
    have HT8 := Lib.hid hT8
    clear HG6 hO6 HP6 K6 k8 HS HT6 HBS HF2 kz3 kz4 kz5 hk3 hk4 hk5
    try clear a0 a1 a2 a3
    cases vv
    · have HP8 := Lib.hid hP8
      obtain ⟨p0, p1, p9, p3, p4, p5⟩ := hP8
      obtain ⟨t0, t1, t2, t3⟩ := hT8
      have n1 : ¬ w.heap.size = b8 := by omega
      have n2 : ¬ b8 = w.heap.size := by omega
      clear hO8
      go_wp2_with fail
      go_region_held3 (fun w' => w'.cell? ⟨w.heap.size, 0, none⟩ = some (.int .i64 r) ∧ w'.cell? ⟨w.heap.size, 1, none⟩ = some (.int .i64 c)) (go_keep)
        (first
          | (go_at_call 56; refine (HS8.out _ (Kept.refl _ W8).drew).mono ?_; rintro e y3 ⟨rfl, hk3⟩; have ky3 : Hid (Kept0 W8 y3) := (Kept.refl _ W8).drew.trans hk3; obtain ⟨v0, v1, v2, v3, v4, v5⟩ := HP8.out.kept0 ky3.out)
          | (go_at_call 38; refine (HNR.out _).mono ?_; rintro e y4 ⟨rfl, hk4⟩; have ky4 : Hid (Kept0 W8 y4) := ky3.out.trans hk4; obtain ⟨v0, v1, v2, v3, v4, v5⟩ := HP8.out.kept0 ky4.out; obtain ⟨u0, u1, u2, u3⟩ := HT8.out.kept0 ky4.out))
      all_goals
        obtain ⟨V7, hV7⟩ : ∃ V7, V7 = (y4.setCell ⟨b8, 0, none⟩ (.int .i64 p5q)).setCell ⟨b8, 1, none⟩ (.int .i64 q5q) := ⟨_, rfl⟩
        have hT7 : Two V7 b8 p5q q5q := by rw [hV7]; exact Two.set ⟨u0, u1, u2, u3⟩ p5q q5q
        have k7 : Kept (· = b8) y4 V7 := by rw [hV7]; exact (Kept.set1 y4 b8 0 _).trans (Kept.set1 _ b8 1 _)
        rw [← hV7]
        clear hV7
        have ky := ky4.out
        have HG7 := Lib.hid ((HG8.out.kept ky (fun e => e) (fun e => e)).kept k7 (by omega) (by omega))
        have hO7 := (HO8.out.kept0 ky).kept k7 (by omega)
        have K7 : Hid (Kept (· = t) w V7) := (K8.out.trans (Kept0.to ky)).later k7 (fun i hi e => by omega)
        have l7 := hT7.lt
        have l8 := hO7.lt
        clear v0 v1 v2 v3 v4 v5 u0 u1 u2 u3 p0 p1 p9 p3 p4 p5 t0 t1 t2 t3 HP8 HT8 HO8 HG8 K8 hk3 hk4 ky3 ky4 k7 ky
        obtain ⟨t0, t1, t2, t3⟩ := hT7
        obtain ⟨o0, o1, o2, o3, o4, o5⟩ := hO7
        go_wp2_with fail
        have kend : Kept (· = w.heap.size + 1 + 1) V7 _ := (((Kept.refl (· = w.heap.size + 1 + 1) V7).setCell ⟨w.heap.size + 1 + 1, 0, none⟩ (Or.inr rfl) (.int .i64 p5q)).setCell ⟨w.heap.size + 1 + 1, 1, none⟩ (Or.inr rfl) (.int .i64 q5q)).setCell ⟨w.heap.size + 1 + 1, 2, none⟩ (Or.inr rfl) (.bool false)
        exact bodyPost_ret (v := .tuple #[place p5q q5q false, .int .i64 0]) (by simp [results, Tryz.results110, go_sem, o0, o1, o2]) rfl ⟨rfl, HG7.out.kept kend (by omega) (by omega), ((K7.out.setCell _ (Or.inl q2) _).setCell _ (Or.inl q2) _).setCell _ (Or.inl q2) _⟩
    · obtain ⟨t0, t1, t2, t3⟩ := hT8
      obtain ⟨o0, o1, o2, o3, o4, o5⟩ := hO8
      go_wp2_with fail
      have kend : Kept (· = w.heap.size + 1 + 1) W8 _ := (((Kept.refl (· = w.heap.size + 1 + 1) W8).setCell ⟨w.heap.size + 1 + 1, 0, none⟩ (Or.inr rfl) (.int .i64 p4q)).setCell ⟨w.heap.size + 1 + 1, 1, none⟩ (Or.inr rfl) (.int .i64 q4q)).setCell ⟨w.heap.size + 1 + 1, 2, none⟩ (Or.inr rfl) (.bool false)
      exact bodyPost_ret (v := .tuple #[place p4q q4q false, .int .i64 0]) (by simp [results, Tryz.results110, go_sem, o0, o1, o2]) rfl ⟨rfl, HG8.out.kept kend (by omega) (by omega), ((K8.out.setCell _ (Or.inl q2) _).setCell _ (Or.inl q2) _).setCell _ (Or.inl q2) _⟩

/-- What Guard comes to: the place that is taken is o. -/
def gdF (f : Nat → Cel) (x : Cel) (o : Option Nat) : Nat → Cel := match o with | some k => upd f k x | none => f
def gdE (o : Option Nat) : Int := match o with | some _ => 0 | none => 15
def gdO (N : Nat) (f : Nat → Cel) (x : Cel) (k : Nat) : Option Nat := freeK N false (stp N false k 1) (upd f k x)
def gdR (R C : Nat) (f : Nat → Cel) (x : Cel) (r : Int) (o : Option Nat) : Int := match o with | some k => (if (gdO (R * C) f x k).isSome = true then oR C (gdO (R * C) f x k) else nr r R) | none => 0
def gdC (R C : Nat) (f : Nat → Cel) (x : Cel) (c : Int) (o : Option Nat) : Int := match o with | some k => (if (gdO (R * C) f x k).isSome = true then oC C (gdO (R * C) f x k) else nr c C) | none => 0

theorem guard_any (g t cap R C : Nat) (f : Nat → Cel) (r c : Int) (b : Bool) (x : Cel) (w : World) (hg : GridAt w g t cap R C f) (o : Option Nat) (ho : o = freeK (R * C) false (st R C r c) f) :
    Calls Tryz.prog 110 #[.pointer (some ⟨g, 0, none⟩), place r c b, x.v] w fun e w' => e = .returned (.tuple #[place (gdR R C f x r o) (gdC R C f x c o) false, .int .i64 (gdE o)]) ∧ GridAt w' g t cap R C (gdF f x o) ∧ Kept (· = t) w w' := by
  have hF := fun w' (h : GridAt w' g t cap R C f) => free_any g t cap R C f r c w' h
  rw [← ho] at hF
  cases o with
  | none =>
    refine (guard_none g t cap R C f r c _ _ b x w hg hF).mono ?_
    rintro e w' ⟨rfl, k⟩
    exact ⟨rfl, hg.kept k (fun e => e) (fun e => e), k.to⟩
  | some k =>
    obtain ⟨hk, _⟩ := freeK_some ho.symm
    have hth := there_row_col hk hg.C1
    have hst : st R C (rowOf C (stp (R * C) false k 1) : Int) (colOf C (stp (R * C) false k 1) : Int) = stp (R * C) false k 1 := by
      rw [st_in (there_row_col (stp_lt (by omega)) hg.C1), idx_row_col]
    have hST := fun w' (h : GridAt w' g t cap R C f) => set_in g t cap R C f _ _ x w' h hth
    rw [idx_row_col] at hST
    have hF2 := fun w' (h : GridAt w' g t cap R C (upd f k x)) => free_any g t cap R C (upd f k x) (rowOf C (stp (R * C) false k 1) : Int) (colOf C (stp (R * C) false k 1) : Int) w' h
    rw [hst] at hF2
    have hNR := fun w' => near_at' R C r c w' hg.R1 hg.R2 hg.C1 hg.C2
    rw [(row_st (r := r) (c := c) hg.R1 hg.C1).1, (row_st (r := r) (c := c) hg.R1 hg.C1).2] at hNR
    exact guard_some g t cap R C f (upd f k x) r c _ _ _ _ _ _ _ _ b _ x w hg hF hST (fun w' => beside_any R C k false w' hg.R1 hg.R2 hg.C1 hg.C2 hk) hF2 hNR

end Go.Proofs.YtlhajbcabpfbkaaGreatDoor
