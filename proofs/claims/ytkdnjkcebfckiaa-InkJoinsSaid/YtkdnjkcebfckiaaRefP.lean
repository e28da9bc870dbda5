/-
  The document's answer: Put.
-/
import Derived.Test.YtkdnjkcebfckiaaRefF
namespace Go.Proofs.Ytkdnjkcebfckiaa
open Go.RowKit

theorem refNext_at (R C : Nat) (r c : Int) (w : World) (h1 : 1 ≤ R) (h2 : R ≤ 255) :
    Calls Try.prog 40 #[pos R C, pos (nr r R) c] w fun e w' => e = .returned (.tuple #[pos (nextR R (nr r R)) 0, .bool (nr r R == (R : Int) - 1)]) ∧ Kept0 w w' :=
  refNext_any (R : Int) (C : Int) (nr r R) c (by omega) (by omega) (nr_lo _ _) (nr_hi _ _ (by omega)) w

theorem refBehind_any' (R C : Nat) (p q k : Int) (w : World) (h1 : 1 ≤ R) (h2 : R ≤ 255) (h3 : 1 ≤ C) (h4 : C ≤ 255) (hth : There R C p q) :
    Calls Try.prog 42 #[pos R C, pos p q, .int .i64 k] w fun e w' => e = .returned (.tuple #[pos (bR R C p q k) (bC C q k), .bool (bP C q k), .bool (bU R C p q k)]) ∧ Kept0 w w' := by
  have hm := may_nat h1 h2 h3 h4
  have e1 : nr p R = p := nr_in _ _ hth.1 hth.2.1
  have e2 : nr q C = q := nr_in _ _ hth.2.2.1 hth.2.2.2
  have := refBehind_core (R : Int) (C : Int) p q k hm (decide (nr q C < (C : Int) - 1)) (k == 1) (k == 2) rfl rfl rfl w
  rw [e1, e2] at this
  have hv : refBehindV (R : Int) p q (decide (q < (C : Int) - 1)) (k == 1) (k == 2) = .tuple #[pos (bR R C p q k) (bC C q k), .bool (bP C q k), .bool (bU R C p q k)] := by
    unfold refBehindV bR bC bP bU
    by_cases g1 : q < (C : Int) - 1
    · simp [g1]
    · by_cases g2 : k = 1
      · simp [g1, g2]
      · by_cases g3 : k = 2
        · simp [g1, g3]
        · simp [g1, g2, g3]
  rw [hv] at this
  exact this

/-- What stands while the document's Put works. -/
structure Rp (w wx : World) (g t cap R C : Nat) (F : Nat → Cel) (r c : Int) (b : Bool) (x bl : Cel) : Prop where
  at0 : Three wx w.heap.size r c b
  x : CelAt wx (w.heap.size + 1) x
  bl : CelAt wx (w.heap.size + 1 + 1) bl
  out : Three wx (w.heap.size + 1 + 1 + 1) 0 0 false
  ref : RefAt wx g t cap R C F
  kept : Kept (· = t) w wx
  tl : t < w.heap.size
  gl : g < w.heap.size
theorem Rp.keep {w wx wy : World} {g t cap R C : Nat} {F : Nat → Cel} {r c : Int} {b : Bool} {x bl : Cel} (h : Rp w wx g t cap R C F r c b x bl) (k : Kept0 wx wy) : Rp w wy g t cap R C F r c b x bl :=
  ⟨h.at0.kept0 k, h.x.kept k (fun e => e), h.bl.kept k (fun e => e), h.out.kept0 k, h.ref.kept k (fun e => e) (fun e => e), h.kept.trans (Kept0.to k), h.tl, h.gl⟩
theorem Rp.turn {w wx wy : World} {g t cap R C : Nat} {F F' : Nat → Cel} {r c : Int} {b : Bool} {x bl : Cel} (h : Rp w wx g t cap R C F r c b x bl) (k : Kept (· = t) wx wy) (hr : RefAt wy g t cap R C F') : Rp w wy g t cap R C F' r c b x bl := by
  have h1 := h.tl
  exact ⟨h.at0.kept k (by omega), h.x.kept k (by omega), h.bl.kept k (by omega), h.out.kept k (by omega), hr, h.kept.trans k, h.tl, h.gl⟩
theorem Rp.apart {w wx wy : World} {g t cap R C q : Nat} {F : Nat → Cel} {r c : Int} {b : Bool} {x bl : Cel} (h : Rp w wx g t cap R C F r c b x bl) (k : Kept (· = q) wx wy) (hq : w.heap.size + 1 + 1 + 1 < q) : Rp w wy g t cap R C F r c b x bl := by
  have h1 := h.tl
  have h2 := h.gl
  exact ⟨h.at0.kept k (by omega), h.x.kept k (by omega), h.bl.kept k (by omega), h.out.kept k (by omega), h.ref.kept k (by omega) (by omega), h.kept.later k (fun i hi e => by omega), h.tl, h.gl⟩
theorem Rp.size {w wx : World} {g t cap R C : Nat} {F : Nat → Cel} {r c : Int} {b : Bool} {x bl : Cel} (h : Rp w wx g t cap R C F r c b x bl) (w' : World) (k : Kept0 wx w') : Calls Try.prog 39 #[.pointer (some ⟨g, 0, none⟩)] w' fun e w'' => e = .returned (pos R C) ∧ Kept0 w' w'' :=
  sizeR g R C w' (kcell k h.ref.c0) (kcell k h.ref.c1)

set_option maxHeartbeats 8000000 in
theorem putR_any (g t cap R C : Nat) (f : Nat → Cel) (r c k : Int) (b : Bool) (x bl : Cel) (w : World) (hg : RefAt w g t cap R C f) :
    Calls Try.prog 16 #[.pointer (some ⟨g, 0, none⟩), place r c b, x.v, .int .i64 k, bl.v] w fun e w' => e = .returned (.tuple #[place (putR R C r c b k) (putC C c b k) (putP C c b k), .int .i64 (putN R C r c b k)]) ∧ RefAt w' g t cap R C (putF R C f r c b x k bl) ∧ Kept (· = t) w w' := by
  have hR1 := hg.R1
  have hR2 := hg.R2
  have hC1 := hg.C1
  have hC2 := hg.C2
  have hgl := hg.lt
  have htl := hg.row.lt
  have hRC : R * C ≤ 65025 := Nat.mul_le_mul hR2 hC2
  have HN : Hid (∀ w', Calls Try.prog 38 #[pos R C, pos r c] w' fun e w'' => e = .returned (pos (nr r R) (nr c C)) ∧ Kept0 w' w'') := fun w' => refNear_any (R : Int) (C : Int) r c (may_nat hR1 hR2 hC1 hC2) w'
  have HX : Hid (∀ w', Calls Try.prog 40 #[pos R C, pos (nr r R) (nr c C)] w' fun e w'' => e = .returned (.tuple #[pos (nextR R (nr r R)) 0, .bool (nr r R == (R : Int) - 1)]) ∧ Kept0 w' w'') := fun w' => refNext_at R C r (nr c C) w' hR1 hR2
  have hth : There R C (aR R r b) (aC C c b) := a_there hR1 hC1
  have HB : Hid (∀ w', Calls Try.prog 42 #[pos R C, pos (aR R r b) (aC C c b), .int .i64 k] w' fun e w'' => e = .returned (.tuple #[pos (putR R C r c b k) (putC C c b k), .bool (putP C c b k), .bool (bU R C (aR R r b) (aC C c b) k)]) ∧ Kept0 w' w'') := fun w' => refBehind_any' R C _ _ k w' hR1 hR2 hC1 hC2 hth
  have HTH := Lib.hid hth
  clear hth
  have HG := Lib.hid hg
  clear hg
  go_enter Try.func16, Try.ntmps16
  go_wp2_with fail
  obtain ⟨W, hW⟩ : ∃ W, W = (((w.alloc (.cells #[.int .i64 r, .int .i64 c, .bool b] 42)).alloc (.cells #[.int .i32 x.g, .int .i64 x.a, .bool x.b, .int .i64 x.m] 36)).alloc (.cells #[.int .i32 bl.g, .int .i64 bl.a, .bool bl.b, .int .i64 bl.m] 36)).alloc (.cells #[.int .i64 0, .int .i64 0, .bool false] 42) := ⟨_, rfl⟩
  have k0 : Kept0 w W := by rw [hW]; exact ((((Kept.refl _ w).alloc _).alloc _).alloc _).alloc _
  have hRp : Rp w W g t cap R C f r c b x bl := by
    refine ⟨?_, ?_, ?_, ?_, HG.out.kept k0 (fun e => e) (fun e => e), Kept0.to k0, htl, hgl⟩
    · rw [hW]; exact Three.of (heap_old _ _ (heap_old _ _ (heap_old _ _ (heap_new _ _))))
    · rw [hW]; constructor <;> simp [go_sem]
    · rw [hW]; constructor <;> simp [go_sem]
    · rw [hW]; exact Three.of (by have := heap_newC (w.alloc (.cells #[.int .i64 r, .int .i64 c, .bool b] 42)) (.cells #[.int .i32 x.g, .int .i64 x.a, .bool x.b, .int .i64 x.m] 36) (.cells #[.int .i32 bl.g, .int .i64 bl.a, .bool bl.b, .int .i64 bl.m] 36) (.cells #[.int .i64 0, .int .i64 0, .bool false] 42); rwa [World.size_alloc] at this)
  rw [← hW]
  clear hW HG k0
  have HR := Lib.hid hRp
  have lo := hRp.out.lt
  clear hRp
  go_cut [13] from 19 to 23 (fun s13 wx => ∃ b9 : Nat, s13 = .pointer (some ⟨b9, 0, none⟩) ∧ w.heap.size + 1 + 1 + 1 < b9 ∧ Hid (Two wx b9 (nr r R) (nr c C)) ∧ Hid (Rp w wx g t cap R C f r c b x bl))
  case first =>
    obtain ⟨p0, p1, p9, p3, p4, p5⟩ := HR.out.at0
    have n1 : ¬ w.heap.size = W.heap.size := by omega
    have n2 : ¬ W.heap.size = w.heap.size := by omega
    have HS := Lib.hid HR.out.size
    go_region_held3 (fun w' => w'.cell? ⟨w.heap.size, 0, none⟩ = some (.int .i64 r) ∧ w'.cell? ⟨w.heap.size, 1, none⟩ = some (.int .i64 c)) (go_keep)
      (first
          | (go_at_call 39
             refine (HS.out _ (by first | exact (Kept.refl _ W).drew | exact ((Kept.refl _ W).alloc _).drew)).mono ?_
             rintro e z3 ⟨rfl, hk3⟩
             have kz3 : Hid (Kept0 W z3) := (by first | exact (Kept.refl _ W).drew.trans hk3 | exact ((Kept.refl _ W).alloc _).drew.trans hk3)
             have m1z3 : ¬ w.heap.size = z3.heap.size := (by have := kz3.out.size; omega)
             have m2z3 : ¬ z3.heap.size = w.heap.size := (by have := kz3.out.size; omega)
             obtain ⟨v0, v1, v2, v3, v4, v5⟩ := HR.out.at0.kept0 kz3.out
             try (have hn8 := (two_newD W 26).kept0 hk3; obtain ⟨a0, a1, a2, a3⟩ := hn8))
          | (go_at_call 38
             refine (HN.out _).mono ?_
             rintro e z4 ⟨rfl, hk4⟩
             have kz4 : Hid (Kept0 W z4) := (by first | exact kz3.out.trans hk4 | exact (kz3.out.alloc _).trans hk4)
             have m1z4 : ¬ w.heap.size = z4.heap.size := (by have := kz4.out.size; omega)
             have m2z4 : ¬ z4.heap.size = w.heap.size := (by have := kz4.out.size; omega)
             obtain ⟨v0, v1, v2, v3, v4, v5⟩ := HR.out.at0.kept0 kz4.out
             try (have hn8 := (two_newN z3 26).kept0 hk4; obtain ⟨a0, a1, a2, a3⟩ := hn8)
             try (have hn7 := (Two.mk a0 a1 a2 a3).kept0 hk4; obtain ⟨a0, a1, a2, a3⟩ := hn7)))
    all_goals
      first
        | (obtain ⟨b9, hb9⟩ : ∃ b9, b9 = z4.heap.size := ⟨_, rfl⟩
           obtain ⟨W9, hW9⟩ : ∃ W9, W9 = z4.alloc (.cells #[.int .i64 (nr r R), .int .i64 (nr c C)] 26) := ⟨_, rfl⟩
           rw [← hW9, ← hb9]
           have hT9 : Two W9 b9 (nr r R) (nr c C) := by rw [hW9, hb9]; exact Two.of (heap_new z4 _)
           have k9 : Kept0 W W9 := by rw [hW9]; exact kz4.out.alloc _
           have hle9 : W.heap.size ≤ b9 := by rw [hb9]; exact kz4.out.size
           clear hW9 hb9)
        | (obtain ⟨b9, hb9⟩ : ∃ b9, b9 = z3.heap.size := ⟨_, rfl⟩
           obtain ⟨W9, hW9⟩ : ∃ W9, W9 = (z4.setCell ⟨z3.heap.size, 0, none⟩ (.int .i64 (nr r R))).setCell ⟨z3.heap.size, 1, none⟩ (.int .i64 (nr c C)) := ⟨_, rfl⟩
           rw [← hW9, ← hb9]
           have hT9 : Two W9 b9 (nr r R) (nr c C) := by rw [hW9, hb9]; exact Two.set ⟨a0, a1, a2, a3⟩ (nr r R) (nr c C)
           have k9 : Kept0 W W9 := by rw [hW9]; exact ((kz4.out.setCell _ (Or.inl kz3.out.size) _).setCell _ (Or.inl kz3.out.size) _)
           have hle9 : W.heap.size ≤ b9 := by rw [hb9]; exact kz3.out.size
           clear hW9 hb9)
        | (obtain ⟨b9, hb9⟩ : ∃ b9, b9 = W.heap.size := ⟨_, rfl⟩
           obtain ⟨W9, hW9⟩ : ∃ W9, W9 = (z4.setCell ⟨W.heap.size, 0, none⟩ (.int .i64 (nr r R))).setCell ⟨W.heap.size, 1, none⟩ (.int .i64 (nr c C)) := ⟨_, rfl⟩
           rw [← hW9, ← hb9]
           have hT9 : Two W9 b9 (nr r R) (nr c C) := by rw [hW9, hb9]; exact Two.set ⟨a0, a1, a2, a3⟩ (nr r R) (nr c C)
           have k9 : Kept0 W W9 := by rw [hW9]; exact ((kz4.out.setCell _ (Or.inl (Nat.le_refl _)) _).setCell _ (Or.inl (Nat.le_refl _)) _)
           have hle9 : W.heap.size ≤ b9 := by rw [hb9]; exact (Nat.le_refl _)
           clear hW9 hb9)
      have HF := Lib.hid (HR.out.keep k9)
      go_wp2_with fail
      go_meet
      exact ⟨b9, rfl, by omega, hT9, HF⟩
  case rest =>
  obtain ⟨b9, rfl, hb9, hT, HR2⟩ := hcut
  clear HR HN
  obtain ⟨p0, p1, p9, p3, p4, p5⟩ := HR2.out.at0
  go_upto_if 25 with fail
  clear p0 p1 p9 p3 p4 p5
  go_cut [12, 14, 15] from 26 to 39 (fun s12 _ _ wx => s12 = .int .i64 (liftN (aU R r b)) ∧ Hid (Two wx b9 (aR R r b) (aC C c b)) ∧ Hid (Rp w wx g t cap R C (liftF R C f (aU R r b) bl) r c b x bl))
  case first =>
    clear HB HTH
    cases b
    · go_wp2_with fail
      go_wp2_with fail
      go_meet
      exact ⟨rfl, hT, HR2⟩
    · have HS := Lib.hid HR2.out.size
      have l9 : b9 < wc.heap.size := hT.out.lt
      go_upto_region 4 with fail
      go_cut [14, 15] from 26 to 32 (fun s14 s15 wx => ∃ b8 : Nat, s14 = .pointer (some ⟨b8, 0, none⟩) ∧ s15 = .bool (nr r R == (R : Int) - 1) ∧ w.heap.size + 1 + 1 + 1 < b8 ∧ b9 ≠ b8 ∧ Hid (Two wx b8 (nextR R (nr r R)) 0) ∧ Hid (Two wx b9 (nr r R) (nr c C)) ∧ Hid (Rp w wx g t cap R C f r c true x bl))
      case first =>
        obtain ⟨t0, t1, t2, t3⟩ := hT.out
        have n1 : ¬ b9 = wc.heap.size := by omega
        have n2 : ¬ wc.heap.size = b9 := by omega
        generalize (nr r R == (R : Int) - 1) = u at *
        generalize nextR R (nr r R) = p' at *
        go_region_held3 (fun w' => w'.cell? ⟨b9, 0, none⟩ = some (.int .i64 (nr r R)) ∧ w'.cell? ⟨b9, 1, none⟩ = some (.int .i64 (nr c C))) (go_keep)
          (first
              | (go_at_call 39
                 refine (HS.out _ (by first | exact (Kept.refl _ wc).drew | exact ((Kept.refl _ wc).alloc _).drew)).mono ?_
                 rintro e z3 ⟨rfl, hk3⟩
                 have kz3 : Hid (Kept0 wc z3) := (by first | exact (Kept.refl _ wc).drew.trans hk3 | exact ((Kept.refl _ wc).alloc _).drew.trans hk3)
                 have m1z3 : ¬ b9 = z3.heap.size := (by have := kz3.out.size; omega)
                 have m2z3 : ¬ z3.heap.size = b9 := (by have := kz3.out.size; omega)
                 obtain ⟨v0, v1, v2, v3⟩ := hT.out.kept0 kz3.out
                 try (have hn8 := (two_newD wc 26).kept0 hk3; obtain ⟨a0, a1, a2, a3⟩ := hn8))
              | (go_at_call 40
                 refine (HX.out _).mono ?_
                 rintro e z4 ⟨rfl, hk4⟩
                 have kz4 : Hid (Kept0 wc z4) := (by first | exact kz3.out.trans hk4 | exact (kz3.out.alloc _).trans hk4)
                 have m1z4 : ¬ b9 = z4.heap.size := (by have := kz4.out.size; omega)
                 have m2z4 : ¬ z4.heap.size = b9 := (by have := kz4.out.size; omega)
                 obtain ⟨v0, v1, v2, v3⟩ := hT.out.kept0 kz4.out
                 try (have hn8 := (two_newN z3 26).kept0 hk4; obtain ⟨a0, a1, a2, a3⟩ := hn8)
                 try (have hn7 := (Two.mk a0 a1 a2 a3).kept0 hk4; obtain ⟨a0, a1, a2, a3⟩ := hn7)))
        all_goals
          first
            | (obtain ⟨b8, hb9⟩ : ∃ b8, b8 = z4.heap.size := ⟨_, rfl⟩
               obtain ⟨W8, hW9⟩ : ∃ W8, W8 = z4.alloc (.cells #[.int .i64 p', .int .i64 0] 26) := ⟨_, rfl⟩
               rw [← hW9, ← hb9]
               have hT9 : Two W8 b8 p' 0 := by rw [hW9, hb9]; exact Two.of (heap_new z4 _)
               have k9 : Kept0 wc W8 := by rw [hW9]; exact kz4.out.alloc _
               have hle9 : wc.heap.size ≤ b8 := by rw [hb9]; exact kz4.out.size
               clear hW9 hb9)
            | (obtain ⟨b8, hb9⟩ : ∃ b8, b8 = z3.heap.size := ⟨_, rfl⟩
               obtain ⟨W8, hW9⟩ : ∃ W8, W8 = (z4.setCell ⟨z3.heap.size, 0, none⟩ (.int .i64 p')).setCell ⟨z3.heap.size, 1, none⟩ (.int .i64 0) := ⟨_, rfl⟩
               rw [← hW9, ← hb9]
               have hT9 : Two W8 b8 p' 0 := by rw [hW9, hb9]; exact Two.set ⟨a0, a1, a2, a3⟩ p' 0
               have k9 : Kept0 wc W8 := by rw [hW9]; exact ((kz4.out.setCell _ (Or.inl kz3.out.size) _).setCell _ (Or.inl kz3.out.size) _)
               have hle9 : wc.heap.size ≤ b8 := by rw [hb9]; exact kz3.out.size
               clear hW9 hb9)
            | (obtain ⟨b8, hb9⟩ : ∃ b8, b8 = wc.heap.size := ⟨_, rfl⟩
               obtain ⟨W8, hW9⟩ : ∃ W8, W8 = (z4.setCell ⟨wc.heap.size, 0, none⟩ (.int .i64 p')).setCell ⟨wc.heap.size, 1, none⟩ (.int .i64 0) := ⟨_, rfl⟩
               rw [← hW9, ← hb9]
               have hT9 : Two W8 b8 p' 0 := by rw [hW9, hb9]; exact Two.set ⟨a0, a1, a2, a3⟩ p' 0
               have k9 : Kept0 wc W8 := by rw [hW9]; exact ((kz4.out.setCell _ (Or.inl (Nat.le_refl _)) _).setCell _ (Or.inl (Nat.le_refl _)) _)
               have hle9 : wc.heap.size ≤ b8 := by rw [hb9]; exact (Nat.le_refl _)
               clear hW9 hb9)
          have HF := Lib.hid (HR2.out.keep k9)
          have HT9 := Lib.hid (hT.out.kept0 k9)
          go_wp2_with fail
          go_meet
          exact ⟨b8, rfl, rfl, by have := HR2.out.out.lt; omega, by omega, hT9, HT9, HF⟩
      case rest =>
      obtain ⟨b8, rfl, rfl, hb8, hne, hT8, hT9, HR3⟩ := hcut
      clear HR2 hT HS HX
      have hn1 : ¬ b9 = b8 := hne
      have hn2 : ¬ b8 = b9 := fun e => hne e.symm
      have l8 := hT8.out.lt
      obtain ⟨t0, t1, t2, t3⟩ := hT8.out
      obtain ⟨y0, y1, y2, y3⟩ := hT9.out
      go_upto_if 34 with fail
      obtain ⟨V, hV⟩ : ∃ V, V = (wc.setCell ⟨b9, 0, none⟩ (.int .i64 (nextR R (nr r R)))).setCell ⟨b9, 1, none⟩ (.int .i64 0) := ⟨_, rfl⟩
      have hTV : Hid (Two V b9 (aR R r true) (aC C c true)) := by rw [hV]; exact hT9.out.set _ _
      have kV : Kept (· = b9) wc V := by rw [hV]; exact (Kept.set1 wc b9 0 _).trans (Kept.set1 _ b9 1 _)
      have HRV := Lib.hid (HR3.out.apart kV hb9)
      rw [← hV]
      clear hV t0 t1 t2 t3 y0 y1 y2 y3 hT8 hT9 HR3 kV
      have hU : aU R r true = (nr r R == (R : Int) - 1) := by simp [aU]
      cases hu : (nr r R == (R : Int) - 1)
      · have HU := Lib.hid (hU.trans hu)
        clear hU hu
        go_wp2_with fail
        go_meet
        exact ⟨by rw [HU.out]; rfl, hTV, by rw [HU.out]; exact HRV⟩
      · have HU := Lib.hid (hU.trans hu)
        clear hU hu
        have HUP : Hid (Calls Try.prog 41 #[.pointer (some ⟨g, 0, none⟩), .int .i64 1, bl.v] V fun e w' => e = .returned (.tuple #[]) ∧ RefAt w' g t cap R C (upF R C f 1 bl) ∧ Kept (· = t) V w') := upR g t cap R C f 1 bl V HRV.out.ref (by omega)
        obtain ⟨d0, d1, d2, d3⟩ := HRV.out.bl
        go_wp2_with fail
        refine HUP.out.mono ?_
        rintro e w5 ⟨rfl, hr5, hk5⟩
        have HR5 := Lib.hid (HRV.out.turn hk5 hr5)
        have hT5 := Lib.hid (hTV.out.kept hk5 (by have := HRV.out.tl; omega))
        clear hr5 hk5 d0 d1 d2 d3 HUP
        go_wp2_with fail
        go_meet
        exact ⟨by rw [HU.out]; rfl, hT5, by rw [HU.out]; exact HR5⟩
  case rest =>
  clear HR2 hT HX
  obtain ⟨rfl, hT, HR4⟩ := hcut
  generalize hf1 : liftF R C f (aU R r b) bl = f1 at *
  have hx := HR4.out.ref
  have hne := hx.ne
  have htl2 := HR4.out.tl
  have hgl2 := HR4.out.gl
  have hw1 : IntKind.i64.wrap (IntKind.i64.wrap (aR R r b * (C : Int)) + aC C c b) = (idx C (aR R r b) (aC C c b) : Int) := wrap_idx HTH.out hR2 hC2
  have hli := idx_lt HTH.out
  have HPF : Hid (putF R C f r c b x k bl = liftF R C (upd f1 (idx C (aR R r b) (aC C c b)) x) (bU R C (aR R r b) (aC C c b) k) bl) := by show _ = _; rw [← hf1]; rfl
  have HPN : Hid (putN R C r c b k = liftN (aU R r b) + liftN (bU R C (aR R r b) (aC C c b) k)) := rfl
  have hn1 := liftN_in (aU R r b)
  have hn2 := liftN_in (bU R C (aR R r b) (aC C c b) k)
  clear hf1
  generalize liftN (aU R r b) = m1 at *
  generalize idx C (aR R r b) (aC C c b) = ix at *
  generalize aR R r b = p at *
  generalize aC C c b = q at *
  obtain ⟨N, hN⟩ : ∃ N, N = R * C := ⟨_, rfl⟩
  have c1 := hx.c1
  have c2 := hx.c2
  obtain ⟨e0, e1, e2, e3⟩ := hx.row.cell hli
  have f0 := hx.row.frozen (ix * 4)
  have f1' := hx.row.frozen (ix * 4 + 1)
  have f2 := hx.row.frozen (ix * 4 + 2)
  have f3 := hx.row.frozen (ix * 4 + 3)
  obtain ⟨t0, t1, t2, t3⟩ := hT.out
  obtain ⟨x0, x1, x2, x3⟩ := HR4.out.x
  rw [← hN] at c2 hli hRC
  clear hN
  have g1 : ¬ g = t := hne
  have g2 : ¬ t = g := fun e => hne e.symm
  have g3 : ¬ b9 = t := by omega
  have g4 : ¬ t = b9 := by omega
  have g5 : ¬ w.heap.size + 1 = t := by omega
  have g6 : ¬ t = w.heap.size + 1 := by omega
  clear hx hne
  go_upto_region 9 with fail
  go_region_held3 (fun w' => w'.cell? ⟨g, 1, none⟩ = some (.int .i64 C) ∧ w'.cell? ⟨g, 2, none⟩ = some (Value.slice (some ⟨t, 0, none⟩) N cap) ∧ w'.cell? ⟨b9, 0, none⟩ = some (.int .i64 p) ∧ w'.cell? ⟨b9, 1, none⟩ = some (.int .i64 q) ∧ w'.cell? ⟨w.heap.size + 1, 0, none⟩ = some (.int .i32 x.g) ∧ w'.cell? ⟨w.heap.size + 1, 1, none⟩ = some (.int .i64 x.a) ∧ w'.cell? ⟨w.heap.size + 1, 2, none⟩ = some (.bool x.b) ∧ w'.cell? ⟨w.heap.size + 1, 3, none⟩ = some (.int .i64 x.m)) (go_keep) (first | fail)
  obtain ⟨V, hV⟩ : ∃ V, V = ((((wc.setCell ⟨t, ix * 4, none⟩ (.int .i32 x.g)).setCell ⟨t, ix * 4 + 1, none⟩ (.int .i64 x.a)).setCell ⟨t, ix * 4 + 2, none⟩ (.bool x.b)).setCell ⟨t, ix * 4 + 3, none⟩ (.int .i64 x.m)).drew := ⟨_, rfl⟩
  have kV : Kept (· = t) wc V := by rw [hV]; exact ((Kept.refl (· = t) wc).setCel t (ix * 4) (Or.inr rfl) x).drew
  have hrV : RefAt V g t cap R C (upd f1 ix x) := HR4.out.ref.withRow kV (by rw [hV]; exact CellsAt.drewN (HR4.out.ref.row.set ix x) 1)
  have HRV := Lib.hid (HR4.out.turn kV hrV)
  have hTV := Lib.hid (hT.out.kept kV g3)
  rw [← hV]
  clear hV hrV kV HR4 hT c1 c2 e0 e1 e2 e3 f0 f1' f2 f3 t0 t1 t2 t3 x0 x1 x2 x3 hw1 hli
  generalize hp2 : putR R C r c b k = p2 at HB
  generalize hq2 : putC C c b k = q2 at HB
  generalize hvv : putP C c b k = vv at HB
  have HP2 := Lib.hid hp2
  have HQ2 := Lib.hid hq2
  have HVV := Lib.hid hvv
  clear hp2 hq2 hvv
  generalize bU R C p q k = u2 at *
  go_upto_region 10 with fail
  go_cut [16, 17, 18] from 56 to 64 (fun s16 s17 s18 wx => ∃ b8 : Nat, s16 = .pointer (some ⟨b8, 0, none⟩) ∧ s17 = .bool vv ∧ s18 = .bool u2 ∧ w.heap.size + 1 + 1 + 1 < b8 ∧ Hid (Two wx b8 p2 q2) ∧ Hid (Rp w wx g t cap R C (upd f1 ix x) r c b x bl))
  case first =>
    have HS := Lib.hid HRV.out.size
    have l9 : b9 < V.heap.size := hTV.out.lt
    obtain ⟨t0, t1, t2, t3⟩ := hTV.out
    have n1 : ¬ b9 = V.heap.size := by omega
    have n2 : ¬ V.heap.size = b9 := by omega
    go_region_held3 (fun w' => w'.cell? ⟨b9, 0, none⟩ = some (.int .i64 p) ∧ w'.cell? ⟨b9, 1, none⟩ = some (.int .i64 q)) (go_keep)
      (first
          | (go_at_call 39
             refine (HS.out _ (by first | exact (Kept.refl _ V).drew | exact ((Kept.refl _ V).alloc _).drew)).mono ?_
             rintro e z3 ⟨rfl, hk3⟩
             have kz3 : Hid (Kept0 V z3) := (by first | exact (Kept.refl _ V).drew.trans hk3 | exact ((Kept.refl _ V).alloc _).drew.trans hk3)
             have m1z3 : ¬ b9 = z3.heap.size := (by have := kz3.out.size; omega)
             have m2z3 : ¬ z3.heap.size = b9 := (by have := kz3.out.size; omega)
             obtain ⟨v0, v1, v2, v3⟩ := hTV.out.kept0 kz3.out
             try (have hn8 := (two_newD V 26).kept0 hk3; obtain ⟨a0, a1, a2, a3⟩ := hn8))
          | (go_at_call 42
             refine (HB.out _).mono ?_
             rintro e z4 ⟨rfl, hk4⟩
             have kz4 : Hid (Kept0 V z4) := (by first | exact kz3.out.trans hk4 | exact (kz3.out.alloc _).trans hk4)
             have m1z4 : ¬ b9 = z4.heap.size := (by have := kz4.out.size; omega)
             have m2z4 : ¬ z4.heap.size = b9 := (by have := kz4.out.size; omega)
             obtain ⟨v0, v1, v2, v3⟩ := hTV.out.kept0 kz4.out
             try (have hn8 := (two_newN z3 26).kept0 hk4; obtain ⟨a0, a1, a2, a3⟩ := hn8)
             try (have hn7 := (Two.mk a0 a1 a2 a3).kept0 hk4; obtain ⟨a0, a1, a2, a3⟩ := hn7)))
    all_goals
      first
        | (obtain ⟨b8, hb9⟩ : ∃ b8, b8 = z4.heap.size := ⟨_, rfl⟩
           obtain ⟨W8, hW9⟩ : ∃ W8, W8 = z4.alloc (.cells #[.int .i64 p2, .int .i64 q2] 26) := ⟨_, rfl⟩
           rw [← hW9, ← hb9]
           have hT9 : Two W8 b8 p2 q2 := by rw [hW9, hb9]; exact Two.of (heap_new z4 _)
           have k9 : Kept0 V W8 := by rw [hW9]; exact kz4.out.alloc _
           have hle9 : V.heap.size ≤ b8 := by rw [hb9]; exact kz4.out.size
           clear hW9 hb9)
        | (obtain ⟨b8, hb9⟩ : ∃ b8, b8 = z3.heap.size := ⟨_, rfl⟩
           obtain ⟨W8, hW9⟩ : ∃ W8, W8 = (z4.setCell ⟨z3.heap.size, 0, none⟩ (.int .i64 p2)).setCell ⟨z3.heap.size, 1, none⟩ (.int .i64 q2) := ⟨_, rfl⟩
           rw [← hW9, ← hb9]
           have hT9 : Two W8 b8 p2 q2 := by rw [hW9, hb9]; exact Two.set ⟨a0, a1, a2, a3⟩ p2 q2
           have k9 : Kept0 V W8 := by rw [hW9]; exact ((kz4.out.setCell _ (Or.inl kz3.out.size) _).setCell _ (Or.inl kz3.out.size) _)
           have hle9 : V.heap.size ≤ b8 := by rw [hb9]; exact kz3.out.size
           clear hW9 hb9)
        | (obtain ⟨b8, hb9⟩ : ∃ b8, b8 = V.heap.size := ⟨_, rfl⟩
           obtain ⟨W8, hW9⟩ : ∃ W8, W8 = (z4.setCell ⟨V.heap.size, 0, none⟩ (.int .i64 p2)).setCell ⟨V.heap.size, 1, none⟩ (.int .i64 q2) := ⟨_, rfl⟩
           rw [← hW9, ← hb9]
           have hT9 : Two W8 b8 p2 q2 := by rw [hW9, hb9]; exact Two.set ⟨a0, a1, a2, a3⟩ p2 q2
           have k9 : Kept0 V W8 := by rw [hW9]; exact ((kz4.out.setCell _ (Or.inl (Nat.le_refl _)) _).setCell _ (Or.inl (Nat.le_refl _)) _)
           have hle9 : V.heap.size ≤ b8 := by rw [hb9]; exact (Nat.le_refl _)
           clear hW9 hb9)
      have HF := Lib.hid (HRV.out.keep k9)
      go_wp2_with fail
      go_meet
      exact ⟨b8, rfl, rfl, rfl, by have := HRV.out.out.lt; omega, hT9, HF⟩
  case rest =>
  clear HRV hTV HB HTH
  obtain ⟨b8, rfl, rfl, rfl, hb8, hT8, HR5⟩ := hcut
  go_upto_if 65 with fail
  go_cut [12] from 66 to 70 (fun s12 wx => s12 = .int .i64 (m1 + liftN u2) ∧ Hid (Two wx b8 p2 q2) ∧ Hid (Rp w wx g t cap R C (liftF R C (upd f1 ix x) u2 bl) r c b x bl))
  case first =>
    cases u2
    · go_wp2_with fail
      go_meet
      exact ⟨by simp [liftN], hT8, HR5⟩
    · have HUP : Hid (Calls Try.prog 41 #[.pointer (some ⟨g, 0, none⟩), .int .i64 1, bl.v] wc fun e w' => e = .returned (.tuple #[]) ∧ RefAt w' g t cap R C (upF R C (upd f1 ix x) 1 bl) ∧ Kept (· = t) wc w') := upR g t cap R C _ 1 bl wc HR5.out.ref (by omega)
      obtain ⟨d0, d1, d2, d3⟩ := HR5.out.bl
      have e9 : IntKind.i64.wrap (m1 + 1) = m1 + 1 := IntWalk.i64_in _ ⟨by omega, by omega⟩
      go_wp2_with fail
      refine HUP.out.mono ?_
      rintro e w5 ⟨rfl, hr5, hk5⟩
      have HR6 := Lib.hid (HR5.out.turn hk5 hr5)
      have hT5 := Lib.hid (hT8.out.kept hk5 (by have := HR5.out.tl; omega))
      clear hr5 hk5 d0 d1 d2 d3 HUP
      go_wp2_with fail
      go_meet
      exact ⟨by simp [liftN], hT5, HR6⟩
  case rest =>
  clear HR5 hT8
  obtain ⟨rfl, hT8, HR6⟩ := hcut
  obtain ⟨t0, t1, t2, t3⟩ := hT8.out
  have l8 := hT8.out.lt
  obtain ⟨o0, o1, o2, o3, o4, o5⟩ := HR6.out.out
  have lo6 := HR6.out.out.lt
  go_wp2_with fail
  have q3 : w.heap.size ≤ w.heap.size + 1 + 1 + 1 := by omega
  have kend : Kept (· = w.heap.size + 1 + 1 + 1) wc _ := (((Kept.refl (· = w.heap.size + 1 + 1 + 1) wc).setCell ⟨w.heap.size + 1 + 1 + 1, 0, none⟩ (Or.inr rfl) (.int .i64 p2)).setCell ⟨w.heap.size + 1 + 1 + 1, 1, none⟩ (Or.inr rfl) (.int .i64 q2)).setCell ⟨w.heap.size + 1 + 1 + 1, 2, none⟩ (Or.inr rfl) (.bool vv)
  exact bodyPost_ret (v := .tuple #[place p2 q2 vv, .int .i64 (m1 + liftN u2)]) (by simp [results, Try.results16, go_sem, o0, o1, o2]) rfl ⟨by rw [HP2.out, HQ2.out, HVV.out, HPN.out], by rw [HPF.out]; exact HR6.out.ref.kept kend (by omega) (by omega), ((HR6.out.kept.setCell _ (Or.inl q3) _).setCell _ (Or.inl q3) _).setCell _ (Or.inl q3) _⟩

end Go.Proofs.Ytkdnjkcebfckiaa
