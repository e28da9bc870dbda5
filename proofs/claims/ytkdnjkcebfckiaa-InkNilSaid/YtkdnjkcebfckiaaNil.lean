/-
  A nil grid has nothing: the law.
-/
import Derived.Test.YtkdnjkcebfckiaaAwake
import Derived.Test.YtkdnjkcebfckiaaGuard
import Derived.Test.YtkdnjkcebfckiaaText
namespace Go.Proofs.Ytkdnjkcebfckiaa
open Go.RowKit

set_option maxHeartbeats 8000000 in
set_option maxRecDepth 100000 in
theorem nil_law (r c k : Int) (b : Bool) (s : ByteArray) (w : World) (hsz : s.size ≤ maxLen) :
    Calls Try.prog 7 #[penV r c b k s] w fun e w' => e = .returned (.bool true) ∧ Kept0 w w' := by
  have HAW : Hid (∀ w', Calls Try.prog 10 #[] w' fun e w'' => e = .returned (.bool true) ∧ Kept0 w' w'') := fun w' => awake_any w'
  have HC : Hid (∀ (b : Int) (w : World), 0 ≤ b → b ≤ 255 → Calls Try.prog 12 #[.int .u8 b] w fun e w' => e = .returned (celB b).v ∧ Kept0 w w') := fun b w => cellL b w
  have k0 : Kept0 w (w.alloc (.cells #[.int .i64 r, .int .i64 c, .bool b, .int .i64 k, .string s] 28)) := (Kept.refl _ w).alloc _
  unfold maxLen at hsz
  by_cases h60 : 60 < s.size
  · have d1 : decide ((60 : Int) < (s.size : Int)) = true := by simp; omega
    go_enter Try.func7, Try.ntmps7
    go_wp2_with fail
    refine (HAW.out _).mono ?_
    rintro e w1 ⟨rfl, hk1⟩
    go_wp2_with fail
    go_ret
    exact ⟨rfl, k0.trans hk1⟩
  have d1 : decide ((60 : Int) < (s.size : Int)) = false := by simp; omega
  have HCL : Hid (∀ w', Calls Try.prog 27 #[.string s] w' fun e w'' => ∃ v, e = .returned v ∧ Kept0 w' w'') := fun w' => by
    refine (cells_any s w' (by omega)).mono ?_
    rintro e w'' ⟨v, h1, _, h2⟩
    exact ⟨v, h1, h2⟩
  have hsp := same_place 0 0 false
  have hps := same_pos 0 0
  generalize hcb : celB = cB at *
  clear hcb
  go_enter Try.func7, Try.ntmps7
  go_wp2_with fail
  obtain ⟨W, hW⟩ : ∃ W, W = w.alloc (.cells #[.int .i64 r, .int .i64 c, .bool b, .int .i64 k, .string s] 28) := ⟨_, rfl⟩
  rw [← hW] at k0 ⊢
  have hp : PenAt W w.heap.size r c b k s := by rw [hW]; constructor <;> simp [go_sem]
  clear hW
  refine (place_any _ _ _ _ _ _).mono ?_
  rintro e w1 ⟨rfl, hk1⟩
  go_wp2_with fail
  refine (HC.out _ _ (by omega) (by omega)).mono ?_
  rintro e w2 ⟨rfl, hk2⟩
  go_wp2_with fail
  refine (guard_nil _ _ _ _ _).mono ?_
  rintro e w3 ⟨rfl, hk3⟩
  go_wp2_with fail
  obtain ⟨X, hX⟩ : ∃ X, X = w3.alloc (.cells #[.int .i64 0, .int .i64 0, .bool false] 39) := ⟨_, rfl⟩
  have kX : Kept0 w3 X := by rw [hX]; exact (Kept.refl _ w3).alloc _
  have h4 : Three X w3.heap.size 0 0 false := by rw [hX]; exact Three.of (heap_new w3 _)
  rw [← hX]
  clear hX
  have kk := ((hk1.trans hk2).trans hk3).trans kX
  have HP := Lib.hid (hp.kept kk (fun e => e))
  have K := Lib.hid (k0.trans kk)
  have H4 := Lib.hid h4
  have lX := HP.out.lt
  clear hp hk1 hk2 hk3 kX h4 kk k0
  go_upto_region 5 with fail
  go_cut [6, 7, 8] from 30 to 41 (fun s6 s7 s8 wx => ∃ b9 : Nat, s6 = .pointer (some ⟨b9, 0, none⟩) ∧ s7 = .int .i64 0 ∧ s8 = .int .i64 2 ∧ Hid (Three wx b9 0 0 false) ∧ Hid (Kept0 X wx))
  case first =>
    obtain ⟨p0, p1, p2, p3, p4⟩ := HP.out
    have n1 : ¬ w.heap.size = X.heap.size := by omega
    have n2 : ¬ X.heap.size = w.heap.size := by omega
    go_region_held3 (fun w' => w'.cell? ⟨w.heap.size, 0, none⟩ = some (.int .i64 r) ∧ w'.cell? ⟨w.heap.size, 1, none⟩ = some (.int .i64 c) ∧ w'.cell? ⟨w.heap.size, 2, none⟩ = some (.bool b) ∧ w'.cell? ⟨w.heap.size, 3, none⟩ = some (.int .i64 k) ∧ w'.cell? ⟨w.heap.size, 4, none⟩ = some (.string s)) (go_keep)
      (first
          | (go_at_call 15
             refine (put_nil _ _ _ _ _ _ _).mono ?_
             rintro e z6 ⟨rfl, hk6⟩
             have kz6 : Hid (Kept0 X z6) := (by first | exact kz5.out.trans hk6 | exact (kz5.out.alloc _).trans hk6)
             have m1z6 : ¬ w.heap.size = z6.heap.size := (by have := kz6.out.size; omega)
             have m2z6 : ¬ z6.heap.size = w.heap.size := (by have := kz6.out.size; omega)
             obtain ⟨v0, v1, v2, v3, v4⟩ := HP.out.kept kz6.out (fun e => e)
             try (have hn8 := (three_newN z5 39).kept0 hk6; obtain ⟨a0, a1, a2, a3, a4, a5⟩ := hn8)
             try (have hn7 := (Three.mk a0 a1 a2 a3 a4 a5).kept0 hk6; obtain ⟨a0, a1, a2, a3, a4, a5⟩ := hn7))
          | (go_at_call 12
             refine (HC.out _ _ (by omega) (by omega)).mono ?_
             rintro e z5 ⟨rfl, hk5⟩
             have kz5 : Hid (Kept0 X z5) := (by first | exact kz4.out.trans hk5 | exact (kz4.out.alloc _).trans hk5)
             have m1z5 : ¬ w.heap.size = z5.heap.size := (by have := kz5.out.size; omega)
             have m2z5 : ¬ z5.heap.size = w.heap.size := (by have := kz5.out.size; omega)
             obtain ⟨v0, v1, v2, v3, v4⟩ := HP.out.kept kz5.out (fun e => e)
             try (have hn8 := (three_newN z4 39).kept0 hk5; obtain ⟨a0, a1, a2, a3, a4, a5⟩ := hn8)
             try (have hn7 := (Three.mk a0 a1 a2 a3 a4 a5).kept0 hk5; obtain ⟨a0, a1, a2, a3, a4, a5⟩ := hn7))
          | (go_at_call 12
             refine (HC.out _ _ (by omega) (by omega)).mono ?_
             rintro e z4 ⟨rfl, hk4⟩
             have kz4 : Hid (Kept0 X z4) := (by first | exact kz3.out.trans hk4 | exact (kz3.out.alloc _).trans hk4)
             have m1z4 : ¬ w.heap.size = z4.heap.size := (by have := kz4.out.size; omega)
             have m2z4 : ¬ z4.heap.size = w.heap.size := (by have := kz4.out.size; omega)
             obtain ⟨v0, v1, v2, v3, v4⟩ := HP.out.kept kz4.out (fun e => e)
             try (have hn8 := (three_newN z3 39).kept0 hk4; obtain ⟨a0, a1, a2, a3, a4, a5⟩ := hn8)
             try (have hn7 := (Three.mk a0 a1 a2 a3 a4 a5).kept0 hk4; obtain ⟨a0, a1, a2, a3, a4, a5⟩ := hn7))
          | (go_at_call 13
             refine (place_any _ _ _ _ _ _).mono ?_
             rintro e z3 ⟨rfl, hk3⟩
             have kz3 : Hid (Kept0 X z3) := (by first | exact (Kept.refl _ X).drew.trans hk3 | exact ((Kept.refl _ X).alloc _).drew.trans hk3)
             have m1z3 : ¬ w.heap.size = z3.heap.size := (by have := kz3.out.size; omega)
             have m2z3 : ¬ z3.heap.size = w.heap.size := (by have := kz3.out.size; omega)
             obtain ⟨v0, v1, v2, v3, v4⟩ := HP.out.kept kz3.out (fun e => e)
             try (have hn8 := (three_newD X 39).kept0 hk3; obtain ⟨a0, a1, a2, a3, a4, a5⟩ := hn8)))
    all_goals
      first
        | (obtain ⟨b9, hb9⟩ : ∃ b9, b9 = z6.heap.size := ⟨_, rfl⟩
           obtain ⟨W9, hW9⟩ : ∃ W9, W9 = z6.alloc (.cells #[.int .i64 0, .int .i64 0, .bool false] 39) := ⟨_, rfl⟩
           rw [← hW9, ← hb9]
           have hT9 : Three W9 b9 0 0 false := by rw [hW9, hb9]; exact Three.of (heap_new z6 _)
           have k9 : Kept0 X W9 := by rw [hW9]; exact kz6.out.alloc _
           have hle9 : X.heap.size ≤ b9 := by rw [hb9]; exact kz6.out.size
           clear hW9 hb9)
        | (obtain ⟨b9, hb9⟩ : ∃ b9, b9 = z5.heap.size := ⟨_, rfl⟩
           obtain ⟨W9, hW9⟩ : ∃ W9, W9 = ((z6.setCell ⟨z5.heap.size, 0, none⟩ (.int .i64 0)).setCell ⟨z5.heap.size, 1, none⟩ (.int .i64 0)).setCell ⟨z5.heap.size, 2, none⟩ (.bool false) := ⟨_, rfl⟩
           rw [← hW9, ← hb9]
           have hT9 : Three W9 b9 0 0 false := by rw [hW9, hb9]; exact Three.set ⟨a0, a1, a2, a3, a4, a5⟩ 0 0 false
           have k9 : Kept0 X W9 := by rw [hW9]; exact (((kz6.out.setCell _ (Or.inl kz5.out.size) _).setCell _ (Or.inl kz5.out.size) _).setCell _ (Or.inl kz5.out.size) _)
           have hle9 : X.heap.size ≤ b9 := by rw [hb9]; exact kz5.out.size
           clear hW9 hb9)
        | (obtain ⟨b9, hb9⟩ : ∃ b9, b9 = z4.heap.size := ⟨_, rfl⟩
           obtain ⟨W9, hW9⟩ : ∃ W9, W9 = ((z6.setCell ⟨z4.heap.size, 0, none⟩ (.int .i64 0)).setCell ⟨z4.heap.size, 1, none⟩ (.int .i64 0)).setCell ⟨z4.heap.size, 2, none⟩ (.bool false) := ⟨_, rfl⟩
           rw [← hW9, ← hb9]
           have hT9 : Three W9 b9 0 0 false := by rw [hW9, hb9]; exact Three.set ⟨a0, a1, a2, a3, a4, a5⟩ 0 0 false
           have k9 : Kept0 X W9 := by rw [hW9]; exact (((kz6.out.setCell _ (Or.inl kz4.out.size) _).setCell _ (Or.inl kz4.out.size) _).setCell _ (Or.inl kz4.out.size) _)
           have hle9 : X.heap.size ≤ b9 := by rw [hb9]; exact kz4.out.size
           clear hW9 hb9)
        | (obtain ⟨b9, hb9⟩ : ∃ b9, b9 = z3.heap.size := ⟨_, rfl⟩
           obtain ⟨W9, hW9⟩ : ∃ W9, W9 = ((z6.setCell ⟨z3.heap.size, 0, none⟩ (.int .i64 0)).setCell ⟨z3.heap.size, 1, none⟩ (.int .i64 0)).setCell ⟨z3.heap.size, 2, none⟩ (.bool false) := ⟨_, rfl⟩
           rw [← hW9, ← hb9]
           have hT9 : Three W9 b9 0 0 false := by rw [hW9, hb9]; exact Three.set ⟨a0, a1, a2, a3, a4, a5⟩ 0 0 false
           have k9 : Kept0 X W9 := by rw [hW9]; exact (((kz6.out.setCell _ (Or.inl kz3.out.size) _).setCell _ (Or.inl kz3.out.size) _).setCell _ (Or.inl kz3.out.size) _)
           have hle9 : X.heap.size ≤ b9 := by rw [hb9]; exact kz3.out.size
           clear hW9 hb9)
        | (obtain ⟨b9, hb9⟩ : ∃ b9, b9 = X.heap.size := ⟨_, rfl⟩
           obtain ⟨W9, hW9⟩ : ∃ W9, W9 = ((z6.setCell ⟨X.heap.size, 0, none⟩ (.int .i64 0)).setCell ⟨X.heap.size, 1, none⟩ (.int .i64 0)).setCell ⟨X.heap.size, 2, none⟩ (.bool false) := ⟨_, rfl⟩
           rw [← hW9, ← hb9]
           have hT9 : Three W9 b9 0 0 false := by rw [hW9, hb9]; exact Three.set ⟨a0, a1, a2, a3, a4, a5⟩ 0 0 false
           have k9 : Kept0 X W9 := by rw [hW9]; exact (((kz6.out.setCell _ (Or.inl (Nat.le_refl _)) _).setCell _ (Or.inl (Nat.le_refl _)) _).setCell _ (Or.inl (Nat.le_refl _)) _)
           have hle9 : X.heap.size ≤ b9 := by rw [hb9]; exact (Nat.le_refl _)
           clear hW9 hb9)
      have HF := Lib.hid k9
      go_wp2_with fail
      go_meet
      exact ⟨b9, rfl, rfl, rfl, hT9, HF⟩
  case rest =>
  obtain ⟨b6, rfl, rfl, rfl, H6, hkc⟩ := hcut
  replace HP := Lib.hid (HP.out.kept hkc.out (fun e => e))
  replace K := Lib.hid (K.out.trans hkc.out)
  replace H4 := Lib.hid (H4.out.kept0 hkc.out)
  have lX2 := HP.out.lt
  obtain ⟨X, hX⟩ : ∃ X, X = wc := ⟨_, rfl⟩
  rw [← hX] at HP K H4 H6 lX2 ⊢
  clear hX hkc lX
  go_upto_region 6 with fail
  go_cut [9, 10, 11] from 42 to 55 (fun s6 s7 s8 wx => ∃ b9 : Nat, s6 = .pointer (some ⟨b9, 0, none⟩) ∧ s7 = .int .i64 0 ∧ s8 = .int .i64 2 ∧ Hid (Three wx b9 0 0 false) ∧ Hid (Kept0 X wx))
  case first =>
    obtain ⟨p0, p1, p2, p3, p4⟩ := HP.out
    have n1 : ¬ w.heap.size = X.heap.size := by omega
    have n2 : ¬ X.heap.size = w.heap.size := by omega
    go_region_held3 (fun w' => w'.cell? ⟨w.heap.size, 0, none⟩ = some (.int .i64 r) ∧ w'.cell? ⟨w.heap.size, 1, none⟩ = some (.int .i64 c) ∧ w'.cell? ⟨w.heap.size, 2, none⟩ = some (.bool b) ∧ w'.cell? ⟨w.heap.size, 3, none⟩ = some (.int .i64 k) ∧ w'.cell? ⟨w.heap.size, 4, none⟩ = some (.string s)) (go_keep)
      (first
          | (go_at_call 28
             refine (text_nil _ _ _ _ _ _ _).mono ?_
             rintro e z6 ⟨rfl, hk6⟩
             have kz6 : Hid (Kept0 X z6) := (by first | exact kz5.out.trans hk6 | exact (kz5.out.alloc _).trans hk6)
             have m1z6 : ¬ w.heap.size = z6.heap.size := (by have := kz6.out.size; omega)
             have m2z6 : ¬ z6.heap.size = w.heap.size := (by have := kz6.out.size; omega)
             obtain ⟨v0, v1, v2, v3, v4⟩ := HP.out.kept kz6.out (fun e => e)
             try (have hn8 := (three_newN z5 39).kept0 hk6; obtain ⟨a0, a1, a2, a3, a4, a5⟩ := hn8)
             try (have hn7 := (Three.mk a0 a1 a2 a3 a4 a5).kept0 hk6; obtain ⟨a0, a1, a2, a3, a4, a5⟩ := hn7))
          | (go_at_call 12
             refine (HC.out _ _ (by omega) (by omega)).mono ?_
             rintro e z5 ⟨rfl, hk5⟩
             have kz5 : Hid (Kept0 X z5) := (by first | exact kz4.out.trans hk5 | exact (kz4.out.alloc _).trans hk5)
             have m1z5 : ¬ w.heap.size = z5.heap.size := (by have := kz5.out.size; omega)
             have m2z5 : ¬ z5.heap.size = w.heap.size := (by have := kz5.out.size; omega)
             obtain ⟨v0, v1, v2, v3, v4⟩ := HP.out.kept kz5.out (fun e => e)
             try (have hn8 := (three_newN z4 39).kept0 hk5; obtain ⟨a0, a1, a2, a3, a4, a5⟩ := hn8)
             try (have hn7 := (Three.mk a0 a1 a2 a3 a4 a5).kept0 hk5; obtain ⟨a0, a1, a2, a3, a4, a5⟩ := hn7))
          | (go_at_call 27
             refine (HCL.out _).mono ?_
             rintro e z4 ⟨vl, rfl, hk4⟩
             have kz4 : Hid (Kept0 X z4) := (by first | exact kz3.out.trans hk4 | exact (kz3.out.alloc _).trans hk4)
             have m1z4 : ¬ w.heap.size = z4.heap.size := (by have := kz4.out.size; omega)
             have m2z4 : ¬ z4.heap.size = w.heap.size := (by have := kz4.out.size; omega)
             obtain ⟨v0, v1, v2, v3, v4⟩ := HP.out.kept kz4.out (fun e => e)
             try (have hn8 := (three_newN z3 39).kept0 hk4; obtain ⟨a0, a1, a2, a3, a4, a5⟩ := hn8)
             try (have hn7 := (Three.mk a0 a1 a2 a3 a4 a5).kept0 hk4; obtain ⟨a0, a1, a2, a3, a4, a5⟩ := hn7))
          | (go_at_call 13
             refine (place_any _ _ _ _ _ _).mono ?_
             rintro e z3 ⟨rfl, hk3⟩
             have kz3 : Hid (Kept0 X z3) := (by first | exact (Kept.refl _ X).drew.trans hk3 | exact ((Kept.refl _ X).alloc _).drew.trans hk3)
             have m1z3 : ¬ w.heap.size = z3.heap.size := (by have := kz3.out.size; omega)
             have m2z3 : ¬ z3.heap.size = w.heap.size := (by have := kz3.out.size; omega)
             obtain ⟨v0, v1, v2, v3, v4⟩ := HP.out.kept kz3.out (fun e => e)
             try (have hn8 := (three_newD X 39).kept0 hk3; obtain ⟨a0, a1, a2, a3, a4, a5⟩ := hn8)))
    all_goals
      first
        | (obtain ⟨b9, hb9⟩ : ∃ b9, b9 = z6.heap.size := ⟨_, rfl⟩
           obtain ⟨W9, hW9⟩ : ∃ W9, W9 = z6.alloc (.cells #[.int .i64 0, .int .i64 0, .bool false] 39) := ⟨_, rfl⟩
           rw [← hW9, ← hb9]
           have hT9 : Three W9 b9 0 0 false := by rw [hW9, hb9]; exact Three.of (heap_new z6 _)
           have k9 : Kept0 X W9 := by rw [hW9]; exact kz6.out.alloc _
           have hle9 : X.heap.size ≤ b9 := by rw [hb9]; exact kz6.out.size
           clear hW9 hb9)
        | (obtain ⟨b9, hb9⟩ : ∃ b9, b9 = z5.heap.size := ⟨_, rfl⟩
           obtain ⟨W9, hW9⟩ : ∃ W9, W9 = ((z6.setCell ⟨z5.heap.size, 0, none⟩ (.int .i64 0)).setCell ⟨z5.heap.size, 1, none⟩ (.int .i64 0)).setCell ⟨z5.heap.size, 2, none⟩ (.bool false) := ⟨_, rfl⟩
           rw [← hW9, ← hb9]
           have hT9 : Three W9 b9 0 0 false := by rw [hW9, hb9]; exact Three.set ⟨a0, a1, a2, a3, a4, a5⟩ 0 0 false
           have k9 : Kept0 X W9 := by rw [hW9]; exact (((kz6.out.setCell _ (Or.inl kz5.out.size) _).setCell _ (Or.inl kz5.out.size) _).setCell _ (Or.inl kz5.out.size) _)
           have hle9 : X.heap.size ≤ b9 := by rw [hb9]; exact kz5.out.size
           clear hW9 hb9)
        | (obtain ⟨b9, hb9⟩ : ∃ b9, b9 = z4.heap.size := ⟨_, rfl⟩
           obtain ⟨W9, hW9⟩ : ∃ W9, W9 = ((z6.setCell ⟨z4.heap.size, 0, none⟩ (.int .i64 0)).setCell ⟨z4.heap.size, 1, none⟩ (.int .i64 0)).setCell ⟨z4.heap.size, 2, none⟩ (.bool false) := ⟨_, rfl⟩
           rw [← hW9, ← hb9]
           have hT9 : Three W9 b9 0 0 false := by rw [hW9, hb9]; exact Three.set ⟨a0, a1, a2, a3, a4, a5⟩ 0 0 false
           have k9 : Kept0 X W9 := by rw [hW9]; exact (((kz6.out.setCell _ (Or.inl kz4.out.size) _).setCell _ (Or.inl kz4.out.size) _).setCell _ (Or.inl kz4.out.size) _)
           have hle9 : X.heap.size ≤ b9 := by rw [hb9]; exact kz4.out.size
           clear hW9 hb9)
        | (obtain ⟨b9, hb9⟩ : ∃ b9, b9 = z3.heap.size := ⟨_, rfl⟩
           obtain ⟨W9, hW9⟩ : ∃ W9, W9 = ((z6.setCell ⟨z3.heap.size, 0, none⟩ (.int .i64 0)).setCell ⟨z3.heap.size, 1, none⟩ (.int .i64 0)).setCell ⟨z3.heap.size, 2, none⟩ (.bool false) := ⟨_, rfl⟩
           rw [← hW9, ← hb9]
           have hT9 : Three W9 b9 0 0 false := by rw [hW9, hb9]; exact Three.set ⟨a0, a1, a2, a3, a4, a5⟩ 0 0 false
           have k9 : Kept0 X W9 := by rw [hW9]; exact (((kz6.out.setCell _ (Or.inl kz3.out.size) _).setCell _ (Or.inl kz3.out.size) _).setCell _ (Or.inl kz3.out.size) _)
           have hle9 : X.heap.size ≤ b9 := by rw [hb9]; exact kz3.out.size
           clear hW9 hb9)
        | (obtain ⟨b9, hb9⟩ : ∃ b9, b9 = X.heap.size := ⟨_, rfl⟩
           obtain ⟨W9, hW9⟩ : ∃ W9, W9 = ((z6.setCell ⟨X.heap.size, 0, none⟩ (.int .i64 0)).setCell ⟨X.heap.size, 1, none⟩ (.int .i64 0)).setCell ⟨X.heap.size, 2, none⟩ (.bool false) := ⟨_, rfl⟩
           rw [← hW9, ← hb9]
           have hT9 : Three W9 b9 0 0 false := by rw [hW9, hb9]; exact Three.set ⟨a0, a1, a2, a3, a4, a5⟩ 0 0 false
           have k9 : Kept0 X W9 := by rw [hW9]; exact (((kz6.out.setCell _ (Or.inl (Nat.le_refl _)) _).setCell _ (Or.inl (Nat.le_refl _)) _).setCell _ (Or.inl (Nat.le_refl _)) _)
           have hle9 : X.heap.size ≤ b9 := by rw [hb9]; exact (Nat.le_refl _)
           clear hW9 hb9)
      have HF := Lib.hid k9
      go_wp2_with fail
      go_meet
      exact ⟨b9, rfl, rfl, rfl, hT9, HF⟩
  case rest =>
  obtain ⟨b7, rfl, rfl, rfl, H7, hkc⟩ := hcut
  replace HP := Lib.hid (HP.out.kept hkc.out (fun e => e))
  replace K := Lib.hid (K.out.trans hkc.out)
  replace H4 := Lib.hid (H4.out.kept0 hkc.out)
  replace H6 := Lib.hid (H6.out.kept0 hkc.out)
  clear hkc lX2
  obtain ⟨p0, p1, p2, p3, p4⟩ := HP.out
  go_wp2_with fail
  refine (free_nil _ _ _).mono ?_
  rintro e w5 ⟨rfl, hk5⟩
  obtain ⟨Y, hY⟩ : ∃ Y, Y = w5.alloc (.cells #[.int .i64 0, .int .i64 0] 26) := ⟨_, rfl⟩
  have kY : Kept0 w5 Y := by rw [hY]; exact (Kept.refl _ w5).alloc _
  have hT5 : Two Y w5.heap.size 0 0 := by rw [hY]; exact Two.of (heap_new w5 _)
  have kk := hk5.trans kY
  replace HP := Lib.hid (HP.out.kept kk (fun e => e))
  replace K := Lib.hid (K.out.trans kk)
  replace H4 := Lib.hid (H4.out.kept0 kk)
  replace H6 := Lib.hid (H6.out.kept0 kk)
  replace H7 := Lib.hid (H7.out.kept0 kk)
  clear p0 p1 p2 p3 p4 hk5 kY kk
  obtain ⟨p0, p1, p2, p3, p4⟩ := HP.out
  have lY : w.heap.size < Y.heap.size := HP.out.lt
  rw [hY] at p0 p1 lY
  go_wp2_with fail
  rw [← hY] at p0 p1 lY ⊢
  clear hY
  refine (last_nil _ _ _).mono ?_
  rintro e w6 ⟨rfl, hk6⟩
  obtain ⟨Z, hZ⟩ : ∃ Z, Z = (w6.alloc (.cells #[.int .i64 0, .int .i64 0] 26)).alloc (.cells #[.int .i64 0, .int .i64 0, .slice none 0 0] 70) := ⟨_, rfl⟩
  have kZ : Kept0 w6 Z := by rw [hZ]; exact ((Kept.refl _ w6).alloc _).alloc _
  have hT6 : Two Z w6.heap.size 0 0 := by rw [hZ]; exact Two.of (heap_old _ _ (heap_new _ _))
  have hz0 : Z.cell? ⟨w6.heap.size + 1, 0, none⟩ = some (.int .i64 0) := by rw [hZ]; simp [go_sem]
  have kk := hk6.trans kZ
  have hT5' := hT5.kept0 kk
  have KZ := Lib.hid (K.out.trans kk)
  have h4 := H4.out.kept0 kk
  have h6 := H6.out.kept0 kk
  have h7 := H7.out.kept0 kk
  clear p0 p1 p2 p3 p4 hk6 kZ kk HP H4 H6 H7 K hT5 lY
  go_upto_region 10 with fail
  rw [← hZ]
  clear hZ
  obtain ⟨a0, a1, a2, a3, a4, a5⟩ := h4
  obtain ⟨d0, d1', d2, d3, d4, d5⟩ := h6
  obtain ⟨f0, f1, f2, f3, f4, f5⟩ := h7
  obtain ⟨t0, t1, t2, t3⟩ := hT5'
  obtain ⟨u0, u1, u2, u3⟩ := hT6
  go_wp2_with fail
  refine (HAW.out _).mono ?_
  rintro e w9 ⟨rfl, hk9⟩
  go_wp2_with fail
  go_ret
  exact ⟨by simp, KZ.out.trans hk9⟩
end Go.Proofs.Ytkdnjkcebfckiaa
