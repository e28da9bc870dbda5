/-
  The chapter's example.
-/
import Derived.Test.YtkpfhgfdfndliaaGreatDoorLvl
namespace Go.Proofs.YtkpfhgfdfndliaaGreatDoor
open Go.RowKit

def awZ : Nat → St
  | 0 => ⟨2, 3, fun _ => blk, fun _ => false, 0, 0, false⟩
  | k + 1 => putZ (awZ k) ⟨97 + (k : Int), 0, false, 0⟩ 2 false
theorem aw_cur : (awZ 4).r = 1 ∧ (awZ 4).c = 1 ∧ (awZ 4).b = false := by decide +kernel
theorem aw_feed : (feedZ (awZ 4) 1).r = 1 ∧ (feedZ (awZ 4) 1).c = 1 := by decide +kernel
theorem aw_at : (atX 2 3 (feedZ (awZ 4) 1).F 0 0).g = 100 := by decide +kernel
theorem awZ_RC : ∀ k, (awZ k).R = 2 ∧ (awZ k).C = 3
  | 0 => ⟨rfl, rfl⟩
  | k + 1 => awZ_RC k

set_option maxRecDepth 100000 in
set_option maxHeartbeats 2000000 in
theorem awake_any (w : World) (hb : Blank w) : Calls Tryz.prog 10 #[] w fun e w' => e = .returned (.bool true) ∧ Kept0 w w' := by
  have HB := Lib.hid hb
  have h0 := hb.lt
  clear hb
  go_enter Tryz.func10, Tryz.ntmps10
  go_wp2_with fail
  refine (new_scr 2 3 w HB.out (by omega)).mono ?_
  rintro e w1 ⟨s, B, rfl, hs, hBn, hk⟩
  have HU : Hid (Uno no w w1 s (awZ 0)) := ⟨B, hs, fun i hi => ⟨hBn i hi, fun e => e⟩, fun _ e => e.elim, hk⟩
  clear hs hBn hk
  go_wp2_with fail
  go_loopw [3] (fun s3 wr => ∃ k : Nat, k ≤ 4 ∧ s3 = .int .i64 (k : Int) ∧ Hid (Uno no w wr s (awZ k))) (fun s3 _ => 4 - (intOf s3).toNat)
  case atStart => exact ⟨0, by omega, rfl, HU⟩
  case round =>
    clear HU
    obtain ⟨k, hk, rfl, HU⟩ := hrel
    by_cases hlt : k < 4
    · have e1 : IntKind.i32.wrap (97 + (k : Int)) = 97 + (k : Int) := by
        rcases k with _ | _ | _ | _ | k <;> first | rfl | omega
      go_wp2_with fail
      refine (uno_call HU.out h0 (fun B hs hB0 => put_scr ⟨97 + (k : Int), 0, false, 0⟩ 2 false hs (HB.out.kept0 HU.out.old) hB0)).mono ?_
      rintro e w2 ⟨rfl, hu2, _⟩
      have HU2 : Hid (Uno no w w2 s (awZ (k + 1))) := hu2
      clear hu2 HU
      go_wp2_with fail
      go_roundw
      case rel => exact ⟨k + 1, by omega, by go_num, HU2⟩
      case measure => simp [intOf]; omega
    · obtain rfl : k = 4 := by omega
      obtain ⟨c1, c2, c3⟩ := aw_cur
      obtain ⟨d1, d2⟩ := aw_feed
      have HA := Lib.hid aw_at
      obtain ⟨z4, hz4⟩ : ∃ z4, z4 = awZ 4 := ⟨_, rfl⟩
      have e2 : z4.R = 2 := by rw [hz4]; rfl
      have e3 : z4.C = 3 := by rw [hz4]; rfl
      rw [← hz4] at HU c1 c2 c3 d1 d2 HA
      clear hz4
      obtain ⟨z5, hz5⟩ : ∃ z5, z5 = feedZ z4 1 := ⟨_, rfl⟩
      have e5 : z5.R = 2 := by rw [hz5]; exact e2
      have e6 : z5.C = 3 := by rw [hz5]; exact e3
      rw [← hz5] at d1 d2 HA
      have HZ5 := Lib.hid hz5
      clear hz5
      have HC1 : Hid (∀ X w', Uno X w w' s z4 → Calls Tryz.prog 19 #[ptr s] w' fun e w2 => e = .returned (.tuple #[pos 1 1, .bool false]) ∧ Kept0 w' w2) := fun _ w' h => by
        obtain ⟨B, h1, _⟩ := h
        have := cur_scr h1
        rwa [c1, c2, c3] at this
      have HC2 : Hid (∀ X w', Uno X w w' s z5 → Calls Tryz.prog 19 #[ptr s] w' fun e w2 => e = .returned (.tuple #[pos 1 1, .bool false]) ∧ Kept0 w' w2) := fun _ w' h => by
        obtain ⟨B, h1, _⟩ := h
        have := cur_scr h1
        rwa [d1, d2, show z5.b = false by rw [HZ5.out]; rfl] at this
      obtain ⟨y, hy⟩ : ∃ y, y = atX 2 3 z5.F 0 0 := ⟨_, rfl⟩
      have HYG : y.g = 100 := by rw [hy]; exact HA.out
      have HC3 : Hid (∀ X w', Uno X w w' s z5 → Calls Tryz.prog 22 #[ptr s, pos 0 0] w' fun e w2 => e = .returned (.tuple #[y.v, .int .i64 0]) ∧ Kept0 w' w2) := fun _ w' h => by
        obtain ⟨B, h1, _⟩ := h
        have := at_scr 0 0 h1
        rw [e5, e6, ← hy, show atE 2 3 0 0 = 0 from by decide] at this
        exact this
      clear c1 c2 c3 d1 d2 e2 e3 e5 e6 hy
      obtain ⟨yg, ya, yb, ym⟩ := y
      simp only at HYG
      subst HYG
      go_wp2_with fail
      refine (HC1.out _ _ HU.out).mono ?_
      rintro e w2 ⟨rfl, k2⟩
      have HU2 := Lib.hid (HU.out.keep k2)
      clear k2 HU
      go_wp2_with fail
      have HV := Lib.hid (HU2.out.aside (.cells #[.int .i64 1, .int .i64 1] 40))
      have T1 : Two (w2.alloc (.cells #[.int .i64 1, .int .i64 1] 40)) w2.heap.size 1 1 := Two.of (heap_new _ _)
      generalize (w2.alloc (.cells #[.int .i64 1, .int .i64 1] 40)) = V at HV T1 ⊢
      generalize w2.heap.size = b4 at HV T1 ⊢
      have HT1 := Lib.hid T1
      clear T1 HU2
      refine (uno_call HV.out h0 (fun B hs hB0 => feed_scr 1 hs (HB.out.kept0 HV.out.old) hB0 ⟨by omega, by omega⟩)).mono ?_
      rintro e w3 ⟨rfl, hu3, k3⟩
      rw [← HZ5.out] at hu3
      have HU3 := Lib.hid hu3
      have HT3 := Lib.hid (HT1.out.kept k3 (fun e => e.2 (Or.inr rfl)))
      clear hu3 k3 HV HT1
      go_wp2_with fail
      refine (HC2.out _ _ HU3.out).mono ?_
      rintro e w4 ⟨rfl, k4⟩
      have HU4 := Lib.hid (HU3.out.keep k4)
      have HT4 := Lib.hid (HT3.out.kept0 k4)
      have hl4 := HT4.out.lt
      clear k4 HU3 HT3
      go_wp2_with fail
      have HU5 := Lib.hid (HU4.out.keep ((Kept.refl (fun _ => False) w4).alloc (.cells #[.int .i64 1, .int .i64 1] 40)))
      have HT5 := Lib.hid (HT4.out.kept0 ((Kept.refl (fun _ => False) w4).alloc (.cells #[.int .i64 1, .int .i64 1] 40)))
      have T6 : Two (w4.alloc (.cells #[.int .i64 1, .int .i64 1] 40)) w4.heap.size 1 1 := Two.of (heap_new _ _)
      generalize (w4.alloc (.cells #[.int .i64 1, .int .i64 1] 40)) = V5 at HU5 HT5 T6 ⊢
      generalize w4.heap.size = b6 at T6 hl4 ⊢
      have HT6 := Lib.hid T6
      clear T6 HU4 HT4
      refine (HC3.out _ _ HU5.out).mono ?_
      rintro e w6 ⟨rfl, k6⟩
      have HU6 := Lib.hid (HU5.out.keep k6)
      obtain ⟨x0, x1, _, _⟩ := HT5.out.kept0 k6
      obtain ⟨y0, y1, _, _⟩ := HT6.out.kept0 k6
      clear k6 HU5 HT5 HT6 HC1 HC2 HC3
      have hb4 := World.block_lt_of_cell? _ _ x0
      have hb6 := World.block_lt_of_cell? _ _ y0
      have q1 : ∀ w', (Op.equalIn 10000 40 (pos 1 1) (pos 1 1)).run Tryz.prog w' = .ok true w' := fun w' => by
        rw [run_equalIn_agg w' 9999 40 _ _ (by kernel_rfl) (by kernel_rfl)]
        simp [go_sem]
      go_wp2_with fail
      go_ret
      exact ⟨rfl, HU6.out.old.alloc _⟩
end Go.Proofs.YtkpfhgfdfndliaaGreatDoor
