/-
  The document's answer: a grid's size, the place of a number.
  The document's answer: Free.
  The document's answer: Put.
  The document's answer: Guard.
-/
import Derived.Test.YtkpfhgfdfndliaaGreatDoorMSh2
namespace Go.Proofs.YtkpfhgfdfndliaaGreatDoor
open Go.RowKit

set_option maxHeartbeats 400000 in
theorem sizeR (g : Nat) (R C : Nat) (w : World) (c0 : w.cell? ⟨g, 0, none⟩ = some (.int .i64 R)) (c1 : w.cell? ⟨g, 1, none⟩ = some (.int .i64 C)) :
    Calls Tryz.prog 128 #[.pointer (some ⟨g, 0, none⟩)] w fun e w' => e = .returned (pos R C) ∧ Kept0 w w' := by
  have hgl : g < w.heap.size := World.block_lt_of_cell? w _ c0
  have b1 : ¬ g = w.heap.size := by omega
  have b2 : ¬ w.heap.size = g := by omega
  go_enter Tryz.func128, Tryz.ntmps128
  go_wp2
  go_region_held3 (fun w' => w'.cell? ⟨g, 0, none⟩ = some (.int .i64 R) ∧ w'.cell? ⟨g, 1, none⟩ = some (.int .i64 C)) (go_keep) (first | fail)
  go_wp2
  exact bodyPost_ret (v := pos R C) (by simp [results, Tryz.results128, go_sem]) rfl ⟨rfl, ((Kept.refl _ w).alloc _).drew⟩

set_option maxHeartbeats 1000000 in
theorem placeR (g C k : Nat) (w : World) (c1 : w.cell? ⟨g, 1, none⟩ = some (.int .i64 C)) (hC : 1 ≤ C) (hC2 : C ≤ 255) (hk : k ≤ 70000) :
    Calls Tryz.prog 129 #[.pointer (some ⟨g, 0, none⟩), .int .i64 (k : Int)] w fun e w' => e = .returned (pos (rowOf C k : Int) (colOf C k : Int)) ∧ Kept0 w w' := by
  have hgl : g < w.heap.size := World.block_lt_of_cell? w _ c1
  have b1 : ¬ g = w.heap.size := by omega
  have b2 : ¬ w.heap.size = g := by omega
  have n0 : ¬ ((C : Int) = 0) := by omega
  have d1 : IntKind.i64.wrap ((k : Int).tdiv (C : Int)) = (rowOf C k : Int) := by
    rw [Int.tdiv_eq_ediv_of_nonneg (by omega)]
    have h1 : (k : Int) / (C : Int) = ((k / C : Nat) : Int) := by simp
    rw [h1]
    have h2 : k / C ≤ k := Nat.div_le_self k C
    show IntKind.i64.wrap ((k / C : Nat) : Int) = ((k / C : Nat) : Int)
    generalize k / C = m at h2
    exact IntWalk.i64_in _ ⟨by omega, by omega⟩
  have d2 : (k : Int).tmod (C : Int) = (colOf C k : Int) := by
    rw [Int.tmod_eq_emod_of_nonneg (by omega)]
    simp [colOf]
  generalize (rowOf C k : Int) = a at *
  generalize (colOf C k : Int) = b at *
  generalize (k : Int) = K at *
  generalize (C : Int) = Z at *
  have D1 := Lib.hid d1
  have D2 := Lib.hid d2
  clear d1 d2 hC hC2 hk
  go_enter Tryz.func129, Tryz.ntmps129
  go_wp2
  go_region_held3 (fun w' => w'.cell? ⟨g, 1, none⟩ = some (.int .i64 Z)) (go_keep) (first | fail)
  rw [D1.out, D2.out]
  go_wp2
  exact bodyPost_ret (v := pos a b) (by simp [results, Tryz.results129, go_sem]) rfl ⟨rfl, ((Kept.refl _ w).alloc _).drew⟩

/-- The document's way to reckon a place on the way, forward. -/
theorem way_fwd {C k N i : Nat} (hC : 1 ≤ C) (hk : k < N) (hN : N ≤ 70000) (hi : i < N) :
    (IntKind.i64.wrap (IntKind.i64.wrap (IntKind.i64.wrap ((rowOf C k : Int) * (C : Int)) + (colOf C k : Int)) + (i : Int))).tmod (N : Int) = (stp N false k i : Int) := by
  have h := row_mul C k
  have h0 : 0 ≤ (rowOf C k : Int) * (C : Int) := Int.mul_nonneg (by omega) (by omega)
  rw [IntWalk.i64_in ((rowOf C k : Int) * (C : Int)) ⟨by omega, by omega⟩, h, IntWalk.i64_in (k : Int) ⟨by omega, by omega⟩, IntWalk.i64_in ((k : Int) + (i : Int)) ⟨by omega, by omega⟩, Int.tmod_eq_emod_of_nonneg (by omega)]
  simp [stp]
/-- And back. -/
theorem way_back {C k N i : Nat} (hC : 1 ≤ C) (hk : k < N) (hN : N ≤ 70000) (hi : i < N) :
    (IntKind.i64.wrap (IntKind.i64.wrap (IntKind.i64.wrap (IntKind.i64.wrap ((rowOf C k : Int) * (C : Int)) + (colOf C k : Int)) - (i : Int)) + (N : Int))).tmod (N : Int) = (stp N true k i : Int) := by
  have h := row_mul C k
  have h0 : 0 ≤ (rowOf C k : Int) * (C : Int) := Int.mul_nonneg (by omega) (by omega)
  rw [IntWalk.i64_in ((rowOf C k : Int) * (C : Int)) ⟨by omega, by omega⟩, h, IntWalk.i64_in (k : Int) ⟨by omega, by omega⟩, IntWalk.i64_in ((k : Int) - (i : Int)) ⟨by omega, by omega⟩, IntWalk.i64_in ((k : Int) - (i : Int) + (N : Int)) ⟨by omega, by omega⟩, Int.tmod_eq_emod_of_nonneg (by omega)]
  rw [show (k : Int) - (i : Int) + (N : Int) = ((k + N - i : Nat) : Int) by omega]
  simp [stp]

theorem refNear_at (R C : Nat) (r c : Int) (w : World) (h1 : 1 ≤ R) (h2 : R ≤ 255) (h3 : 1 ≤ C) (h4 : C ≤ 255) :
    Calls Tryz.prog 86 #[pos R C, pos r c] w fun e w' => e = .returned (pos (rowOf C (st R C r c) : Int) (colOf C (st R C r c) : Int)) ∧ Kept0 w w' := by
  have := refNear_any (R : Int) (C : Int) r c (may_nat h1 h2 h3 h4) w
  rw [← (row_st (r := r) (c := c) h1 h3).1, ← (row_st (r := r) (c := c) h1 h3).2] at this
  exact this

end Go.Proofs.YtkpfhgfdfndliaaGreatDoor

namespace Go.Proofs.YtkpfhgfdfndliaaGreatDoor
open Go.RowKit

set_option maxHeartbeats 4000000 in
theorem freeR (g t cap R C : Nat) (f : Nat → Cel) (r c : Int) (b : Bool) (w : World) (hg : RefAt w g t cap R C f) :
    Calls Tryz.prog 91 #[.pointer (some ⟨g, 0, none⟩), pos r c, .bool b] w fun e w' => e = .returned (.tuple #[pos (oR C (freeK (R * C) b (st R C r c) f)) (oC C (freeK (R * C) b (st R C r c) f)), .bool (freeK (R * C) b (st R C r c) f).isSome]) ∧ Kept0 w w' := by
  have hR1 := hg.R1
  have hR2 := hg.R2
  have hC1 := hg.C1
  have hC2 := hg.C2
  have hgl := hg.lt
  have htl := hg.row.lt
  have hRC : R * C ≤ 65025 := Nat.mul_le_mul hR2 hC2
  have HN : Hid (∀ w', Calls Tryz.prog 86 #[pos R C, pos r c] w' fun e w'' => e = .returned (pos (rowOf C (st R C r c) : Int) (colOf C (st R C r c) : Int)) ∧ Kept0 w' w'') := fun w' => refNear_at R C r c w' hR1 hR2 hC1 hC2
  have HK : Hid (st R C r c < R * C) := st_lt hR1 hC1
  obtain ⟨k0, hk0⟩ : ∃ k, k = st R C r c := ⟨_, rfl⟩
  rw [← hk0] at HN HK ⊢
  obtain ⟨o, ho⟩ : ∃ o, o = freeK (R * C) b k0 f := ⟨_, rfl⟩
  rw [← ho]
  have HO := Lib.hid ho
  clear ho hk0
  obtain ⟨N, hNN⟩ : ∃ N, N = R * C := ⟨_, rfl⟩
  rw [← hNN] at HO HK hRC
  have HNN := Lib.hid hNN
  clear hNN
  have HG := Lib.hid hg
  clear hg
  go_enter Tryz.func91, Tryz.ntmps91
  go_wp2_with fail
  obtain ⟨W, hW⟩ : ∃ W, W = (w.alloc (.cells #[.int .i64 r, .int .i64 c] 40)).alloc (.cells #[.int .i64 0, .int .i64 0] 40) := ⟨_, rfl⟩
  have k0w : Kept0 w W := by rw [hW]; exact ((Kept.refl _ w).alloc _).alloc _
  have hp : Two W w.heap.size r c := by rw [hW]; exact Two.of (heap_old _ _ (heap_new _ _))
  have hoo : Two W (w.heap.size + 1) 0 0 := by rw [hW]; exact Two.of (heap_new2 _ _ _)
  rw [← hW]
  clear hW
  have HGW : Hid (RefAt W g t cap R C f) := HG.out.kept k0w (fun e => e) (fun e => e)
  have HS : Hid (∀ w', Kept0 W w' → Calls Tryz.prog 128 #[.pointer (some ⟨g, 0, none⟩)] w' fun e w'' => e = .returned (pos R C) ∧ Kept0 w' w'') := fun w' k => sizeR g R C w' (kcell k HGW.out.c0) (kcell k HGW.out.c1)
  have HP := Lib.hid hp
  have lo := hoo.lt
  have HOO := Lib.hid hoo
  have KW : Hid (Kept0 w W) := k0w
  clear HG k0w hoo
  obtain ⟨p0, p1, p2, p3⟩ := hp
  have n1 : ¬ w.heap.size = W.heap.size := by omega
  have n2 : ¬ W.heap.size = w.heap.size := by omega
  go_region_held3 (fun w' => w'.cell? ⟨w.heap.size, 0, none⟩ = some (.int .i64 r) ∧ w'.cell? ⟨w.heap.size, 1, none⟩ = some (.int .i64 c)) (go_keep)
    (first
      | (go_at_call 128
         refine (HS.out _ (by first | exact (Kept.refl _ W).drew | exact ((Kept.refl _ W).alloc _).drew)).mono ?_
         rintro e z3 ⟨rfl, hk3⟩
         have kz3 : Hid (Kept0 W z3) := (by first | exact (Kept.refl _ W).drew.trans hk3 | exact ((Kept.refl _ W).alloc _).drew.trans hk3)
         have m1z3 : ¬ w.heap.size = z3.heap.size := (by have := kz3.out.size; omega)
         have m2z3 : ¬ z3.heap.size = w.heap.size := (by have := kz3.out.size; omega)
         obtain ⟨v0, v1, v2, v3⟩ := HP.out.kept0 kz3.out
         try (have hn8 := (two_newD W 40).kept0 hk3; obtain ⟨a0, a1, a2, a3⟩ := hn8))
      | (go_at_call 86
         refine (HN.out _).mono ?_
         rintro e z4 ⟨rfl, hk4⟩
         have kz4 : Hid (Kept0 W z4) := (by first | exact kz3.out.trans hk4 | exact (kz3.out.alloc _).trans hk4)
         have m1z4 : ¬ w.heap.size = z4.heap.size := (by have := kz4.out.size; omega)
         have m2z4 : ¬ z4.heap.size = w.heap.size := (by have := kz4.out.size; omega)
         obtain ⟨v0, v1, v2, v3⟩ := HP.out.kept0 kz4.out
         try (have hn8 := (two_newN z3 40).kept0 hk4; obtain ⟨a0, a1, a2, a3⟩ := hn8)
         try (have hn7 := (Two.mk a0 a1 a2 a3).kept0 hk4; obtain ⟨a0, a1, a2, a3⟩ := hn7)))
  all_goals
    first
      | (obtain ⟨b9, hb9⟩ : ∃ b9, b9 = z4.heap.size := ⟨_, rfl⟩
         obtain ⟨W9, hW9⟩ : ∃ W9, W9 = z4.alloc (.cells #[.int .i64 (rowOf C k0 : Int), .int .i64 (colOf C k0 : Int)] 40) := ⟨_, rfl⟩
         rw [← hW9, ← hb9]
         have hT9 : Two W9 b9 (rowOf C k0 : Int) (colOf C k0 : Int) := by rw [hW9, hb9]; exact Two.of (heap_new z4 _)
         have k9 : Kept0 W W9 := by rw [hW9]; exact kz4.out.alloc _
         have hle9 : W.heap.size ≤ b9 := by rw [hb9]; exact kz4.out.size
         clear hW9 hb9)
      | (obtain ⟨b9, hb9⟩ : ∃ b9, b9 = z3.heap.size := ⟨_, rfl⟩
         obtain ⟨W9, hW9⟩ : ∃ W9, W9 = (z4.setCell ⟨z3.heap.size, 0, none⟩ (.int .i64 (rowOf C k0 : Int))).setCell ⟨z3.heap.size, 1, none⟩ (.int .i64 (colOf C k0 : Int)) := ⟨_, rfl⟩
         rw [← hW9, ← hb9]
         have hT9 : Two W9 b9 (rowOf C k0 : Int) (colOf C k0 : Int) := by rw [hW9, hb9]; exact Two.set ⟨a0, a1, a2, a3⟩ (rowOf C k0 : Int) (colOf C k0 : Int)
         have k9 : Kept0 W W9 := by rw [hW9]; exact ((kz4.out.setCell _ (Or.inl kz3.out.size) _).setCell _ (Or.inl kz3.out.size) _)
         have hle9 : W.heap.size ≤ b9 := by rw [hb9]; exact kz3.out.size
         clear hW9 hb9)
      | (obtain ⟨b9, hb9⟩ : ∃ b9, b9 = W.heap.size := ⟨_, rfl⟩
         obtain ⟨W9, hW9⟩ : ∃ W9, W9 = (z4.setCell ⟨W.heap.size, 0, none⟩ (.int .i64 (rowOf C k0 : Int))).setCell ⟨W.heap.size, 1, none⟩ (.int .i64 (colOf C k0 : Int)) := ⟨_, rfl⟩
         rw [← hW9, ← hb9]
         have hT9 : Two W9 b9 (rowOf C k0 : Int) (colOf C k0 : Int) := by rw [hW9, hb9]; exact Two.set ⟨a0, a1, a2, a3⟩ (rowOf C k0 : Int) (colOf C k0 : Int)
         have k9 : Kept0 W W9 := by rw [hW9]; exact ((kz4.out.setCell _ (Or.inl (Nat.le_refl _)) _).setCell _ (Or.inl (Nat.le_refl _)) _)
         have hle9 : W.heap.size ≤ b9 := by rw [hb9]; exact (Nat.le_refl _)
         clear hW9 hb9)
    clear p0 p1 p2 p3 v0 v1 v2 v3 n1 n2 hk3 hk4 kz3 kz4 m1z3 m2z3 m1z4 m2z4 HP HN HS
    try clear a0 a1 a2 a3
    have HG9 : Hid (RefAt W9 g t cap R C f) := HGW.out.kept k9 (fun e => e) (fun e => e)
    have K9 : Hid (Kept0 w W9) := KW.out.trans k9
    have HO9 := Lib.hid (HOO.out.kept0 k9)
    have HT9 := Lib.hid hT9
    have hl9 : b9 < W9.heap.size := hT9.lt
    clear HGW KW HOO k9 hT9
    have c2 := HG9.out.c2
    rw [← HNN.out] at c2
    go_wp2_with fail
    clear c2
    go_loopw [10, 11] (fun i s11 wr => ∃ j : Nat, j ≤ N ∧ i = .int .i64 (j : Int) ∧ Hid (seekN (openP N b k0 f) N 0 = seekN (openP N b k0 f) (N - j) j) ∧ Hid (Kept0 W9 wr)) (fun i _ _ => ((N : Int) - intOf i).toNat)
    case atStart => exact ⟨0, by omega, rfl, rfl, Kept.refl _ _⟩
    case round =>
      obtain ⟨j, hj, rfl, hsk, hkr⟩ := hrel
      by_cases hlt : j < N
      · have d1 : decide ((j : Int) < (N : Int)) = true := by simp; omega
        have hGr := HG9.out.kept hkr.out (fun e => e) (fun e => e)
        have hTr := HT9.out.kept0 hkr.out
        have c1 := hGr.c1
        have c2 := hGr.c2
        rw [← HNN.out] at c2
        obtain ⟨t0, t1, t2, t3⟩ := hTr
        have n0 : ¬ ((N : Int) = 0) := by omega
        have n00 : ¬ (N = 0) := by omega
        have q1 := way_fwd (C := C) (k := k0) (N := N) (i := j) hC1 HK.out (by omega) hlt
        have q2 := way_back (C := C) (k := k0) (N := N) (i := j) hC1 HK.out (by omega) hlt
        have E0 := Lib.hid q1
        simp only [IntWalk.i64_left] at q1
        have E1 := Lib.hid q1
        have E2 := Lib.hid q2
        clear q1 q2
        obtain ⟨m, hm⟩ : ∃ m, N - j = m + 1 := ⟨N - j - 1, by omega⟩
        go_wp2_with fail
        go_region_held3 (fun w' => w'.cell? ⟨b9, 0, none⟩ = some (.int .i64 (rowOf C k0 : Int)) ∧ w'.cell? ⟨b9, 1, none⟩ = some (.int .i64 (colOf C k0 : Int)) ∧ w'.cell? ⟨g, 1, none⟩ = some (.int .i64 C)) (go_keep) (first | fail)
        first | rw [E1.out] | rw [E0.out]
        cases b
        · clear E0 E1 E2
          have hx : stp N false k0 j < N := stp_lt (by omega)
          have HOP : Hid (openP N false k0 f j = !(f (stp N false k0 j)).b) := rfl
          have HFR : Hid (openP N false k0 f j = true → freeK N false k0 f = some (stp N false k0 j)) := fun hp => by
            unfold freeK
            rw [hsk.out, hm, seekN_yes hp]
            rfl
          obtain ⟨x, hxe⟩ : ∃ x, x = stp N false k0 j := ⟨_, rfl⟩
          rw [← hxe] at hx HOP HFR ⊢
          clear hxe
          obtain ⟨e0, e1, e2, e3⟩ := hGr.row.cell (k := x) (by rw [← HNN.out]; exact hx)
          have dx : decide (N ≤ x) = false := by simp; omega
          have hx7 : x ≤ 70000 := by omega
          obtain ⟨yb, hyb⟩ : ∃ yb, yb = (f x).b := ⟨_, rfl⟩
          rw [← hyb] at e2 HOP
          clear hyb e0 e1 e3
          have lg : g < wr.heap.size := hGr.lt
          cases yb
          · have ho : o = some x := HO.out.trans (HFR.out HOP.out)
            have HO2 := Lib.hid ho
            clear ho HO HFR HOP
            go_wp2_with fail
            refine (placeR g C x _ (by exact c1) hC1 hC2 hx7).mono ?_
            rintro e w7 ⟨rfl, hk7⟩
            have hkw : Kept0 W9 w7 := (hkr.out.drew).trans hk7
            have hO7 := HO9.out.kept0 hkw
            have l7 := hO7.lt
            have K7 : Hid (Kept0 w w7) := K9.out.trans hkw
            obtain ⟨o0, o1, o2, o3⟩ := hO7
            clear hk7 hkw t0 t1 t2 t3 c1 c2 e2
            go_wp2_with fail
            exact bodyPost_ret (v := .tuple #[pos (rowOf C x : Int) (colOf C x : Int), .bool true]) (by simp [results, Tryz.results91, go_sem, o0, o1]) rfl ⟨by rw [HO2.out]; rfl, (K7.out.setCell _ (Or.inl (Nat.le_add_right _ 1)) _).setCell _ (Or.inl (Nat.le_add_right _ 1)) _⟩
          · have HF : Hid (seekN (openP N false k0 f) N 0 = seekN (openP N false k0 f) (N - (j + 1)) (j + 1)) := by
              show seekN (openP N false k0 f) N 0 = seekN (openP N false k0 f) (N - (j + 1)) (j + 1)
              rw [hsk.out, hm, seekN_no HOP.out, show N - (j + 1) = m by omega]
            clear HO HFR HOP
            go_wp2_with fail
            refine ⟨⟨j + 1, by omega, by simp, HF, hkr.out.drew⟩, ?_⟩
            simp [intOf]
            omega
        · go_wp2_with fail
          go_region_held3 (fun w' => w'.cell? ⟨b9, 0, none⟩ = some (.int .i64 (rowOf C k0 : Int)) ∧ w'.cell? ⟨b9, 1, none⟩ = some (.int .i64 (colOf C k0 : Int)) ∧ w'.cell? ⟨g, 1, none⟩ = some (.int .i64 C)) (go_keep) (first | fail)
          rw [E2.out]
          clear E0 E1 E2
          have hx : stp N true k0 j < N := stp_lt (by omega)
          have HOP : Hid (openP N true k0 f j = !(f (stp N true k0 j)).b) := rfl
          have HFR : Hid (openP N true k0 f j = true → freeK N true k0 f = some (stp N true k0 j)) := fun hp => by
            unfold freeK
            rw [hsk.out, hm, seekN_yes hp]
            rfl
          obtain ⟨x, hxe⟩ : ∃ x, x = stp N true k0 j := ⟨_, rfl⟩
          rw [← hxe] at hx HOP HFR ⊢
          clear hxe
          obtain ⟨e0, e1, e2, e3⟩ := hGr.row.cell (k := x) (by rw [← HNN.out]; exact hx)
          have dx : decide (N ≤ x) = false := by simp; omega
          have hx7 : x ≤ 70000 := by omega
          obtain ⟨yb, hyb⟩ : ∃ yb, yb = (f x).b := ⟨_, rfl⟩
          rw [← hyb] at e2 HOP
          clear hyb e0 e1 e3
          have lg : g < wr.heap.size := hGr.lt
          cases yb
          · have ho : o = some x := HO.out.trans (HFR.out HOP.out)
            have HO2 := Lib.hid ho
            clear ho HO HFR HOP
            go_wp2_with fail
            refine (placeR g C x _ (by exact c1) hC1 hC2 hx7).mono ?_
            rintro e w7 ⟨rfl, hk7⟩
            have hkw : Kept0 W9 w7 := (hkr.out.drew.drew).trans hk7
            have hO7 := HO9.out.kept0 hkw
            have l7 := hO7.lt
            have K7 : Hid (Kept0 w w7) := K9.out.trans hkw
            obtain ⟨o0, o1, o2, o3⟩ := hO7
            clear hk7 hkw t0 t1 t2 t3 c1 c2 e2
            go_wp2_with fail
            exact bodyPost_ret (v := .tuple #[pos (rowOf C x : Int) (colOf C x : Int), .bool true]) (by simp [results, Tryz.results91, go_sem, o0, o1]) rfl ⟨by rw [HO2.out]; rfl, (K7.out.setCell _ (Or.inl (Nat.le_add_right _ 1)) _).setCell _ (Or.inl (Nat.le_add_right _ 1)) _⟩
          · have HF : Hid (seekN (openP N true k0 f) N 0 = seekN (openP N true k0 f) (N - (j + 1)) (j + 1)) := by
              show seekN (openP N true k0 f) N 0 = seekN (openP N true k0 f) (N - (j + 1)) (j + 1)
              rw [hsk.out, hm, seekN_no HOP.out, show N - (j + 1) = m by omega]
            clear HO HFR HOP
            go_wp2_with fail
            refine ⟨⟨j + 1, by omega, by simp, HF, hkr.out.drew.drew⟩, ?_⟩
            simp [intOf]
            omega
      · obtain rfl : j = N := by omega
        have d1 : decide ((j : Int) < (j : Int)) = false := by simp
        have ho : o = none := by
          rw [HO.out]
          unfold freeK
          rw [hsk.out, Nat.sub_self]
          rfl
        have HO2 := Lib.hid ho
        clear ho HO
        have hO7 := HO9.out.kept0 hkr.out
        have l7 := hO7.lt
        have K7 : Hid (Kept0 w wr) := K9.out.trans hkr.out
        obtain ⟨o0, o1, o2, o3⟩ := hO7
        go_wp2_with fail
        exact bodyPost_ret (v := .tuple #[pos 0 0, .bool false]) (by simp [results, Tryz.results91, go_sem, o0, o1]) rfl ⟨by rw [HO2.out]; rfl, (K7.out.setCell _ (Or.inl (Nat.le_add_right _ 1)) _).setCell _ (Or.inl (Nat.le_add_right _ 1)) _⟩

end Go.Proofs.YtkpfhgfdfndliaaGreatDoor

namespace Go.Proofs.YtkpfhgfdfndliaaGreatDoor
open Go.RowKit

theorem refNext_at (R C : Nat) (r c : Int) (w : World) (h1 : 1 ≤ R) (h2 : R ≤ 255) :
    Calls Tryz.prog 148 #[pos R C, pos (nr r R) c] w fun e w' => e = .returned (.tuple #[pos (nextR R (nr r R)) 0, .bool (nr r R == (R : Int) - 1)]) ∧ Kept0 w w' :=
  refNext_any (R : Int) (C : Int) (nr r R) c (by omega) (by omega) (nr_lo _ _) (nr_hi _ _ (by omega)) w

theorem refBehind_any' (R C : Nat) (p q k : Int) (w : World) (h1 : 1 ≤ R) (h2 : R ≤ 255) (h3 : 1 ≤ C) (h4 : C ≤ 255) (hth : There R C p q) :
    Calls Tryz.prog 149 #[pos R C, pos p q, .int .i64 k] w fun e w' => e = .returned (.tuple #[pos (bR R C p q k) (bC C q k), .bool (bP C q k), .bool (bU R C p q k)]) ∧ Kept0 w w' := by
  have hm := may_nat h1 h2 h3 h4
  have e1 : nr p R = p := nr_in _ _ hth.1 hth.2.1
  have e2 : nr q C = q := nr_in _ _ hth.2.2.1 hth.2.2.2
  have := refBehind_core (R : Int) (C : Int) p q k hm (decide (nr q C < (C : Int) - 1)) (k == 1) (k == 2) rfl rfl rfl w
  rw [e1, e2] at this
  have hv : refBehindV (R : Int) p q (decide (q < (C : Int) - 1)) (k == 1) (k == 2) = .tuple #[pos (bR R C p q k) (bC C q k), .bool (bP C q k), .bool (bU R C p q k)] := by
    unfold refBehindV bR bC bP bU
    by_cases g1 : q < (C : Int) - 1
    · simp [g1]
    · by_cases g2 : k = 1
      · simp [g1, g2]
      · by_cases g3 : k = 2
        · simp [g1, g3]
        · simp [g1, g2, g3]
  rw [hv] at this
  exact this

/-- What stands while the document's Put works. -/
structure Rp (w wx : World) (g t cap R C : Nat) (F : Nat → Cel) (r c : Int) (b : Bool) (x bl : Cel) : Prop where
  at0 : Three wx w.heap.size r c b
  x : CelAt wx (w.heap.size + 1) x
  bl : CelAt wx (w.heap.size + 1 + 1) bl
  out : Three wx (w.heap.size + 1 + 1 + 1) 0 0 false
  ref : RefAt wx g t cap R C F
  kept : Kept (· = t) w wx
  tl : t < w.heap.size
  gl : g < w.heap.size
theorem Rp.keep {w wx wy : World} {g t cap R C : Nat} {F : Nat → Cel} {r c : Int} {b : Bool} {x bl : Cel} (h : Rp w wx g t cap R C F r c b x bl) (k : Kept0 wx wy) : Rp w wy g t cap R C F r c b x bl :=
  ⟨h.at0.kept0 k, h.x.kept k (fun e => e), h.bl.kept k (fun e => e), h.out.kept0 k, h.ref.kept k (fun e => e) (fun e => e), h.kept.trans (Kept0.to k), h.tl, h.gl⟩
theorem Rp.turn {w wx wy : World} {g t cap R C : Nat} {F F' : Nat → Cel} {r c : Int} {b : Bool} {x bl : Cel} (h : Rp w wx g t cap R C F r c b x bl) (k : Kept (· = t) wx wy) (hr : RefAt wy g t cap R C F') : Rp w wy g t cap R C F' r c b x bl := by
  have h1 := h.tl
  exact ⟨h.at0.kept k (by omega), h.x.kept k (by omega), h.bl.kept k (by omega), h.out.kept k (by omega), hr, h.kept.trans k, h.tl, h.gl⟩
theorem Rp.apart {w wx wy : World} {g t cap R C q : Nat} {F : Nat → Cel} {r c : Int} {b : Bool} {x bl : Cel} (h : Rp w wx g t cap R C F r c b x bl) (k : Kept (· = q) wx wy) (hq : w.heap.size + 1 + 1 + 1 < q) : Rp w wy g t cap R C F r c b x bl := by
  have h1 := h.tl
  have h2 := h.gl
  exact ⟨h.at0.kept k (by omega), h.x.kept k (by omega), h.bl.kept k (by omega), h.out.kept k (by omega), h.ref.kept k (by omega) (by omega), h.kept.later k (fun i hi e => by omega), h.tl, h.gl⟩
theorem Rp.size {w wx : World} {g t cap R C : Nat} {F : Nat → Cel} {r c : Int} {b : Bool} {x bl : Cel} (h : Rp w wx g t cap R C F r c b x bl) (w' : World) (k : Kept0 wx w') : Calls Tryz.prog 128 #[.pointer (some ⟨g, 0, none⟩)] w' fun e w'' => e = .returned (pos R C) ∧ Kept0 w' w'' :=
  sizeR g R C w' (kcell k h.ref.c0) (kcell k h.ref.c1)

set_option maxHeartbeats 8000000 in
theorem putR_any (g t cap R C : Nat) (f : Nat → Cel) (r c k : Int) (b : Bool) (x bl : Cel) (w : World) (hg : RefAt w g t cap R C f) :
    Calls Tryz.prog 115 #[.pointer (some ⟨g, 0, none⟩), place r c b, x.v, .int .i64 k, bl.v] w fun e w' => e = .returned (.tuple #[place (putR R C r c b k) (putC C c b k) (putP C c b k), .int .i64 (putN R C r c b k)]) ∧ RefAt w' g t cap R C (putF R C f r c b x k bl) ∧ Kept (· = t) w w' := by
  have hR1 := hg.R1
  have hR2 := hg.R2
  have hC1 := hg.C1
  have hC2 := hg.C2
  have hgl := hg.lt
  have htl := hg.row.lt
  have hRC : R * C ≤ 65025 := Nat.mul_le_mul hR2 hC2
  have HN : Hid (∀ w', Calls Tryz.prog 86 #[pos R C, pos r c] w' fun e w'' => e = .returned (pos (nr r R) (nr c C)) ∧ Kept0 w' w'') := fun w' => refNear_any (R : Int) (C : Int) r c (may_nat hR1 hR2 hC1 hC2) w'
  have HX : Hid (∀ w', Calls Tryz.prog 148 #[pos R C, pos (nr r R) (nr c C)] w' fun e w'' => e = .returned (.tuple #[pos (nextR R (nr r R)) 0, .bool (nr r R == (R : Int) - 1)]) ∧ Kept0 w' w'') := fun w' => refNext_at R C r (nr c C) w' hR1 hR2
  have hth : There R C (aR R r b) (aC C c b) := a_there hR1 hC1
  have HB : Hid (∀ w', Calls Tryz.prog 149 #[pos R C, pos (aR R r b) (aC C c b), .int .i64 k] w' fun e w'' => e = .returned (.tuple #[pos (putR R C r c b k) (putC C c b k), .bool (putP C c b k), .bool (bU R C (aR R r b) (aC C c b) k)]) ∧ Kept0 w' w'') := fun w' => refBehind_any' R C _ _ k w' hR1 hR2 hC1 hC2 hth
  have HTH := Lib.hid hth
  clear hth
  have HG := Lib.hid hg
  clear hg
  go_enter Tryz.func115, Tryz.ntmps115
  go_wp2_with fail
  obtain ⟨W, hW⟩ : ∃ W, W = (((w.alloc (.cells #[.int .i64 r, .int .i64 c, .bool b] 83)).alloc (.cells #[.int .i32 x.g, .int .i64 x.a, .bool x.b, .int .i64 x.m] 36)).alloc (.cells #[.int .i32 bl.g, .int .i64 bl.a, .bool bl.b, .int .i64 bl.m] 36)).alloc (.cells #[.int .i64 0, .int .i64 0, .bool false] 83) := ⟨_, rfl⟩
  have k0 : Kept0 w W := by rw [hW]; exact ((((Kept.refl _ w).alloc _).alloc _).alloc _).alloc _
  have hRp : Rp w W g t cap R C f r c b x bl := by
    refine ⟨?_, ?_, ?_, ?_, HG.out.kept k0 (fun e => e) (fun e => e), Kept0.to k0, htl, hgl⟩
    · rw [hW]; exact Three.of (heap_old _ _ (heap_old _ _ (heap_old _ _ (heap_new _ _))))
    · rw [hW]; constructor <;> simp [go_sem]
    · rw [hW]; constructor <;> simp [go_sem]
    · rw [hW]; exact Three.of (by have := heap_newC (w.alloc (.cells #[.int .i64 r, .int .i64 c, .bool b] 83)) (.cells #[.int .i32 x.g, .int .i64 x.a, .bool x.b, .int .i64 x.m] 36) (.cells #[.int .i32 bl.g, .int .i64 bl.a, .bool bl.b, .int .i64 bl.m] 36) (.cells #[.int .i64 0, .int .i64 0, .bool false] 83); rwa [World.size_alloc] at this)
  rw [← hW]
  clear hW HG k0
  have HR := Lib.hid hRp
  have lo := hRp.out.lt
  clear hRp
  go_cut [13] from 19 to 23 (fun s13 wx => ∃ b9 : Nat, s13 = .pointer (some ⟨b9, 0, none⟩) ∧ w.heap.size + 1 + 1 + 1 < b9 ∧ Hid (Two wx b9 (nr r R) (nr c C)) ∧ Hid (Rp w wx g t cap R C f r c b x bl))
  case first =>
    obtain ⟨p0, p1, p9, p3, p4, p5⟩ := HR.out.at0
    have n1 : ¬ w.heap.size = W.heap.size := by omega
    have n2 : ¬ W.heap.size = w.heap.size := by omega
    have HS := Lib.hid HR.out.size
    go_region_held3 (fun w' => w'.cell? ⟨w.heap.size, 0, none⟩ = some (.int .i64 r) ∧ w'.cell? ⟨w.heap.size, 1, none⟩ = some (.int .i64 c)) (go_keep)
      (first
          | (go_at_call 128
             refine (HS.out _ (by first | exact (Kept.refl _ W).drew | exact ((Kept.refl _ W).alloc _).drew)).mono ?_
             rintro e z3 ⟨rfl, hk3⟩
             have kz3 : Hid (Kept0 W z3) := (by first | exact (Kept.refl _ W).drew.trans hk3 | exact ((Kept.refl _ W).alloc _).drew.trans hk3)
             have m1z3 : ¬ w.heap.size = z3.heap.size := (by have := kz3.out.size; omega)
             have m2z3 : ¬ z3.heap.size = w.heap.size := (by have := kz3.out.size; omega)
             obtain ⟨v0, v1, v2, v3, v4, v5⟩ := HR.out.at0.kept0 kz3.out
             try (have hn8 := (two_newD W 40).kept0 hk3; obtain ⟨a0, a1, a2, a3⟩ := hn8))
          | (go_at_call 86
             refine (HN.out _).mono ?_
             rintro e z4 ⟨rfl, hk4⟩
             have kz4 : Hid (Kept0 W z4) := (by first | exact kz3.out.trans hk4 | exact (kz3.out.alloc _).trans hk4)
             have m1z4 : ¬ w.heap.size = z4.heap.size := (by have := kz4.out.size; omega)
             have m2z4 : ¬ z4.heap.size = w.heap.size := (by have := kz4.out.size; omega)
             obtain ⟨v0, v1, v2, v3, v4, v5⟩ := HR.out.at0.kept0 kz4.out
             try (have hn8 := (two_newN z3 40).kept0 hk4; obtain ⟨a0, a1, a2, a3⟩ := hn8)
             try (have hn7 := (Two.mk a0 a1 a2 a3).kept0 hk4; obtain ⟨a0, a1, a2, a3⟩ := hn7)))
    all_goals
      first
        | (obtain ⟨b9, hb9⟩ : ∃ b9, b9 = z4.heap.size := ⟨_, rfl⟩
           obtain ⟨W9, hW9⟩ : ∃ W9, W9 = z4.alloc (.cells #[.int .i64 (nr r R), .int .i64 (nr c C)] 40) := ⟨_, rfl⟩
           rw [← hW9, ← hb9]
           have hT9 : Two W9 b9 (nr r R) (nr c C) := by rw [hW9, hb9]; exact Two.of (heap_new z4 _)
           have k9 : Kept0 W W9 := by rw [hW9]; exact kz4.out.alloc _
           have hle9 : W.heap.size ≤ b9 := by rw [hb9]; exact kz4.out.size
           clear hW9 hb9)
        | (obtain ⟨b9, hb9⟩ : ∃ b9, b9 = z3.heap.size := ⟨_, rfl⟩
           obtain ⟨W9, hW9⟩ : ∃ W9, W9 = (z4.setCell ⟨z3.heap.size, 0, none⟩ (.int .i64 (nr r R))).setCell ⟨z3.heap.size, 1, none⟩ (.int .i64 (nr c C)) := ⟨_, rfl⟩
           rw [← hW9, ← hb9]
           have hT9 : Two W9 b9 (nr r R) (nr c C) := by rw [hW9, hb9]; exact Two.set ⟨a0, a1, a2, a3⟩ (nr r R) (nr c C)
           have k9 : Kept0 W W9 := by rw [hW9]; exact ((kz4.out.setCell _ (Or.inl kz3.out.size) _).setCell _ (Or.inl kz3.out.size) _)
           have hle9 : W.heap.size ≤ b9 := by rw [hb9]; exact kz3.out.size
           clear hW9 hb9)
        | (obtain ⟨b9, hb9⟩ : ∃ b9, b9 = W.heap.size := ⟨_, rfl⟩
           obtain ⟨W9, hW9⟩ : ∃ W9, W9 = (z4.setCell ⟨W.heap.size, 0, none⟩ (.int .i64 (nr r R))).setCell ⟨W.heap.size, 1, none⟩ (.int .i64 (nr c C)) := ⟨_, rfl⟩
           rw [← hW9, ← hb9]
           have hT9 : Two W9 b9 (nr r R) (nr c C) := by rw [hW9, hb9]; exact Two.set ⟨a0, a1, a2, a3⟩ (nr r R) (nr c C)
           have k9 : Kept0 W W9 := by rw [hW9]; exact ((kz4.out.setCell _ (Or.inl (Nat.le_refl _)) _).setCell _ (Or.inl (Nat.le_refl _)) _)
           have hle9 : W.heap.size ≤ b9 := by rw [hb9]; exact (Nat.le_refl _)
           clear hW9 hb9)
      have HF := Lib.hid (HR.out.keep k9)
      go_wp2_with fail
      go_meet
      exact ⟨b9, rfl, by omega, hT9, HF⟩
  case rest =>
  obtain ⟨b9, rfl, hb9, hT, HR2⟩ := hcut
  clear HR HN
  obtain ⟨p0, p1, p9, p3, p4, p5⟩ := HR2.out.at0
  go_upto_if 25 with fail
  clear p0 p1 p9 p3 p4 p5
  go_cut [12, 14, 15] from 26 to 39 (fun s12 _ _ wx => s12 = .int .i64 (liftN (aU R r b)) ∧ Hid (Two wx b9 (aR R r b) (aC C c b)) ∧ Hid (Rp w wx g t cap R C (liftF R C f (aU R r b) bl) r c b x bl))
  case first =>
    clear HB HTH
    cases b
    · go_wp2_with fail
      go_wp2_with fail
      go_meet
      exact ⟨rfl, hT, HR2⟩
    · have HS := Lib.hid HR2.out.size
      have l9 : b9 < wc.heap.size := hT.out.lt
      go_upto_region 4 with fail
      go_cut [14, 15] from 26 to 32 (fun s14 s15 wx => ∃ b8 : Nat, s14 = .pointer (some ⟨b8, 0, none⟩) ∧ s15 = .bool (nr r R == (R : Int) - 1) ∧ w.heap.size + 1 + 1 + 1 < b8 ∧ b9 ≠ b8 ∧ Hid (Two wx b8 (nextR R (nr r R)) 0) ∧ Hid (Two wx b9 (nr r R) (nr c C)) ∧ Hid (Rp w wx g t cap R C f r c true x bl))
      case first =>
        obtain ⟨t0, t1, t2, t3⟩ := hT.out
        have n1 : ¬ b9 = wc.heap.size := by omega
        have n2 : ¬ wc.heap.size = b9 := by omega
        generalize (nr r R == (R : Int) - 1) = u at *
        generalize nextR R (nr r R) = p' at *
        go_region_held3 (fun w' => w'.cell? ⟨b9, 0, none⟩ = some (.int .i64 (nr r R)) ∧ w'.cell? ⟨b9, 1, none⟩ = some (.int .i64 (nr c C))) (go_keep)
          (first
              | (go_at_call 128
                 refine (HS.out _ (by first | exact (Kept.refl _ wc).drew | exact ((Kept.refl _ wc).alloc _).drew)).mono ?_
                 rintro e z3 ⟨rfl, hk3⟩
                 have kz3 : Hid (Kept0 wc z3) := (by first | exact (Kept.refl _ wc).drew.trans hk3 | exact ((Kept.refl _ wc).alloc _).drew.trans hk3)
                 have m1z3 : ¬ b9 = z3.heap.size := (by have := kz3.out.size; omega)
                 have m2z3 : ¬ z3.heap.size = b9 := (by have := kz3.out.size; omega)
                 obtain ⟨v0, v1, v2, v3⟩ := hT.out.kept0 kz3.out
                 try (have hn8 := (two_newD wc 40).kept0 hk3; obtain ⟨a0, a1, a2, a3⟩ := hn8))
              | (go_at_call 148
                 refine (HX.out _).mono ?_
                 rintro e z4 ⟨rfl, hk4⟩
                 have kz4 : Hid (Kept0 wc z4) := (by first | exact kz3.out.trans hk4 | exact (kz3.out.alloc _).trans hk4)
                 have m1z4 : ¬ b9 = z4.heap.size := (by have := kz4.out.size; omega)
                 have m2z4 : ¬ z4.heap.size = b9 := (by have := kz4.out.size; omega)
                 obtain ⟨v0, v1, v2, v3⟩ := hT.out.kept0 kz4.out
                 try (have hn8 := (two_newN z3 40).kept0 hk4; obtain ⟨a0, a1, a2, a3⟩ := hn8)
                 try (have hn7 := (Two.mk a0 a1 a2 a3).kept0 hk4; obtain ⟨a0, a1, a2, a3⟩ := hn7)))
        all_goals
          first
            | (obtain ⟨b8, hb9⟩ : ∃ b8, b8 = z4.heap.size := ⟨_, rfl⟩
               obtain ⟨W8, hW9⟩ : ∃ W8, W8 = z4.alloc (.cells #[.int .i64 p', .int .i64 0] 40) := ⟨_, rfl⟩
               rw [← hW9, ← hb9]
               have hT9 : Two W8 b8 p' 0 := by rw [hW9, hb9]; exact Two.of (heap_new z4 _)
               have k9 : Kept0 wc W8 := by rw [hW9]; exact kz4.out.alloc _
               have hle9 : wc.heap.size ≤ b8 := by rw [hb9]; exact kz4.out.size
               clear hW9 hb9)
            | (obtain ⟨b8, hb9⟩ : ∃ b8, b8 = z3.heap.size := ⟨_, rfl⟩
               obtain ⟨W8, hW9⟩ : ∃ W8, W8 = (z4.setCell ⟨z3.heap.size, 0, none⟩ (.int .i64 p')).setCell ⟨z3.heap.size, 1, none⟩ (.int .i64 0) := ⟨_, rfl⟩
               rw [← hW9, ← hb9]
               have hT9 : Two W8 b8 p' 0 := by rw [hW9, hb9]; exact Two.set ⟨a0, a1, a2, a3⟩ p' 0
               have k9 : Kept0 wc W8 := by rw [hW9]; exact ((kz4.out.setCell _ (Or.inl kz3.out.size) _).setCell _ (Or.inl kz3.out.size) _)
               have hle9 : wc.heap.size ≤ b8 := by rw [hb9]; exact kz3.out.size
               clear hW9 hb9)
            | (obtain ⟨b8, hb9⟩ : ∃ b8, b8 = wc.heap.size := ⟨_, rfl⟩
               obtain ⟨W8, hW9⟩ : ∃ W8, W8 = (z4.setCell ⟨wc.heap.size, 0, none⟩ (.int .i64 p')).setCell ⟨wc.heap.size, 1, none⟩ (.int .i64 0) := ⟨_, rfl⟩
               rw [← hW9, ← hb9]
               have hT9 : Two W8 b8 p' 0 := by rw [hW9, hb9]; exact Two.set ⟨a0, a1, a2, a3⟩ p' 0
               have k9 : Kept0 wc W8 := by rw [hW9]; exact ((kz4.out.setCell _ (Or.inl (Nat.le_refl _)) _).setCell _ (Or.inl (Nat.le_refl _)) _)
               have hle9 : wc.heap.size ≤ b8 := by rw [hb9]; exact (Nat.le_refl _)
               clear hW9 hb9)
          have HF := Lib.hid (HR2.out.keep k9)
          have HT9 := Lib.hid (hT.out.kept0 k9)
          go_wp2_with fail
          go_meet
          exact ⟨b8, rfl, rfl, by have := HR2.out.out.lt; omega, by omega, hT9, HT9, HF⟩
      case rest =>
      obtain ⟨b8, rfl, rfl, hb8, hne, hT8, hT9, HR3⟩ := hcut
      clear HR2 hT HS HX
      have hn1 : ¬ b9 = b8 := hne
      have hn2 : ¬ b8 = b9 := fun e => hne e.symm
      have l8 := hT8.out.lt
      obtain ⟨t0, t1, t2, t3⟩ := hT8.out
      obtain ⟨y0, y1, y2, y3⟩ := hT9.out
      go_upto_if 34 with fail
      obtain ⟨V, hV⟩ : ∃ V, V = (wc.setCell ⟨b9, 0, none⟩ (.int .i64 (nextR R (nr r R)))).setCell ⟨b9, 1, none⟩ (.int .i64 0) := ⟨_, rfl⟩
      have hTV : Hid (Two V b9 (aR R r true) (aC C c true)) := by rw [hV]; exact hT9.out.set _ _
      have kV : Kept (· = b9) wc V := by rw [hV]; exact (Kept.set1 wc b9 0 _).trans (Kept.set1 _ b9 1 _)
      have HRV := Lib.hid (HR3.out.apart kV hb9)
      rw [← hV]
      clear hV t0 t1 t2 t3 y0 y1 y2 y3 hT8 hT9 HR3 kV
      have hU : aU R r true = (nr r R == (R : Int) - 1) := by simp [aU]
      cases hu : (nr r R == (R : Int) - 1)
      · have HU := Lib.hid (hU.trans hu)
        clear hU hu
        go_wp2_with fail
        go_meet
        exact ⟨by rw [HU.out]; rfl, hTV, by rw [HU.out]; exact HRV⟩
      · have HU := Lib.hid (hU.trans hu)
        clear hU hu
        have HUP : Hid (Calls Tryz.prog 88 #[.pointer (some ⟨g, 0, none⟩), .int .i64 1, bl.v] V fun e w' => e = .returned (.tuple #[]) ∧ RefAt w' g t cap R C (upF R C f 1 bl) ∧ Kept (· = t) V w') := upR g t cap R C f 1 bl V HRV.out.ref (by omega)
        obtain ⟨d0, d1, d2, d3⟩ := HRV.out.bl
        go_wp2_with fail
        refine HUP.out.mono ?_
        rintro e w5 ⟨rfl, hr5, hk5⟩
        have HR5 := Lib.hid (HRV.out.turn hk5 hr5)
        have hT5 := Lib.hid (hTV.out.kept hk5 (by have := HRV.out.tl; omega))
        clear hr5 hk5 d0 d1 d2 d3 HUP
        go_wp2_with fail
        go_meet
        exact ⟨by rw [HU.out]; rfl, hT5, by rw [HU.out]; exact HR5⟩
  case rest =>
  clear HR2 hT HX
  obtain ⟨rfl, hT, HR4⟩ := hcut
  generalize hf1 : liftF R C f (aU R r b) bl = f1 at *
  have hx := HR4.out.ref
  have hne := hx.ne
  have htl2 := HR4.out.tl
  have hgl2 := HR4.out.gl
  have hw1 : IntKind.i64.wrap (IntKind.i64.wrap (aR R r b * (C : Int)) + aC C c b) = (idx C (aR R r b) (aC C c b) : Int) := wrap_idx HTH.out hR2 hC2
  have hli := idx_lt HTH.out
  have HPF : Hid (putF R C f r c b x k bl = liftF R C (upd f1 (idx C (aR R r b) (aC C c b)) x) (bU R C (aR R r b) (aC C c b) k) bl) := by show _ = _; rw [← hf1]; rfl
  have HPN : Hid (putN R C r c b k = liftN (aU R r b) + liftN (bU R C (aR R r b) (aC C c b) k)) := rfl
  have hn1 := liftN_in (aU R r b)
  have hn2 := liftN_in (bU R C (aR R r b) (aC C c b) k)
  clear hf1
  generalize liftN (aU R r b) = m1 at *
  generalize idx C (aR R r b) (aC C c b) = ix at *
  generalize aR R r b = p at *
  generalize aC C c b = q at *
  obtain ⟨N, hN⟩ : ∃ N, N = R * C := ⟨_, rfl⟩
  have c1 := hx.c1
  have c2 := hx.c2
  obtain ⟨e0, e1, e2, e3⟩ := hx.row.cell hli
  have f0 := hx.row.frozen (ix * 4)
  have f1' := hx.row.frozen (ix * 4 + 1)
  have f2 := hx.row.frozen (ix * 4 + 2)
  have f3 := hx.row.frozen (ix * 4 + 3)
  obtain ⟨t0, t1, t2, t3⟩ := hT.out
  obtain ⟨x0, x1, x2, x3⟩ := HR4.out.x
  rw [← hN] at c2 hli hRC
  clear hN
  have g1 : ¬ g = t := hne
  have g2 : ¬ t = g := fun e => hne e.symm
  have g3 : ¬ b9 = t := by omega
  have g4 : ¬ t = b9 := by omega
  have g5 : ¬ w.heap.size + 1 = t := by omega
  have g6 : ¬ t = w.heap.size + 1 := by omega
  clear hx hne
  go_upto_region 9 with fail
  go_region_held3 (fun w' => w'.cell? ⟨g, 1, none⟩ = some (.int .i64 C) ∧ w'.cell? ⟨g, 2, none⟩ = some (Value.slice (some ⟨t, 0, none⟩) N cap) ∧ w'.cell? ⟨b9, 0, none⟩ = some (.int .i64 p) ∧ w'.cell? ⟨b9, 1, none⟩ = some (.int .i64 q) ∧ w'.cell? ⟨w.heap.size + 1, 0, none⟩ = some (.int .i32 x.g) ∧ w'.cell? ⟨w.heap.size + 1, 1, none⟩ = some (.int .i64 x.a) ∧ w'.cell? ⟨w.heap.size + 1, 2, none⟩ = some (.bool x.b) ∧ w'.cell? ⟨w.heap.size + 1, 3, none⟩ = some (.int .i64 x.m)) (go_keep) (first | fail)
  obtain ⟨V, hV⟩ : ∃ V, V = ((((wc.setCell ⟨t, ix * 4, none⟩ (.int .i32 x.g)).setCell ⟨t, ix * 4 + 1, none⟩ (.int .i64 x.a)).setCell ⟨t, ix * 4 + 2, none⟩ (.bool x.b)).setCell ⟨t, ix * 4 + 3, none⟩ (.int .i64 x.m)).drew := ⟨_, rfl⟩
  have kV : Kept (· = t) wc V := by rw [hV]; exact ((Kept.refl (· = t) wc).setCel t (ix * 4) (Or.inr rfl) x).drew
  have hrV : RefAt V g t cap R C (upd f1 ix x) := HR4.out.ref.withRow kV (by rw [hV]; exact CellsAt.drewN (HR4.out.ref.row.set ix x) 1)
  have HRV := Lib.hid (HR4.out.turn kV hrV)
  have hTV := Lib.hid (hT.out.kept kV g3)
  rw [← hV]
  clear hV hrV kV HR4 hT c1 c2 e0 e1 e2 e3 f0 f1' f2 f3 t0 t1 t2 t3 x0 x1 x2 x3 hw1 hli
  generalize hp2 : putR R C r c b k = p2 at HB
  generalize hq2 : putC C c b k = q2 at HB
  generalize hvv : putP C c b k = vv at HB
  have HP2 := Lib.hid hp2
  have HQ2 := Lib.hid hq2
  have HVV := Lib.hid hvv
  clear hp2 hq2 hvv
  generalize bU R C p q k = u2 at *
  go_upto_region 10 with fail
  go_cut [16, 17, 18] from 56 to 64 (fun s16 s17 s18 wx => ∃ b8 : Nat, s16 = .pointer (some ⟨b8, 0, none⟩) ∧ s17 = .bool vv ∧ s18 = .bool u2 ∧ w.heap.size + 1 + 1 + 1 < b8 ∧ Hid (Two wx b8 p2 q2) ∧ Hid (Rp w wx g t cap R C (upd f1 ix x) r c b x bl))
  case first =>
    have HS := Lib.hid HRV.out.size
    have l9 : b9 < V.heap.size := hTV.out.lt
    obtain ⟨t0, t1, t2, t3⟩ := hTV.out
    have n1 : ¬ b9 = V.heap.size := by omega
    have n2 : ¬ V.heap.size = b9 := by omega
    go_region_held3 (fun w' => w'.cell? ⟨b9, 0, none⟩ = some (.int .i64 p) ∧ w'.cell? ⟨b9, 1, none⟩ = some (.int .i64 q)) (go_keep)
      (first
          | (go_at_call 128
             refine (HS.out _ (by first | exact (Kept.refl _ V).drew | exact ((Kept.refl _ V).alloc _).drew)).mono ?_
             rintro e z3 ⟨rfl, hk3⟩
             have kz3 : Hid (Kept0 V z3) := (by first | exact (Kept.refl _ V).drew.trans hk3 | exact ((Kept.refl _ V).alloc _).drew.trans hk3)
             have m1z3 : ¬ b9 = z3.heap.size := (by have := kz3.out.size; omega)
             have m2z3 : ¬ z3.heap.size = b9 := (by have := kz3.out.size; omega)
             obtain ⟨v0, v1, v2, v3⟩ := hTV.out.kept0 kz3.out
             try (have hn8 := (two_newD V 40).kept0 hk3; obtain ⟨a0, a1, a2, a3⟩ := hn8))
          | (go_at_call 149
             refine (HB.out _).mono ?_
             rintro e z4 ⟨rfl, hk4⟩
             have kz4 : Hid (Kept0 V z4) := (by first | exact kz3.out.trans hk4 | exact (kz3.out.alloc _).trans hk4)
             have m1z4 : ¬ b9 = z4.heap.size := (by have := kz4.out.size; omega)
             have m2z4 : ¬ z4.heap.size = b9 := (by have := kz4.out.size; omega)
             obtain ⟨v0, v1, v2, v3⟩ := hTV.out.kept0 kz4.out
             try (have hn8 := (two_newN z3 40).kept0 hk4; obtain ⟨a0, a1, a2, a3⟩ := hn8)
             try (have hn7 := (Two.mk a0 a1 a2 a3).kept0 hk4; obtain ⟨a0, a1, a2, a3⟩ := hn7)))
    all_goals
      first
        | (obtain ⟨b8, hb9⟩ : ∃ b8, b8 = z4.heap.size := ⟨_, rfl⟩
           obtain ⟨W8, hW9⟩ : ∃ W8, W8 = z4.alloc (.cells #[.int .i64 p2, .int .i64 q2] 40) := ⟨_, rfl⟩
           rw [← hW9, ← hb9]
           have hT9 : Two W8 b8 p2 q2 := by rw [hW9, hb9]; exact Two.of (heap_new z4 _)
           have k9 : Kept0 V W8 := by rw [hW9]; exact kz4.out.alloc _
           have hle9 : V.heap.size ≤ b8 := by rw [hb9]; exact kz4.out.size
           clear hW9 hb9)
        | (obtain ⟨b8, hb9⟩ : ∃ b8, b8 = z3.heap.size := ⟨_, rfl⟩
           obtain ⟨W8, hW9⟩ : ∃ W8, W8 = (z4.setCell ⟨z3.heap.size, 0, none⟩ (.int .i64 p2)).setCell ⟨z3.heap.size, 1, none⟩ (.int .i64 q2) := ⟨_, rfl⟩
           rw [← hW9, ← hb9]
           have hT9 : Two W8 b8 p2 q2 := by rw [hW9, hb9]; exact Two.set ⟨a0, a1, a2, a3⟩ p2 q2
           have k9 : Kept0 V W8 := by rw [hW9]; exact ((kz4.out.setCell _ (Or.inl kz3.out.size) _).setCell _ (Or.inl kz3.out.size) _)
           have hle9 : V.heap.size ≤ b8 := by rw [hb9]; exact kz3.out.size
           clear hW9 hb9)
        | (obtain ⟨b8, hb9⟩ : ∃ b8, b8 = V.heap.size := ⟨_, rfl⟩
           obtain ⟨W8, hW9⟩ : ∃ W8, W8 = (z4.setCell ⟨V.heap.size, 0, none⟩ (.int .i64 p2)).setCell ⟨V.heap.size, 1, none⟩ (.int .i64 q2) := ⟨_, rfl⟩
           rw [← hW9, ← hb9]
           have hT9 : Two W8 b8 p2 q2 := by rw [hW9, hb9]; exact Two.set ⟨a0, a1, a2, a3⟩ p2 q2
           have k9 : Kept0 V W8 := by rw [hW9]; exact ((kz4.out.setCell _ (Or.inl (Nat.le_refl _)) _).setCell _ (Or.inl (Nat.le_refl _)) _)
           have hle9 : V.heap.size ≤ b8 := by rw [hb9]; exact (Nat.le_refl _)
           clear hW9 hb9)
      have HF := Lib.hid (HRV.out.keep k9)
      go_wp2_with fail
      go_meet
      exact ⟨b8, rfl, rfl, rfl, by have := HRV.out.out.lt; omega, hT9, HF⟩
  case rest =>
  clear HRV hTV HB HTH
  obtain ⟨b8, rfl, rfl, rfl, hb8, hT8, HR5⟩ := hcut
  go_upto_if 65 with fail
  go_cut [12] from 66 to 70 (fun s12 wx => s12 = .int .i64 (m1 + liftN u2) ∧ Hid (Two wx b8 p2 q2) ∧ Hid (Rp w wx g t cap R C (liftF R C (upd f1 ix x) u2 bl) r c b x bl))
  case first =>
    cases u2
    · go_wp2_with fail
      go_meet
      exact ⟨by simp [liftN], hT8, HR5⟩
    · have HUP : Hid (Calls Tryz.prog 88 #[.pointer (some ⟨g, 0, none⟩), .int .i64 1, bl.v] wc fun e w' => e = .returned (.tuple #[]) ∧ RefAt w' g t cap R C (upF R C (upd f1 ix x) 1 bl) ∧ Kept (· = t) wc w') := upR g t cap R C _ 1 bl wc HR5.out.ref (by omega)
      obtain ⟨d0, d1, d2, d3⟩ := HR5.out.bl
      have e9 : IntKind.i64.wrap (m1 + 1) = m1 + 1 := IntWalk.i64_in _ ⟨by omega, by omega⟩
      go_wp2_with fail
      refine HUP.out.mono ?_
      rintro e w5 ⟨rfl, hr5, hk5⟩
      have HR6 := Lib.hid (HR5.out.turn hk5 hr5)
      have hT5 := Lib.hid (hT8.out.kept hk5 (by have := HR5.out.tl; omega))
      clear hr5 hk5 d0 d1 d2 d3 HUP
      go_wp2_with fail
      go_meet
      exact ⟨by simp [liftN], hT5, HR6⟩
  case rest =>
  clear HR5 hT8
  obtain ⟨rfl, hT8, HR6⟩ := hcut
  obtain ⟨t0, t1, t2, t3⟩ := hT8.out
  have l8 := hT8.out.lt
  obtain ⟨o0, o1, o2, o3, o4, o5⟩ := HR6.out.out
  have lo6 := HR6.out.out.lt
  go_wp2_with fail
  have q3 : w.heap.size ≤ w.heap.size + 1 + 1 + 1 := by omega
  have kend : Kept (· = w.heap.size + 1 + 1 + 1) wc _ := (((Kept.refl (· = w.heap.size + 1 + 1 + 1) wc).setCell ⟨w.heap.size + 1 + 1 + 1, 0, none⟩ (Or.inr rfl) (.int .i64 p2)).setCell ⟨w.heap.size + 1 + 1 + 1, 1, none⟩ (Or.inr rfl) (.int .i64 q2)).setCell ⟨w.heap.size + 1 + 1 + 1, 2, none⟩ (Or.inr rfl) (.bool vv)
  exact bodyPost_ret (v := .tuple #[place p2 q2 vv, .int .i64 (m1 + liftN u2)]) (by simp [results, Tryz.results115, go_sem, o0, o1, o2]) rfl ⟨by rw [HP2.out, HQ2.out, HVV.out, HPN.out], by rw [HPF.out]; exact HR6.out.ref.kept kend (by omega) (by omega), ((HR6.out.kept.setCell _ (Or.inl q3) _).setCell _ (Or.inl q3) _).setCell _ (Or.inl q3) _⟩

end Go.Proofs.YtkpfhgfdfndliaaGreatDoor

namespace Go.Proofs.YtkpfhgfdfndliaaGreatDoor
open Go.RowKit

set_option maxHeartbeats 1000000 in
theorem guardR_none (g t cap R C : Nat) (f : Nat → Cel) (r c p q : Int) (b : Bool) (x : Cel) (w : World) (hg : RefAt w g t cap R C f)
    (hF : ∀ w', RefAt w' g t cap R C f → Calls Tryz.prog 91 #[.pointer (some ⟨g, 0, none⟩), pos r c, .bool false] w' fun e w'' => e = .returned (.tuple #[pos p q, .bool false]) ∧ Kept0 w' w'') :
    Calls Tryz.prog 116 #[.pointer (some ⟨g, 0, none⟩), place r c b, x.v] w fun e w' => e = .returned (.tuple #[place 0 0 false, .int .i64 15]) ∧ Kept0 w w' := by
  have HF := Lib.hid hF
  have HG := Lib.hid hg
  clear hF hg
  go_enter Tryz.func116, Tryz.ntmps116
  go_wp2_with fail
  obtain ⟨W, hW⟩ : ∃ W, W = ((w.alloc (.cells #[.int .i64 r, .int .i64 c, .bool b] 83)).alloc (.cells #[.int .i32 x.g, .int .i64 x.a, .bool x.b, .int .i64 x.m] 36)).alloc (.cells #[.int .i64 0, .int .i64 0, .bool false] 83) := ⟨_, rfl⟩
  have k0 : Kept0 w W := by rw [hW]; exact (((Kept.refl _ w).alloc _).alloc _).alloc _
  have hp : Three W w.heap.size r c b := by rw [hW]; exact Three.of (heap_old _ _ (heap_old _ _ (heap_new _ _)))
  have hx : CelAt W (w.heap.size + 1) x := by rw [hW]; constructor <;> simp [go_sem]
  have ho : Three W (w.heap.size + 1 + 1) 0 0 false := by rw [hW]; exact Three.of (heap_newC _ _ _ _)
  rw [← hW]
  clear hW
  have HGW : Hid (RefAt W g t cap R C f) := HG.out.kept k0 (fun e => e) (fun e => e)
  clear HG
  have HP := Lib.hid hp
  obtain ⟨p0, p1, p9, p3, p4, p5⟩ := hp
  refine (HF.out _ HGW.out).mono ?_
  rintro e w1 ⟨rfl, hk1⟩
  have HP1 := Lib.hid (HP.out.kept0 hk1)
  have hx1 := hx.kept hk1 (fun e => e)
  have ho1 := ho.kept0 hk1
  have HG1 : Hid (RefAt w1 g t cap R C f) := HGW.out.kept hk1 (fun e => e) (fun e => e)
  have K1 : Hid (Kept0 w w1) := k0.trans hk1
  have lo := ho1.lt
  clear HGW HP p0 p1 p9 p3 p4 p5 hx ho k0 hk1 HF
  obtain ⟨o0, o1, o2, o3, o4, o5⟩ := ho1
  go_wp2_with fail
  have q2 : w.heap.size ≤ w.heap.size + 1 + 1 := by omega
  exact bodyPost_ret (v := .tuple #[place 0 0 false, .int .i64 15]) (by simp [results, Tryz.results116, go_sem, *]) rfl ⟨rfl, (((K1.out.setCell _ (Or.inl q2) _).setCell _ (Or.inl q2) _).setCell _ (Or.inl q2) _).alloc _⟩

set_option maxHeartbeats 4000000 in
theorem guardR_some (g t cap R C k0 : Nat) (f : Nat → Cel) (r c p4q q4q : Int) (b vv : Bool) (x : Cel) (w : World) (hg : RefAt w g t cap R C f) (hk0 : k0 < R * C)
    (hF : ∀ w', RefAt w' g t cap R C f → Calls Tryz.prog 91 #[.pointer (some ⟨g, 0, none⟩), pos r c, .bool false] w' fun e w'' => e = .returned (.tuple #[pos (rowOf C k0 : Int) (colOf C k0 : Int), .bool true]) ∧ Kept0 w' w'')
    (hF2 : ∀ w', RefAt w' g t cap R C (upd f k0 x) → Calls Tryz.prog 91 #[.pointer (some ⟨g, 0, none⟩), pos (rowOf C (stp (R * C) false k0 1) : Int) (colOf C (stp (R * C) false k0 1) : Int), .bool false] w' fun e w'' => e = .returned (.tuple #[pos p4q q4q, .bool vv]) ∧ Kept0 w' w'') :
    Calls Tryz.prog 116 #[.pointer (some ⟨g, 0, none⟩), place r c b, x.v] w fun e w' => e = .returned (.tuple #[place (if vv = true then p4q else nr r R) (if vv = true then q4q else nr c C) false, .int .i64 0]) ∧ RefAt w' g t cap R C (upd f k0 x) ∧ Kept (· = t) w w' := by
  have hR1 := hg.R1
  have hR2 := hg.R2
  have hC1 := hg.C1
  have hC2 := hg.C2
  have hgl := hg.lt
  have htl := hg.row.lt
  have hne := hg.ne
  have hRC : R * C ≤ 65025 := Nat.mul_le_mul hR2 hC2
  have HN : Hid (∀ w', Calls Tryz.prog 86 #[pos R C, pos r c] w' fun e w'' => e = .returned (pos (nr r R) (nr c C)) ∧ Kept0 w' w'') := fun w' => refNear_any (R : Int) (C : Int) r c (may_nat hR1 hR2 hC1 hC2) w'
  have hmul := row_mul C k0
  have h0 : 0 ≤ (rowOf C k0 : Int) * (C : Int) := Int.mul_nonneg (by omega) (by omega)
  have E1 : Hid (IntKind.i64.wrap (IntKind.i64.wrap ((rowOf C k0 : Int) * (C : Int)) + (colOf C k0 : Int)) = (k0 : Int)) := by
    show _ = _
    rw [IntWalk.i64_in ((rowOf C k0 : Int) * (C : Int)) ⟨by omega, by omega⟩, hmul, IntWalk.i64_in _ ⟨by omega, by omega⟩]
  have hst : (((k0 : Int) + 1) % ((R * C : Nat) : Int)) = (stp (R * C) false k0 1 : Int) := by
    simp [stp]
  have hlt2 : stp (R * C) false k0 1 < R * C := stp_lt (by omega)
  have HF := Lib.hid hF
  have HG := Lib.hid hg
  have HF2 := Lib.hid hF2
  obtain ⟨N, hN⟩ : ∃ N, N = R * C := ⟨_, rfl⟩
  have HNN := Lib.hid hN
  rw [← hN] at hst hlt2 hk0 hRC HF2
  generalize stp N false k0 1 = k1 at *
  generalize (rowOf C k0 : Int) = p at *
  generalize (colOf C k0 : Int) = q at *
  have ES := Lib.hid hst
  clear hF hg hF2 hN hmul h0 hst
  go_enter Tryz.func116, Tryz.ntmps116
  go_wp2_with fail
  obtain ⟨W, hW⟩ : ∃ W, W = ((w.alloc (.cells #[.int .i64 r, .int .i64 c, .bool b] 83)).alloc (.cells #[.int .i32 x.g, .int .i64 x.a, .bool x.b, .int .i64 x.m] 36)).alloc (.cells #[.int .i64 0, .int .i64 0, .bool false] 83) := ⟨_, rfl⟩
  have k0 : Kept0 w W := by rw [hW]; exact (((Kept.refl _ w).alloc _).alloc _).alloc _
  have hp : Three W w.heap.size r c b := by rw [hW]; exact Three.of (heap_old _ _ (heap_old _ _ (heap_new _ _)))
  have hx : CelAt W (w.heap.size + 1) x := by rw [hW]; constructor <;> simp [go_sem]
  have ho : Three W (w.heap.size + 1 + 1) 0 0 false := by rw [hW]; exact Three.of (heap_newC _ _ _ _)
  rw [← hW]
  clear hW
  have HGW : Hid (RefAt W g t cap R C f) := HG.out.kept k0 (fun e => e) (fun e => e)
  clear HG
  have HP := Lib.hid hp
  obtain ⟨p0, p1, p9, p3, p4, p5⟩ := hp
  refine (HF.out _ HGW.out).mono ?_
  rintro e w1 ⟨rfl, hk1⟩
  have HP1 := Lib.hid (HP.out.kept0 hk1)
  have hx1 := hx.kept hk1 (fun e => e)
  have ho1 := ho.kept0 hk1
  have HG1 : Hid (RefAt w1 g t cap R C f) := HGW.out.kept hk1 (fun e => e) (fun e => e)
  have K1 : Hid (Kept0 w w1) := k0.trans hk1
  have lo := ho1.lt
  clear HGW HP p0 p1 p9 p3 p4 p5 hx ho k0 hk1 HF
  obtain ⟨x0, x1, x2, x3⟩ := hx1
  have HO1 := Lib.hid ho1
  clear ho1
  have c1 := HG1.out.c1
  have lg1 := HG1.out.lt
  go_upto_region 4 with fail
  obtain ⟨b9, hb9⟩ : ∃ b9, b9 = w1.heap.size := ⟨_, rfl⟩
  obtain ⟨V, hV⟩ : ∃ V, V = w1.alloc (.cells #[.int .i64 p, .int .i64 q] 40) := ⟨_, rfl⟩
  have kV : Kept0 w1 V := by rw [hV]; exact (Kept.refl _ w1).alloc _
  have hT : Two V b9 p q := by rw [hV, hb9]; exact Two.of (heap_new w1 _)
  rw [← hV, ← hb9]
  have hle7 : w1.heap.size ≤ b9 := by omega
  clear hV hb9 c1
  have HGV : Hid (RefAt V g t cap R C f) := HG1.out.kept kV (fun e => e) (fun e => e)
  have c1 := HGV.out.c1
  obtain ⟨t0, t1, t2, t3⟩ := hT
  go_region_held3 (fun w' => w'.cell? ⟨g, 1, none⟩ = some (.int .i64 C) ∧ w'.cell? ⟨b9, 0, none⟩ = some (.int .i64 p) ∧ w'.cell? ⟨b9, 1, none⟩ = some (.int .i64 q)) (go_keep) (first | fail)
  rw [E1.out]
  have kVd : Kept0 w1 V.drew := kV.drew
  have HGd : Hid (RefAt V.drew g t cap R C f) := HG1.out.kept kVd (fun e => e) (fun e => e)
  have HXd : Hid (CelAt V.drew (w.heap.size + 1) x) := CelAt.kept ⟨x0, x1, x2, x3⟩ kVd (fun e => e)
  have HOd := Lib.hid (HO1.out.kept0 kVd)
  have HPd := Lib.hid (HP1.out.kept0 kVd)
  have KVd : Hid (Kept0 w V.drew) := K1.out.trans kVd
  clear t0 t1 t2 t3 c1 x0 x1 x2 x3 HG1 HGV HO1 HP1 K1 kV kVd
  obtain ⟨U, hU⟩ : ∃ U, U = V.drew := ⟨_, rfl⟩
  rw [← hU] at HGd HXd HOd HPd KVd ⊢
  clear hU
  have c2 := HGd.out.c2
  rw [← HNN.out] at c2
  obtain ⟨e0, e1, e2, e3⟩ := HGd.out.row.cell (k := k0) (by rw [← HNN.out]; exact hk0)
  have f0 := HGd.out.row.frozen (k0 * 4)
  have f1 := HGd.out.row.frozen (k0 * 4 + 1)
  have f2 := HGd.out.row.frozen (k0 * 4 + 2)
  have f3 := HGd.out.row.frozen (k0 * 4 + 3)
  obtain ⟨x0, x1, x2, x3⟩ := HXd.out
  have g1 : ¬ g = t := hne
  have g2 : ¬ t = g := fun e => hne e.symm
  have g5 : ¬ w.heap.size + 1 = t := by omega
  have g6 : ¬ t = w.heap.size + 1 := by omega
  go_upto_region 5 with fail
  go_region_held3 (fun w' => w'.cell? ⟨g, 2, none⟩ = some (Value.slice (some ⟨t, 0, none⟩) N cap) ∧ w'.cell? ⟨w.heap.size + 1, 0, none⟩ = some (.int .i32 x.g) ∧ w'.cell? ⟨w.heap.size + 1, 1, none⟩ = some (.int .i64 x.a) ∧ w'.cell? ⟨w.heap.size + 1, 2, none⟩ = some (.bool x.b) ∧ w'.cell? ⟨w.heap.size + 1, 3, none⟩ = some (.int .i64 x.m)) (go_keep) (first | fail)
  obtain ⟨V6, hV⟩ : ∃ V6, V6 = ((((U.setCell ⟨t, k0 * 4, none⟩ (.int .i32 x.g)).setCell ⟨t, k0 * 4 + 1, none⟩ (.int .i64 x.a)).setCell ⟨t, k0 * 4 + 2, none⟩ (.bool x.b)).setCell ⟨t, k0 * 4 + 3, none⟩ (.int .i64 x.m)).drew := ⟨_, rfl⟩
  have kV : Kept (· = t) U V6 := by rw [hV]; exact ((Kept.refl (· = t) U).setCel t (k0 * 4) (Or.inr rfl) x).drew
  have HG6 : Hid (RefAt V6 g t cap R C (upd f k0 x)) := HGd.out.withRow kV (by rw [hV]; exact CellsAt.drewN (HGd.out.row.set k0 x) 1)
  have HO6 := Lib.hid (HOd.out.kept kV (by omega))
  have HP6 := Lib.hid (HPd.out.kept kV (by omega))
  have K6 : Hid (Kept (· = t) w V6) := (Kept0.to KVd.out).trans kV
  rw [← hV]
  clear hV e0 e1 e2 e3 f0 f1 f2 f3 x0 x1 x2 x3 g1 g2 g5 g6 c2 kV HGd HXd HOd HPd KVd
  have c2 := HG6.out.c2
  rw [← HNN.out] at c2
  have n0 : ¬ ((N : Int) = 0) := by omega
  have n00 : ¬ (N = 0) := by omega
  have e1 : IntKind.i64.wrap ((k0 : Int) + 1) = (k0 : Int) + 1 := IntWalk.i64_in _ ⟨by omega, by omega⟩
  go_wp2_with fail
  rw [ES.out]
  refine (placeR g C k1 V6 HG6.out.c1 hC1 hC2 (by omega)).mono ?_
  rintro e w7 ⟨rfl, hk7⟩
  have HG7 := Lib.hid (HG6.out.kept hk7 (fun e => e) (fun e => e))
  go_wp2_with fail
  refine (HF2.out w7 HG7.out).mono ?_
  rintro e w8 ⟨rfl, hk8⟩
  have lo6 := HO6.out.lt
  have kk8 := hk7.trans hk8
  obtain ⟨b8, hb8⟩ : ∃ b8, b8 = w8.heap.size := ⟨_, rfl⟩
  obtain ⟨W8, hV⟩ : ∃ W8, W8 = w8.alloc (.cells #[.int .i64 p4q, .int .i64 q4q] 40) := ⟨_, rfl⟩
  have k8 : Kept0 V6 W8 := by rw [hV]; exact kk8.alloc _
  have hT8 : Two W8 b8 p4q q4q := by rw [hV, hb8]; exact Two.of (heap_new w8 _)
  have hle : V6.heap.size ≤ b8 := by rw [hb8]; exact kk8.size
  have HG8 := Lib.hid (HG6.out.kept k8 (fun e => e) (fun e => e))
  have HO8 := Lib.hid (HO6.out.kept0 k8)
  have HP8 := Lib.hid (HP6.out.kept0 k8)
  have K8 : Hid (Kept (· = t) w W8) := K6.out.trans (Kept0.to k8)
  have q2 : w.heap.size ≤ w.heap.size + 1 + 1 := by omega
  have l8 := hT8.lt
  have lo8 := HO8.out.lt
  clear hk7 hk8 kk8 HG7 HG6 HO6 HP6 K6 k8 c2 HF2
  cases vv
  · have HS8 : Hid (∀ w', Kept0 W8 w' → Calls Tryz.prog 128 #[.pointer (some ⟨g, 0, none⟩)] w' fun e w'' => e = .returned (pos R C) ∧ Kept0 w' w'') := fun w' k => sizeR g R C w' (kcell k HG8.out.c0) (kcell k HG8.out.c1)
    go_upto_region 8 with fail
    rw [← hV, ← hb8]
    clear hV hb8
    obtain ⟨p0, p1, p9, p3, p4, p5⟩ := HP8.out
    have n1 : ¬ w.heap.size = w.heap.size + 1 + 1 := by omega
    have n2 : ¬ w.heap.size + 1 + 1 = w.heap.size := by omega
    go_region_held3 (fun w' => w'.cell? ⟨w.heap.size, 0, none⟩ = some (.int .i64 r) ∧ w'.cell? ⟨w.heap.size, 1, none⟩ = some (.int .i64 c)) (go_keep)
      (first
        | (go_at_call 128; refine (HS8.out _ (Kept.refl _ W8).drew).mono ?_; rintro e y3 ⟨rfl, hk3⟩; have ky3 : Hid (Kept0 W8 y3) := (Kept.refl _ W8).drew.trans hk3; obtain ⟨v0, v1, v2, v3, v4, v5⟩ := HP8.out.kept0 ky3.out)
        | (go_at_call 86; refine (HN.out _).mono ?_; rintro e y4 ⟨rfl, hk4⟩; have ky4 : Hid (Kept0 W8 y4) := ky3.out.trans hk4; obtain ⟨v0, v1, v2, v3, v4, v5⟩ := HP8.out.kept0 ky4.out; obtain ⟨u0, u1, u2, u3, u4, u5⟩ := HO8.out.kept0 ky4.out))
    all_goals
      have HG9 := Lib.hid (HG8.out.kept ky4.out (fun e => e) (fun e => e))
      have K9 : Hid (Kept (· = t) w y4) := K8.out.trans (Kept0.to ky4.out)
      go_wp2_with fail
      have kend : Kept (· = w.heap.size + 1 + 1) y4 _ := (((Kept.refl (· = w.heap.size + 1 + 1) y4).setCell ⟨w.heap.size + 1 + 1, 0, none⟩ (Or.inr rfl) (.int .i64 (nr r R))).setCell ⟨w.heap.size + 1 + 1, 1, none⟩ (Or.inr rfl) (.int .i64 (nr c C))).setCell ⟨w.heap.size + 1 + 1, 2, none⟩ (Or.inr rfl) (.bool false)
      exact bodyPost_ret (v := .tuple #[place (nr r R) (nr c C) false, .int .i64 0]) (by simp [results, Tryz.results116, go_sem, u0, u1, u2]) rfl ⟨rfl, HG9.out.kept kend (by omega) (by omega), ((K9.out.setCell _ (Or.inl q2) _).setCell _ (Or.inl q2) _).setCell _ (Or.inl q2) _⟩
  · go_upto_region 9 with fail
    rw [← hV, ← hb8]
    clear hV hb8
    obtain ⟨t0, t1, t2, t3⟩ := hT8
    obtain ⟨o0, o1, o2, o3, o4, o5⟩ := HO8.out
    go_wp2_with fail
    have kend : Kept (· = w.heap.size + 1 + 1) W8 _ := (((Kept.refl (· = w.heap.size + 1 + 1) W8).setCell ⟨w.heap.size + 1 + 1, 0, none⟩ (Or.inr rfl) (.int .i64 p4q)).setCell ⟨w.heap.size + 1 + 1, 1, none⟩ (Or.inr rfl) (.int .i64 q4q)).setCell ⟨w.heap.size + 1 + 1, 2, none⟩ (Or.inr rfl) (.bool false)
    exact bodyPost_ret (v := .tuple #[place p4q q4q false, .int .i64 0]) (by simp [results, Tryz.results116, go_sem, o0, o1, o2]) rfl ⟨rfl, HG8.out.kept kend (by omega) (by omega), ((K8.out.setCell _ (Or.inl q2) _).setCell _ (Or.inl q2) _).setCell _ (Or.inl q2) _⟩

/-- What the document's Guard comes to. -/
theorem guardR_any (g t cap R C : Nat) (f : Nat → Cel) (r c : Int) (b : Bool) (x : Cel) (w : World) (hg : RefAt w g t cap R C f) (o : Option Nat) (ho : o = freeK (R * C) false (st R C r c) f) :
    Calls Tryz.prog 116 #[.pointer (some ⟨g, 0, none⟩), place r c b, x.v] w fun e w' => e = .returned (.tuple #[place (gdR R C f x r o) (gdC R C f x c o) false, .int .i64 (gdE o)]) ∧ RefAt w' g t cap R C (gdF f x o) ∧ Kept (· = t) w w' := by
  have hF := fun w' (h : RefAt w' g t cap R C f) => freeR g t cap R C f r c false w' h
  rw [← ho] at hF
  cases o with
  | none =>
    refine (guardR_none g t cap R C f r c _ _ b x w hg hF).mono ?_
    rintro e w' ⟨rfl, k⟩
    exact ⟨rfl, hg.kept k (fun e => e) (fun e => e), k.to⟩
  | some k =>
    obtain ⟨hk, _⟩ := freeK_some ho.symm
    have hst : st R C (rowOf C (stp (R * C) false k 1) : Int) (colOf C (stp (R * C) false k 1) : Int) = stp (R * C) false k 1 := by
      rw [st_in (there_row_col (stp_lt (by omega)) hg.C1), idx_row_col]
    have hF2 := fun w' (h : RefAt w' g t cap R C (upd f k x)) => freeR g t cap R C (upd f k x) (rowOf C (stp (R * C) false k 1) : Int) (colOf C (stp (R * C) false k 1) : Int) false w' h
    rw [hst] at hF2
    exact guardR_some g t cap R C k f r c _ _ b _ x w hg hk hF hF2

end Go.Proofs.YtkpfhgfdfndliaaGreatDoor
