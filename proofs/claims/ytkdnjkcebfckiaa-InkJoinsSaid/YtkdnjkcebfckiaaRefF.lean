/-
  The document's answer: Free.
-/
import Derived.Test.YtkdnjkcebfckiaaRefS
import Derived.Test.YtkdnjkcebfckiaaFree
import Derived.Test.YtkdnjkcebfckiaaPut
namespace Go.Proofs.Ytkdnjkcebfckiaa
open Go.RowKit

set_option maxHeartbeats 4000000 in
theorem freeR (g t cap R C : Nat) (f : Nat → Cel) (r c : Int) (b : Bool) (w : World) (hg : RefAt w g t cap R C f) :
    Calls Try.prog 20 #[.pointer (some ⟨g, 0, none⟩), pos r c, .bool b] w fun e w' => e = .returned (.tuple #[pos (oR C (freeK (R * C) b (st R C r c) f)) (oC C (freeK (R * C) b (st R C r c) f)), .bool (freeK (R * C) b (st R C r c) f).isSome]) ∧ Kept0 w w' := by
  have hR1 := hg.R1
  have hR2 := hg.R2
  have hC1 := hg.C1
  have hC2 := hg.C2
  have hgl := hg.lt
  have htl := hg.row.lt
  have hRC : R * C ≤ 65025 := Nat.mul_le_mul hR2 hC2
  have HN : Hid (∀ w', Calls Try.prog 38 #[pos R C, pos r c] w' fun e w'' => e = .returned (pos (rowOf C (st R C r c) : Int) (colOf C (st R C r c) : Int)) ∧ Kept0 w' w'') := fun w' => refNear_at R C r c w' hR1 hR2 hC1 hC2
  have HK : Hid (st R C r c < R * C) := st_lt hR1 hC1
  obtain ⟨k0, hk0⟩ : ∃ k, k = st R C r c := ⟨_, rfl⟩
  rw [← hk0] at HN HK ⊢
  obtain ⟨o, ho⟩ : ∃ o, o = freeK (R * C) b k0 f := ⟨_, rfl⟩
  rw [← ho]
  have HO := Lib.hid ho
  clear ho hk0
  obtain ⟨N, hNN⟩ : ∃ N, N = R * C := ⟨_, rfl⟩
  rw [← hNN] at HO HK hRC
  have HNN := Lib.hid hNN
  clear hNN
  have HG := Lib.hid hg
  clear hg
  go_enter Try.func20, Try.ntmps20
  go_wp2_with fail
  obtain ⟨W, hW⟩ : ∃ W, W = (w.alloc (.cells #[.int .i64 r, .int .i64 c] 26)).alloc (.cells #[.int .i64 0, .int .i64 0] 26) := ⟨_, rfl⟩
  have k0w : Kept0 w W := by rw [hW]; exact ((Kept.refl _ w).alloc _).alloc _
  have hp : Two W w.heap.size r c := by rw [hW]; exact Two.of (heap_old _ _ (heap_new _ _))
  have hoo : Two W (w.heap.size + 1) 0 0 := by rw [hW]; exact Two.of (heap_new2 _ _ _)
  rw [← hW]
  clear hW
  have HGW : Hid (RefAt W g t cap R C f) := HG.out.kept k0w (fun e => e) (fun e => e)
  have HS : Hid (∀ w', Kept0 W w' → Calls Try.prog 39 #[.pointer (some ⟨g, 0, none⟩)] w' fun e w'' => e = .returned (pos R C) ∧ Kept0 w' w'') := fun w' k => sizeR g R C w' (kcell k HGW.out.c0) (kcell k HGW.out.c1)
  have HP := Lib.hid hp
  have lo := hoo.lt
  have HOO := Lib.hid hoo
  have KW : Hid (Kept0 w W) := k0w
  clear HG k0w hoo
  obtain ⟨p0, p1, p2, p3⟩ := hp
  have n1 : ¬ w.heap.size = W.heap.size := by omega
  have n2 : ¬ W.heap.size = w.heap.size := by omega
  go_region_held3 (fun w' => w'.cell? ⟨w.heap.size, 0, none⟩ = some (.int .i64 r) ∧ w'.cell? ⟨w.heap.size, 1, none⟩ = some (.int .i64 c)) (go_keep)
    (first
      | (go_at_call 39
         refine (HS.out _ (by first | exact (Kept.refl _ W).drew | exact ((Kept.refl _ W).alloc _).drew)).mono ?_
         rintro e z3 ⟨rfl, hk3⟩
         have kz3 : Hid (Kept0 W z3) := (by first | exact (Kept.refl _ W).drew.trans hk3 | exact ((Kept.refl _ W).alloc _).drew.trans hk3)
         have m1z3 : ¬ w.heap.size = z3.heap.size := (by have := kz3.out.size; omega)
         have m2z3 : ¬ z3.heap.size = w.heap.size := (by have := kz3.out.size; omega)
         obtain ⟨v0, v1, v2, v3⟩ := HP.out.kept0 kz3.out
         try (have hn8 := (two_newD W 26).kept0 hk3; obtain ⟨a0, a1, a2, a3⟩ := hn8))
      | (go_at_call 38
         refine (HN.out _).mono ?_
         rintro e z4 ⟨rfl, hk4⟩
         have kz4 : Hid (Kept0 W z4) := (by first | exact kz3.out.trans hk4 | exact (kz3.out.alloc _).trans hk4)
         have m1z4 : ¬ w.heap.size = z4.heap.size := (by have := kz4.out.size; omega)
         have m2z4 : ¬ z4.heap.size = w.heap.size := (by have := kz4.out.size; omega)
         obtain ⟨v0, v1, v2, v3⟩ := HP.out.kept0 kz4.out
         try (have hn8 := (two_newN z3 26).kept0 hk4; obtain ⟨a0, a1, a2, a3⟩ := hn8)
         try (have hn7 := (Two.mk a0 a1 a2 a3).kept0 hk4; obtain ⟨a0, a1, a2, a3⟩ := hn7)))
  all_goals
    first
      | (obtain ⟨b9, hb9⟩ : ∃ b9, b9 = z4.heap.size := ⟨_, rfl⟩
         obtain ⟨W9, hW9⟩ : ∃ W9, W9 = z4.alloc (.cells #[.int .i64 (rowOf C k0 : Int), .int .i64 (colOf C k0 : Int)] 26) := ⟨_, rfl⟩
         rw [← hW9, ← hb9]
         have hT9 : Two W9 b9 (rowOf C k0 : Int) (colOf C k0 : Int) := by rw [hW9, hb9]; exact Two.of (heap_new z4 _)
         have k9 : Kept0 W W9 := by rw [hW9]; exact kz4.out.alloc _
         have hle9 : W.heap.size ≤ b9 := by rw [hb9]; exact kz4.out.size
         clear hW9 hb9)
      | (obtain ⟨b9, hb9⟩ : ∃ b9, b9 = z3.heap.size := ⟨_, rfl⟩
         obtain ⟨W9, hW9⟩ : ∃ W9, W9 = (z4.setCell ⟨z3.heap.size, 0, none⟩ (.int .i64 (rowOf C k0 : Int))).setCell ⟨z3.heap.size, 1, none⟩ (.int .i64 (colOf C k0 : Int)) := ⟨_, rfl⟩
         rw [← hW9, ← hb9]
         have hT9 : Two W9 b9 (rowOf C k0 : Int) (colOf C k0 : Int) := by rw [hW9, hb9]; exact Two.set ⟨a0, a1, a2, a3⟩ (rowOf C k0 : Int) (colOf C k0 : Int)
         have k9 : Kept0 W W9 := by rw [hW9]; exact ((kz4.out.setCell _ (Or.inl kz3.out.size) _).setCell _ (Or.inl kz3.out.size) _)
         have hle9 : W.heap.size ≤ b9 := by rw [hb9]; exact kz3.out.size
         clear hW9 hb9)
      | (obtain ⟨b9, hb9⟩ : ∃ b9, b9 = W.heap.size := ⟨_, rfl⟩
         obtain ⟨W9, hW9⟩ : ∃ W9, W9 = (z4.setCell ⟨W.heap.size, 0, none⟩ (.int .i64 (rowOf C k0 : Int))).setCell ⟨W.heap.size, 1, none⟩ (.int .i64 (colOf C k0 : Int)) := ⟨_, rfl⟩
         rw [← hW9, ← hb9]
         have hT9 : Two W9 b9 (rowOf C k0 : Int) (colOf C k0 : Int) := by rw [hW9, hb9]; exact Two.set ⟨a0, a1, a2, a3⟩ (rowOf C k0 : Int) (colOf C k0 : Int)
         have k9 : Kept0 W W9 := by rw [hW9]; exact ((kz4.out.setCell _ (Or.inl (Nat.le_refl _)) _).setCell _ (Or.inl (Nat.le_refl _)) _)
         have hle9 : W.heap.size ≤ b9 := by rw [hb9]; exact (Nat.le_refl _)
         clear hW9 hb9)
    clear p0 p1 p2 p3 v0 v1 v2 v3 n1 n2 hk3 hk4 kz3 kz4 m1z3 m2z3 m1z4 m2z4 HP HN HS
    try clear a0 a1 a2 a3
    have HG9 : Hid (RefAt W9 g t cap R C f) := HGW.out.kept k9 (fun e => e) (fun e => e)
    have K9 : Hid (Kept0 w W9) := KW.out.trans k9
    have HO9 := Lib.hid (HOO.out.kept0 k9)
    have HT9 := Lib.hid hT9
    have hl9 : b9 < W9.heap.size := hT9.lt
    clear HGW KW HOO k9 hT9
    have c2 := HG9.out.c2
    rw [← HNN.out] at c2
    go_wp2_with fail
    clear c2
    go_loopw [10, 11] (fun i s11 wr => ∃ j : Nat, j ≤ N ∧ i = .int .i64 (j : Int) ∧ Hid (seekN (openP N b k0 f) N 0 = seekN (openP N b k0 f) (N - j) j) ∧ Hid (Kept0 W9 wr)) (fun i _ _ => ((N : Int) - intOf i).toNat)
    case atStart => exact ⟨0, by omega, rfl, rfl, Kept.refl _ _⟩
    case round =>
      obtain ⟨j, hj, rfl, hsk, hkr⟩ := hrel
      by_cases hlt : j < N
      · have d1 : decide ((j : Int) < (N : Int)) = true := by simp; omega
        have hGr := HG9.out.kept hkr.out (fun e => e) (fun e => e)
        have hTr := HT9.out.kept0 hkr.out
        have c1 := hGr.c1
        have c2 := hGr.c2
        rw [← HNN.out] at c2
        obtain ⟨t0, t1, t2, t3⟩ := hTr
        have n0 : ¬ ((N : Int) = 0) := by omega
        have n00 : ¬ (N = 0) := by omega
        have q1 := way_fwd (C := C) (k := k0) (N := N) (i := j) hC1 HK.out (by omega) hlt
        have q2 := way_back (C := C) (k := k0) (N := N) (i := j) hC1 HK.out (by omega) hlt
        have E0 := Lib.hid q1
        simp only [IntWalk.i64_left] at q1
        have E1 := Lib.hid q1
        have E2 := Lib.hid q2
        clear q1 q2
        obtain ⟨m, hm⟩ : ∃ m, N - j = m + 1 := ⟨N - j - 1, by omega⟩
        go_wp2_with fail
        go_region_held3 (fun w' => w'.cell? ⟨b9, 0, none⟩ = some (.int .i64 (rowOf C k0 : Int)) ∧ w'.cell? ⟨b9, 1, none⟩ = some (.int .i64 (colOf C k0 : Int)) ∧ w'.cell? ⟨g, 1, none⟩ = some (.int .i64 C)) (go_keep) (first | fail)
        first | rw [E1.out] | rw [E0.out]
        cases b
        · clear E0 E1 E2
          have hx : stp N false k0 j < N := stp_lt (by omega)
          have HOP : Hid (openP N false k0 f j = !(f (stp N false k0 j)).b) := rfl
          have HFR : Hid (openP N false k0 f j = true → freeK N false k0 f = some (stp N false k0 j)) := fun hp => by
            unfold freeK
            rw [hsk.out, hm, seekN_yes hp]
            rfl
          obtain ⟨x, hxe⟩ : ∃ x, x = stp N false k0 j := ⟨_, rfl⟩
          rw [← hxe] at hx HOP HFR ⊢
          clear hxe
          obtain ⟨e0, e1, e2, e3⟩ := hGr.row.cell (k := x) (by rw [← HNN.out]; exact hx)
          have dx : decide (N ≤ x) = false := by simp; omega
          have hx7 : x ≤ 70000 := by omega
          obtain ⟨yb, hyb⟩ : ∃ yb, yb = (f x).b := ⟨_, rfl⟩
          rw [← hyb] at e2 HOP
          clear hyb e0 e1 e3
          have lg : g < wr.heap.size := hGr.lt
          cases yb
          · have ho : o = some x := HO.out.trans (HFR.out HOP.out)
            have HO2 := Lib.hid ho
            clear ho HO HFR HOP
            go_wp2_with fail
            refine (placeR g C x _ (by exact c1) hC1 hC2 hx7).mono ?_
            rintro e w7 ⟨rfl, hk7⟩
            have hkw : Kept0 W9 w7 := (hkr.out.drew).trans hk7
            have hO7 := HO9.out.kept0 hkw
            have l7 := hO7.lt
            have K7 : Hid (Kept0 w w7) := K9.out.trans hkw
            obtain ⟨o0, o1, o2, o3⟩ := hO7
            clear hk7 hkw t0 t1 t2 t3 c1 c2 e2
            go_wp2_with fail
            exact bodyPost_ret (v := .tuple #[pos (rowOf C x : Int) (colOf C x : Int), .bool true]) (by simp [results, Try.results20, go_sem, o0, o1]) rfl ⟨by rw [HO2.out]; rfl, (K7.out.setCell _ (Or.inl (Nat.le_add_right _ 1)) _).setCell _ (Or.inl (Nat.le_add_right _ 1)) _⟩
          · have HF : Hid (seekN (openP N false k0 f) N 0 = seekN (openP N false k0 f) (N - (j + 1)) (j + 1)) := by
              show seekN (openP N false k0 f) N 0 = seekN (openP N false k0 f) (N - (j + 1)) (j + 1)
              rw [hsk.out, hm, seekN_no HOP.out, show N - (j + 1) = m by omega]
            clear HO HFR HOP
            go_wp2_with fail
            refine ⟨⟨j + 1, by omega, by simp, HF, hkr.out.drew⟩, ?_⟩
            simp [intOf]
            omega
        · go_wp2_with fail
          go_region_held3 (fun w' => w'.cell? ⟨b9, 0, none⟩ = some (.int .i64 (rowOf C k0 : Int)) ∧ w'.cell? ⟨b9, 1, none⟩ = some (.int .i64 (colOf C k0 : Int)) ∧ w'.cell? ⟨g, 1, none⟩ = some (.int .i64 C)) (go_keep) (first | fail)
          rw [E2.out]
          clear E0 E1 E2
          have hx : stp N true k0 j < N := stp_lt (by omega)
          have HOP : Hid (openP N true k0 f j = !(f (stp N true k0 j)).b) := rfl
          have HFR : Hid (openP N true k0 f j = true → freeK N true k0 f = some (stp N true k0 j)) := fun hp => by
            unfold freeK
            rw [hsk.out, hm, seekN_yes hp]
            rfl
          obtain ⟨x, hxe⟩ : ∃ x, x = stp N true k0 j := ⟨_, rfl⟩
          rw [← hxe] at hx HOP HFR ⊢
          clear hxe
          obtain ⟨e0, e1, e2, e3⟩ := hGr.row.cell (k := x) (by rw [← HNN.out]; exact hx)
          have dx : decide (N ≤ x) = false := by simp; omega
          have hx7 : x ≤ 70000 := by omega
          obtain ⟨yb, hyb⟩ : ∃ yb, yb = (f x).b := ⟨_, rfl⟩
          rw [← hyb] at e2 HOP
          clear hyb e0 e1 e3
          have lg : g < wr.heap.size := hGr.lt
          cases yb
          · have ho : o = some x := HO.out.trans (HFR.out HOP.out)
            have HO2 := Lib.hid ho
            clear ho HO HFR HOP
            go_wp2_with fail
            refine (placeR g C x _ (by exact c1) hC1 hC2 hx7).mono ?_
            rintro e w7 ⟨rfl, hk7⟩
            have hkw : Kept0 W9 w7 := (hkr.out.drew.drew).trans hk7
            have hO7 := HO9.out.kept0 hkw
            have l7 := hO7.lt
            have K7 : Hid (Kept0 w w7) := K9.out.trans hkw
            obtain ⟨o0, o1, o2, o3⟩ := hO7
            clear hk7 hkw t0 t1 t2 t3 c1 c2 e2
            go_wp2_with fail
            exact bodyPost_ret (v := .tuple #[pos (rowOf C x : Int) (colOf C x : Int), .bool true]) (by simp [results, Try.results20, go_sem, o0, o1]) rfl ⟨by rw [HO2.out]; rfl, (K7.out.setCell _ (Or.inl (Nat.le_add_right _ 1)) _).setCell _ (Or.inl (Nat.le_add_right _ 1)) _⟩
          · have HF : Hid (seekN (openP N true k0 f) N 0 = seekN (openP N true k0 f) (N - (j + 1)) (j + 1)) := by
              show seekN (openP N true k0 f) N 0 = seekN (openP N true k0 f) (N - (j + 1)) (j + 1)
              rw [hsk.out, hm, seekN_no HOP.out, show N - (j + 1) = m by omega]
            clear HO HFR HOP
            go_wp2_with fail
            refine ⟨⟨j + 1, by omega, by simp, HF, hkr.out.drew.drew⟩, ?_⟩
            simp [intOf]
            omega
      · obtain rfl : j = N := by omega
        have d1 : decide ((j : Int) < (j : Int)) = false := by simp
        have ho : o = none := by
          rw [HO.out]
          unfold freeK
          rw [hsk.out, Nat.sub_self]
          rfl
        have HO2 := Lib.hid ho
        clear ho HO
        have hO7 := HO9.out.kept0 hkr.out
        have l7 := hO7.lt
        have K7 : Hid (Kept0 w wr) := K9.out.trans hkr.out
        obtain ⟨o0, o1, o2, o3⟩ := hO7
        go_wp2_with fail
        exact bodyPost_ret (v := .tuple #[pos 0 0, .bool false]) (by simp [results, Try.results20, go_sem, o0, o1]) rfl ⟨by rw [HO2.out]; rfl, (K7.out.setCell _ (Or.inl (Nat.le_add_right _ 1)) _).setCell _ (Or.inl (Nat.le_add_right _ 1)) _⟩

end Go.Proofs.Ytkdnjkcebfckiaa
