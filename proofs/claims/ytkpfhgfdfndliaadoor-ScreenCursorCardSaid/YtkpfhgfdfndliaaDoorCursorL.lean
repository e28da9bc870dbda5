/-
  ScreenCursor: the cursor is always there, and what is put without guard stands ahead of it, or under it.
-/
import Derived.Test.YtkpfhgfdfndliaaDoorCurF
import Derived.Test.YtkpfhgfdfndliaaDoorFewG
import Derived.Test.YtkpfhgfdfndliaaDoorAw
namespace Go.Proofs.YtkpfhgfdfndliaaDoor
open Go.RowKit

set_option maxRecDepth 100000 in
set_option maxHeartbeats 8000000 in
theorem cursor_calls (a : Option Addr) (cap : Nat) (l : List Op) (x : Cel) (k : Int) (w : World) (hb : Blank w)
    (hl : OpsIn w a l) (nl : l.length ≤ 9223372036854775807) :
    Calls Tryd.prog 3 #[.slice a l.length cap, x.v, .int .i64 k] w fun e w' => e = .returned (.bool true) ∧ Below w.heap.size w w' := by
  have h0 := hb.lt
  have HL : Hid (∀ i, i < l.length → ∃ o, l[i]? = some o) := fun i hi => ⟨_, List.getElem?_eq_getElem hi⟩
  obtain ⟨V, hV⟩ : ∃ V, V = w.alloc (.cells #[.int .i32 x.g, .int .i64 x.a, .bool x.b, .int .i64 x.m] 24) := ⟨_, rfl⟩
  have kV : Kept0 w V := by rw [hV]; exact (Kept.refl _ w).alloc _
  have hcV : CelAt V w.heap.size x := by rw [hV]; exact CelAt.new w x 24
  have fV : V.frozen? ⟨w.heap.size, 3, none⟩ = false := by rw [hV]; simp [go_sem]
  have HB := Lib.hid (hb.kept0 kV)
  have HBw := Lib.hid hb
  have hVs := World.block_lt_of_cell? _ _ hcV.c0
  have HO := Lib.hid (hl.kept0 kV)
  have HF1 := Lib.hid (few_any a cap l V (hl.kept0 kV) nl)
  have HG : Hid (∀ w', Kept0 V w' → _) := fun w' k => begun_any none 0 [] V w' k ((hb.kept0 kV).kept0 k) (fun i o ho => by simp at ho) (by simp)
  obtain ⟨M, hM⟩ : ∃ M, M = l.length := ⟨_, rfl⟩
  rw [← hM] at HL HF1 nl ⊢
  clear hb hl hM
  go_enter Tryd.func3, Tryd.ntmps3
  go_wp2_with fail
  rw [← hV]
  clear hV
  refine HF1.out.mono ?_
  rintro e w1 ⟨⟨t1, rfl⟩, k1⟩
  cases t1
  · go_wp2_with fail
    refine (awake_any _ (HB.out.kept0 k1)).mono ?_
    rintro e w2 ⟨rfl, k2⟩
    go_wp2_with fail
    go_ret
    exact ⟨rfl, Kept0.below ((kV.trans k1).trans k2)⟩
  go_wp2_with fail
  refine (HG.out w1 k1).mono ?_
  rintro e w2 ⟨s, rfl, hu⟩
  have HU : Hid (Uno no V w2 s z59) := hu
  clear hu k1 HF1 HG
  go_wp2_with fail
  go_loopw [8] (fun s6 wr => ∃ (i : Nat) (z : St), i ≤ M ∧ s6 = .int .i64 (i : Int) ∧ Hid (Uno no V wr s z) ∧ Hid (NoM z.F)) (fun s6 _ => M - (intOf s6).toNat)
  case atStart => exact ⟨0, z59, by omega, rfl, HU, fun _ => noM_blk⟩
  case round =>
    clear HU
    obtain ⟨i, z, hi, rfl, HU, HN⟩ := hrel
    by_cases hlt : i < M
    · have hdt : decide ((i : Int) < (M : Int)) = true := by simp; omega
      obtain ⟨o, hoi⟩ := HL.out i hlt
      obtain ⟨hok, b, off, rfl, hcs⟩ := HO.out i o hoi
      have HQ := Lib.hid hok
      have kk := HU.out.old
      have o0 := kcell kk (hcs 0 _ rfl)
      have o1 := kcell kk (hcs 1 _ rfl)
      have o2 := kcell kk (hcs 2 _ rfl)
      have o3 := kcell kk (hcs 3 _ rfl)
      have o4 := kcell kk (hcs 4 _ rfl)
      have o5 := kcell kk (hcs 5 _ rfl)
      have o6 := kcell kk (hcs 6 _ rfl)
      have o7 := kcell kk (hcs 7 _ rfl)
      have o8 := kcell kk (hcs 8 _ rfl)
      have o9 := kcell kk (hcs 9 _ rfl)
      have o10 := kcell kk (hcs 10 _ rfl)
      have o11 := kcell kk (hcs 11 _ rfl)
      clear hcs kk hoi hok
      simp only [Nat.add_zero] at o0
      by_cases hmk : o.x.m = 987654
      · have d9 : (o.x.m == 987654) = true := by simpa using hmk
        clear hmk
        go_wp2_with fail
        refine (awake_any _ (HB.out.kept0 HU.out.old)).mono ?_
        rintro e w3 ⟨rfl, k3⟩
        go_wp2_with fail
        go_ret
        exact ⟨rfl, Kept0.below ((kV.trans HU.out.old).trans k3)⟩
      · have d9 : (o.x.m == 987654) = false := by simpa using hmk
        have HM := Lib.hid hmk
        clear hmk
        go_wp2_with fail
        refine (uno_call HU.out (Nat.lt_of_lt_of_le h0 kV.size) (fun B hs hB0 => does_any o wr hs (HB.out.kept0 HU.out.old) hB0 HQ.out)).mono ?_
        rintro e w3 ⟨rfl, hu3, _⟩
        have HU3 : Hid (Uno no V w3 s (doF o z)) := hu3
        have HN3 : Hid (NoM (doF o z).F) := HN.out.does o HM.out
        clear hu3 HU HN HM d9 o0 o1 o2 o3 o4 o5 o6 o7 o8 o9 o10 o11
        obtain ⟨y, hy⟩ : ∃ y, y = doF o z := ⟨_, rfl⟩
        rw [← hy] at HU3 HN3
        clear hy
        go_wp2_with fail
        refine (cur_scr HU3.out.scr.choose_spec).mono ?_
        rintro e w4 ⟨rfl, k4⟩
        have HU4 : Hid (Uno no V w4 s y) := HU3.out.keep k4
        clear HU3 k4
        go_wp2_with fail
        obtain ⟨W, hW⟩ : ∃ W, W = w4.alloc (.cells #[.int .i64 y.r, .int .i64 y.c] 30) := ⟨_, rfl⟩
        have kW : Kept0 w4 W := by rw [hW]; exact (Kept.refl _ _).alloc _
        have p0 : W.cell? ⟨w4.heap.size, 0, none⟩ = some (.int .i64 y.r) := by rw [hW]; simp [go_sem]
        have p1 : W.cell? ⟨w4.heap.size, 1, none⟩ = some (.int .i64 y.c) := by rw [hW]; simp [go_sem]
        rw [← hW]
        clear hW
        refine (size_scr (HU4.out.keep kW).scr.choose_spec).mono ?_
        rintro e w5 ⟨rfl, k5⟩
        replace p0 := kcell k5 p0
        replace p1 := kcell k5 p1
        have l1 := World.block_lt_of_cell? _ _ p0
        obtain ⟨_, _, _, _, t1, t2, t3, t4⟩ := bounds_scr HU4.out.scr.choose_spec
        have d1 : decide (y.r < 0) = false := by simp; omega
        have d2 : decide ((y.R : Int) ≤ y.r) = false := by simp; omega
        have d3 : decide (y.c < 0) = false := by simp; omega
        have d4 : decide ((y.C : Int) ≤ y.c) = false := by simp; omega
        have HU5 : Hid (Uno no V (w5.alloc (.cells #[.int .i64 (y.R : Int), .int .i64 (y.C : Int)] 39)) s y) := (HU4.out.keep (kW.trans k5)).keep ((Kept.refl _ _).alloc _)
        clear HU4 kW k5
        go_wp2_with fail
        go_roundw
        case rel => exact ⟨i + 1, y, by omega, by go_num, HU5, HN3⟩
        case measure => simp [intOf]; omega
    · obtain rfl : i = M := by omega
      have hdt : decide ((i : Int) < (i : Int)) = false := by simp
      have kk := HU.out.old
      obtain ⟨c0, c1, c2, c3⟩ := hcV.kept kk (fun e => e)
      have ff : wr.frozen? ⟨w.heap.size, 3, none⟩ = false := (kk.frozen (World.block_lt_of_cell? _ _ hcV.c0) (fun e => e)).trans fV
      go_wp2_with fail
      obtain ⟨W1, hW1⟩ : ∃ W1, W1 = wr.setCell ⟨w.heap.size, 3, none⟩ (.int .i64 987654) := ⟨_, rfl⟩
      have kS : Kept (· = w.heap.size) wr W1 := by rw [hW1]; exact (Kept.refl (· = w.heap.size) wr).setCell ⟨w.heap.size, 3, none⟩ (Or.inr rfl) _
      have hc1 : CelAt W1 w.heap.size ⟨x.g, x.a, x.b, 987654⟩ := by rw [hW1]; exact ⟨by simp [go_sem, c0], by simp [go_sem, c1], by simp [go_sem, c2], by simp [go_sem, c3]⟩
      rw [← hW1]
      clear hW1 c0 c1 c2 c3 ff
      have HW : Hid (Uno (fun i => i = w.heap.size) w W1 s z) := by
        obtain ⟨B, b1, b2, _, b4⟩ := HU.out
        have hsz := b4.size
        have hsk := kS.size
        exact ⟨B, b1.kept kS (fun i hi e => by have := (b2 i hi).1; omega), fun i hi => ⟨by have := (b2 i hi).1; omega, fun e => by have := (b2 i hi).1; omega⟩, fun i hi => by omega, (kV.trans b4).later kS (fun i hi e => by omega)⟩
      obtain ⟨hR1, hR2, hC1, hC2, _⟩ := bounds_scr HU.out.scr.choose_spec
      have HP := put_look (R := z.R) (C := z.C) (F := z.F) (r := z.r) (c := z.c) (k := k) (b := z.b) (x := ⟨x.g, x.a, x.b, 987654⟩) hR1 hC1 HN.out
      obtain ⟨x', hx'⟩ : ∃ x' : Cel, x' = ⟨x.g, x.a, x.b, 987654⟩ := ⟨_, rfl⟩
      rw [← hx'] at hc1 HP
      have hxm : x'.m = 987654 := by rw [hx']
      refine (uno_call HW.out h0 (fun B hs hB0 => put_scr ⟨x.g, x.a, x.b, 987654⟩ k false hs (HBw.out.kept0 HW.out.old) hB0)).mono ?_
      rintro e w3 ⟨rfl, hu3, hk3⟩
      replace hc1 := hc1.kept hk3 (fun e => e.2 rfl)
      rw [← hx'] at hu3
      clear hx' hk3 HW HU kS kk
      obtain ⟨y, hy⟩ : ∃ y, y = putZ z x' k false := ⟨_, rfl⟩
      rw [← hy] at hu3
      have eR : y.R = z.R := by rw [hy]; rfl
      have eC : y.C = z.C := by rw [hy]; rfl
      have er : y.r = putR z.R z.C z.r z.c z.b k := by rw [hy]; simp [putZ, sputR]
      have ec : y.c = putC z.C z.c z.b k := by rw [hy]; simp [putZ, sputC]
      have eF : y.F = putF z.R z.C z.F z.r z.c z.b x' k blk := by rw [hy]; simp [putZ, sputF]
      rw [← er, ← ec, ← eF, ← eR, ← eC] at HP
      rw [← eR] at hR1 hR2
      rw [← eC] at hC1 hC2
      clear hy eR eC er ec eF HN
      have HU3 := Lib.hid hu3
      clear hu3
      go_wp2_with fail
      refine (size_scr HU3.out.scr.choose_spec).mono ?_
      rintro e w4 ⟨rfl, k4⟩
      have HU4 : Hid (Uno (fun i => i = w.heap.size) w w4 s y) := HU3.out.keep k4
      replace hc1 := hc1.kept k4 (fun e => e)
      clear HU3 k4
      go_wp2_with fail
      obtain ⟨W2, hW2⟩ : ∃ W2, W2 = w4.alloc (.cells #[.int .i64 (y.R : Int), .int .i64 (y.C : Int)] 39) := ⟨_, rfl⟩
      have kW2 : Kept0 w4 W2 := by rw [hW2]; exact (Kept.refl _ _).alloc _
      have z0 : W2.cell? ⟨w4.heap.size, 0, none⟩ = some (.int .i64 (y.R : Int)) := by rw [hW2]; simp [go_sem]
      have z1 : W2.cell? ⟨w4.heap.size, 1, none⟩ = some (.int .i64 (y.C : Int)) := by rw [hW2]; simp [go_sem]
      have HU5 : Hid (Uno (fun i => i = w.heap.size) w W2 s y) := HU4.out.keep kW2
      replace hc1 := hc1.kept kW2 (fun e => e)
      rw [← hW2]
      clear hW2 HU4 kW2
      refine (cur_scr HU5.out.scr.choose_spec).mono ?_
      rintro e w5 ⟨rfl, k5⟩
      obtain ⟨W3, hW3⟩ : ∃ W3, W3 = w5.alloc (.cells #[.int .i64 y.r, .int .i64 y.c] 30) := ⟨_, rfl⟩
      have kW3 : Kept0 w5 W3 := by rw [hW3]; exact (Kept.refl _ _).alloc _
      have p0 : W3.cell? ⟨w5.heap.size, 0, none⟩ = some (.int .i64 y.r) := by rw [hW3]; simp [go_sem]
      have p1 : W3.cell? ⟨w5.heap.size, 1, none⟩ = some (.int .i64 y.c) := by rw [hW3]; simp [go_sem]
      have k53 := k5.trans kW3
      replace z0 := kcell k53 z0
      replace z1 := kcell k53 z1
      replace hc1 := hc1.kept k53 (fun e => e)
      have HU6 : Hid (Uno (fun i => i = w.heap.size) w W3 s y) := HU5.out.keep k53
      clear HU5 k53 kW3 k5
      obtain ⟨hT, HPP⟩ := HP
      have HP := Lib.hid HPP
      clear HPP
      obtain ⟨t1, t2, t3, t4⟩ := hT
      have hat : Calls Tryd.prog 13 #[ptr s, pos y.r y.c] W3 fun e w'' => e = .returned (.tuple #[(y.F (idx y.C y.r y.c)).v, .int .i64 0]) ∧ Kept0 W3 w'' := by
        have := at_scr y.r y.c HU6.out.scr.choose_spec
        have e1 : atX y.R y.C y.F y.r y.c = y.F (idx y.C y.r y.c) := if_pos ⟨t1, t2, t3, t4⟩
        have e2 : atE y.R y.C y.r y.c = 0 := if_pos ⟨t1, t2, t3, t4⟩
        rwa [e1, e2] at this
      have HAT := Lib.hid hat
      clear hat
      obtain ⟨X, hX⟩ : ∃ X, X = y.F (idx y.C y.r y.c) := ⟨_, rfl⟩
      rw [← hX] at HAT HP
      clear hX
      go_wp2_with fail
      rw [← hW3]
      clear hW3
      refine HAT.out.mono ?_
      rintro e w6 ⟨rfl, k6⟩
      clear HAT
      replace z0 := kcell k6 z0
      replace z1 := kcell k6 z1
      replace p0 := kcell k6 p0
      replace p1 := kcell k6 p1
      obtain ⟨c0, c1, c2, c3⟩ := hc1.kept k6 (fun e => e)
      have HU7 : Hid (Uno (fun i => i = w.heap.size) w w6 s y) := HU6.out.keep k6
      have l1 := World.block_lt_of_cell? _ _ c0
      have l2 := World.block_lt_of_cell? _ _ z0
      have l3 := World.block_lt_of_cell? _ _ p0
      clear HU6 k6
      have GX : Hid (∀ w', Uno (fun i => i = w.heap.size) w w' s y → ∀ p q : Int, There y.R y.C p q → y.F (idx y.C p q) = x' → Calls Tryd.prog 13 #[ptr s, pos p q] w' fun e w'' => e = .returned (.tuple #[x'.v, .int .i64 0]) ∧ Kept0 w' w'') := fun w' h p q a b => by
        have := at_scr p q h.scr.choose_spec
        have e1 : atX y.R y.C y.F p q = x' := (if_pos a).trans b
        have e2 : atE y.R y.C p q = 0 := if_pos a
        rwa [e1, e2] at this
      have GN : Hid (∀ w', Uno (fun i => i = w.heap.size) w w' s y → ∀ p q : Int, p < 0 → Calls Tryd.prog 13 #[ptr s, pos p q] w' fun e w'' => e = .returned (.tuple #[zc.v, .int .i64 11]) ∧ Kept0 w' w'') := fun w' h p q a => by
        have := at_scr p q h.scr.choose_spec
        have e1 : atX y.R y.C y.F p q = zc := if_neg (by omega)
        have e2 : atE y.R y.C p q = 11 := if_neg (by omega)
        rwa [e1, e2] at this
      have hBk := Lib.hid (HBw.out.kept0 HU7.out.old)
      have KW : Hid (Kept0 w w6) := HU7.out.old
      rcases HP.out with ⟨h1, h2⟩ | ⟨h1, h2⟩
      · subst h1
        have hdb : (y.c == (y.C : Int) - 1) = true := by simpa using h2
        clear HP h2
        go_wp2_with fail
        refine (awake_any _ (hBk.out.kept0 ((Kept.refl _ w6).alloc _))).mono ?_
        rintro e w7 ⟨rfl, k7⟩
        go_wp2_with fail
        go_ret
        exact ⟨rfl, Kept0.below ((HU7.out.old.alloc _).trans k7)⟩
      · have hne : (X.m == x'.m) = false := by rw [hxm]; simpa using h1
        clear HP h1 hxm
        rcases h2 with ⟨g1, g2, g3⟩ | ⟨g1, g2⟩ | ⟨g1, g2, g3⟩
        · have d0 : (y.c == 0) = false := by simpa using g1
          have HC : Hid (∀ W, Kept0 w6 W → _) := fun W kk => GX.out W (HU7.out.keep kk) _ _ g2 g3
          clear g1 g2 g3 GX GN
          go_wp2_with fail
          all_goals
            refine (HC.out _ (((Kept.refl _ w6).alloc _).alloc _)).mono ?_
            rintro e w7 ⟨rfl, k7⟩
            have kk := (((Kept.refl (fun _ => False) w6).alloc _).alloc _).trans k7
            clear k7
            replace c0 := kcell kk c0
            replace c1 := kcell kk c1
            replace c2 := kcell kk c2
            replace c3 := kcell kk c3
            clear l1
            have l1 := World.block_lt_of_cell? _ _ c0
            go_wp2_with fail
            refine (awake_any _ (hBk.out.kept0 (kk.alloc _))).mono ?_
            rintro e w8 ⟨rfl, k8⟩
            go_wp2_with fail
            go_ret
            exact ⟨rfl, Kept0.below ((KW.out.trans (kk.alloc _)).trans k8)⟩
        · have d0 : (y.c == 0) = true := by simpa using g1
          have dR : ((y.R : Int) == 1) = true := by rw [g2]; rfl
          have hr0 : y.r - 1 < 0 := by omega
          have HC : Hid (∀ W, Kept0 w6 W → _) := fun W kk => GN.out W (HU7.out.keep kk) (y.r - 1) ((y.C : Int) - 1) hr0
          clear g1 g2 GX GN hr0
          go_wp2_with fail
          all_goals
            refine (HC.out _ (((Kept.refl _ w6).alloc _).alloc _)).mono ?_
            rintro e w7 ⟨rfl, k7⟩
            have kk := (((Kept.refl (fun _ => False) w6).alloc _).alloc _).trans k7
            clear k7
            replace z0 := kcell kk z0
            replace p1 := kcell kk p1
            clear l2 l3
            have l2 := World.block_lt_of_cell? _ _ z0
            have l3 := World.block_lt_of_cell? _ _ p1
            go_wp2_with fail
            refine (awake_any _ (hBk.out.kept0 (kk.alloc _))).mono ?_
            rintro e w8 ⟨rfl, k8⟩
            go_wp2_with fail
            go_ret
            exact ⟨rfl, Kept0.below ((KW.out.trans (kk.alloc _)).trans k8)⟩
        · have d0 : (y.c == 0) = true := by simpa using g1
          have HC : Hid (∀ W, Kept0 w6 W → _) := fun W kk => GX.out W (HU7.out.keep kk) _ _ g2 g3
          clear g1 g2 g3 GX GN
          go_wp2_with fail
          all_goals
            refine (HC.out _ (((Kept.refl _ w6).alloc _).alloc _)).mono ?_
            rintro e w7 ⟨rfl, k7⟩
            have kk := (((Kept.refl (fun _ => False) w6).alloc _).alloc _).trans k7
            clear k7
            replace c0 := kcell kk c0
            replace c1 := kcell kk c1
            replace c2 := kcell kk c2
            replace c3 := kcell kk c3
            clear l1
            have l1 := World.block_lt_of_cell? _ _ c0
            go_wp2_with fail
            refine (awake_any _ (hBk.out.kept0 (kk.alloc _))).mono ?_
            rintro e w8 ⟨rfl, k8⟩
            go_wp2_with fail
            go_ret
            exact ⟨rfl, Kept0.below ((KW.out.trans (kk.alloc _)).trans k8)⟩
end Go.Proofs.YtkpfhgfdfndliaaDoor
