/-
  ScreenFeeds: Feed by n, and back, away from the edges, turns nothing, and the lines move by as many as are beyond an edge.
-/
import Derived.Test.YtkpfhgfdfndliaaGreatDoorFewZ
import Derived.Test.YtkpfhgfdfndliaaGreatDoorFeedsF
import Derived.Test.YtkpfhgfdfndliaaGreatDoorAw
import Derived.Test.YtkpfhgfdfndliaaGreatDoorEq
namespace Go.Proofs.YtkpfhgfdfndliaaGreatDoor
open Go.RowKit

theorem eqv_cel (x : Cel) (w : World) : (Op.equalIn 10000 36 x.v x.v).run Tryz.prog w = .ok true w := by
  rw [run_equalIn_agg w 9999 36 _ _ (by kernel_rfl) (by kernel_rfl)]
  simp [go_sem]
theorem at_inS {B : Nat → Prop} {w : World} {s : Nat} {z : St} (h : Scr w B s z) (i j : Nat) (hi : i < z.R) (hj : j < z.C) :
    Calls Tryz.prog 22 #[ptr s, pos i j] w fun e w' => e = .returned (.tuple #[(z.F (i * z.C + j)).v, .int .i64 0]) ∧ Kept0 w w' := by
  have := at_scr (i : Int) (j : Int) h
  have e1 : atX z.R z.C z.F (i : Int) (j : Int) = z.F (i * z.C + j) := by
    unfold atX
    rw [if_pos (by omega)]
    simp [idx]
  have e2 : atE z.R z.C (i : Int) (j : Int) = 0 := by
    unfold atE
    rw [if_pos (by omega)]
  rwa [e1, e2] at this

set_option maxRecDepth 100000 in
set_option maxHeartbeats 8000000 in
theorem feeds_calls (a1 : Option Addr) (cap1 : Nat) (l : List Op) (n : Int) (w : World) (hb : Blank w)
    (hl : OpsIn w a1 l) (nl : l.length ≤ 9223372036854775807) :
    Calls Tryz.prog 5 #[.slice a1 l.length cap1, .int .i64 n] w fun e w' => e = .returned (.bool true) ∧ Below w.heap.size w w' := by
  have HB := Lib.hid hb
  have h0 := hb.lt
  have HF1 := Lib.hid (few_any a1 cap1 l w hl nl)
  have HG : Hid (∀ w', Kept0 w w' → _) := fun w' k => begun_any a1 cap1 l w w' k (hb.kept0 k) (hl.kept0 k) nl
  obtain ⟨L, hLl⟩ : ∃ L, L = l.length := ⟨_, rfl⟩
  obtain ⟨y, hy⟩ : ∃ y, y = runZ z59 l := ⟨_, rfl⟩
  rw [← hLl] at HF1 HG nl ⊢
  rw [← hy] at HG
  clear hb hl hLl hy
  by_cases hn1 : n < -300
  · have d1 : decide (n < -300) = true := by simpa using hn1
    clear hn1
    go_enter Tryz.func5, Tryz.ntmps5
    go_wp2_with fail
    refine HF1.out.mono ?_
    rintro e w1 ⟨⟨t1, rfl⟩, k1⟩
    cases t1
    all_goals
      go_wp2_with fail
      refine (awake_any _ (HB.out.kept0 k1)).mono ?_
      rintro e w2 ⟨rfl, k2⟩
      go_wp2_with fail
      go_ret
      exact ⟨rfl, Kept0.below (k1.trans k2)⟩
  have d1 : decide (n < -300) = false := by simpa using hn1
  by_cases hn2 : 300 < n
  · have d2 : decide (300 < n) = true := by simpa using hn2
    clear hn1 hn2
    go_enter Tryz.func5, Tryz.ntmps5
    go_wp2_with fail
    refine HF1.out.mono ?_
    rintro e w1 ⟨⟨t1, rfl⟩, k1⟩
    cases t1
    all_goals
      go_wp2_with fail
      refine (awake_any _ (HB.out.kept0 k1)).mono ?_
      rintro e w2 ⟨rfl, k2⟩
      go_wp2_with fail
      go_ret
      exact ⟨rfl, Kept0.below (k1.trans k2)⟩
  have d2 : decide (300 < n) = false := by simpa using hn2
  go_enter Tryz.func5, Tryz.ntmps5
  go_wp2_with fail
  refine HF1.out.mono ?_
  rintro e w1 ⟨⟨t1, rfl⟩, k1⟩
  cases t1
  · go_wp2_with fail
    refine (awake_any _ (HB.out.kept0 k1)).mono ?_
    rintro e w2 ⟨rfl, k2⟩
    go_wp2_with fail
    go_ret
    exact ⟨rfl, Kept0.below (k1.trans k2)⟩
  go_wp2_with fail
  refine (HG.out w1 k1).mono ?_
  rintro e w3 ⟨s, rfl, hu⟩
  have HU : Hid (Uno no w w3 s y) := hu
  clear k1 HF1 HG hu
  go_wp2_with fail
  refine (uno_copy HU.out).mono ?_
  rintro e w4 ⟨c, rfl, hd, _⟩
  have HD : Hid (Duo no w w4 s y c y) := hd
  clear hd HU
  go_wp2_with fail
  refine (cur_scr HD.out.one.scr.choose_spec).mono ?_
  rintro e w5 ⟨rfl, k5⟩
  have HD5 : Hid (Duo no w w5 s y c y) := HD.out.keep k5
  clear HD k5
  obtain ⟨W, hW⟩ : ∃ W, W = w5.alloc (.cells #[.int .i64 y.r, .int .i64 y.c] 40) := ⟨_, rfl⟩
  have p0 : W.cell? ⟨w5.heap.size, 0, none⟩ = some (.int .i64 y.r) := by rw [hW]; simp [go_sem]
  have p1 : W.cell? ⟨w5.heap.size, 1, none⟩ = some (.int .i64 y.c) := by rw [hW]; simp [go_sem]
  have HA : Hid (Duo (fun i => False ∨ i = w5.heap.size) w W s y c y) := by rw [hW]; exact HD5.out.aside _
  go_wp2_with fail
  rw [← hW]
  clear hW HD5
  refine (size_scr HA.out.one.scr.choose_spec).mono ?_
  rintro e w6 ⟨rfl, k6⟩
  replace p0 := kcell k6 p0
  replace p1 := kcell k6 p1
  have HA6 := Lib.hid (HA.out.keep k6)
  clear HA k6
  obtain ⟨V, hV⟩ : ∃ V, V = w6.alloc (.cells #[.int .i64 (y.R : Int), .int .i64 (y.C : Int)] 23) := ⟨_, rfl⟩
  have kV : Kept0 w6 V := by rw [hV]; exact (Kept.refl _ _).alloc _
  replace p0 := kcell kV p0
  replace p1 := kcell kV p1
  have z0 : V.cell? ⟨w6.heap.size, 0, none⟩ = some (.int .i64 (y.R : Int)) := by rw [hV]; simp [go_sem]
  have z1 : V.cell? ⟨w6.heap.size, 1, none⟩ = some (.int .i64 (y.C : Int)) := by rw [hV]; simp [go_sem]
  have HAV : Hid (Duo (fun i => (False ∨ i = w5.heap.size) ∨ i = w6.heap.size) w V s y c y) := by rw [hV]; exact HA6.out.aside _
  go_wp2_with fail
  rw [← hV]
  clear hV HA6 kV
  refine (duo_call HAV.out h0 (fun B hs hB0 => feed_scr n hs (HB.out.kept0 HAV.out.old) hB0 ⟨by omega, by omega⟩)).mono ?_
  rintro e w7 ⟨rfl, hd7, k7⟩
  replace p0 := kcellS k7 p0 (fun e => e.2 (Or.inl (Or.inr rfl)))
  replace p1 := kcellS k7 p1 (fun e => e.2 (Or.inl (Or.inr rfl)))
  replace z0 := kcellS k7 z0 (fun e => e.2 (Or.inr rfl))
  replace z1 := kcellS k7 z1 (fun e => e.2 (Or.inr rfl))
  have HD7 := Lib.hid hd7
  clear hd7 k7 HAV
  obtain ⟨_, b2, _, b4, t1, t2, t3, t4⟩ := bounds_scr HD7.out.swap.one.scr.choose_spec
  have HX := Lib.hid (fun (i k : Nat) (hi : i < y.R) (hk : k < y.C) => upF_at (R := y.R) (C := y.C) y.F (feedD y.R y.r n) blk hi hk)
  have HBK := Lib.hid (fun h => feed_back y n (by omega) ⟨t1, t2⟩ ⟨t3, t4⟩ h)
  obtain ⟨z, hz⟩ : ∃ z, z = feedZ y n := ⟨_, rfl⟩
  have er : z.r = max 0 (min (y.r + n) ((y.R : Int) - 1)) := by rw [hz]; rfl
  have ec : z.c = y.c := by rw [hz]; rfl
  have eb : z.b = false := by rw [hz]; rfl
  have eR : z.R = y.R := by rw [hz]; rfl
  have eC : z.C = y.C := by rw [hz]; rfl
  have eF : z.F = upF y.R y.C y.F (feedD y.R y.r n) blk := by rw [hz]; rfl
  rw [← eF] at HX
  rw [← hz] at HD7 HBK
  obtain ⟨d, hd⟩ : ∃ d, d = feedD y.R y.r n := ⟨_, rfl⟩
  rw [← hd] at HX HBK
  have ed : d = y.r + n - z.r := by rw [hd, er]; rfl
  have hcs := cur_scr HD7.out.one.scr.choose_spec
  rw [ec, eb] at hcs
  have HCS := Lib.hid hcs
  have HE := Lib.hid (And.intro eR (And.intro eC (And.intro er ed)))
  obtain ⟨zr, hzr⟩ : ∃ zr, zr = z.r := ⟨_, rfl⟩
  rw [← hzr] at HCS er ed
  have er2 : max 0 (min (y.r + n) ((y.R : Int) - 1)) = zr := er.symm
  have hzl : 0 ≤ zr ∧ zr ≤ 255 := by omega
  have HZR := Lib.hid hzr
  have ed2 : y.r + n - zr = d := ed.symm
  clear hcs hz hzr hd ec eb eF eR eC er ed
  go_wp2_with fail
  refine HCS.out.mono ?_
  rintro e w8 ⟨rfl, k8⟩
  replace p0 := kcell k8 p0
  replace p1 := kcell k8 p1
  replace z0 := kcell k8 z0
  replace z1 := kcell k8 z1
  have HD8 := Lib.hid (HD7.out.keep k8)
  clear HD7 k8 HCS
  have l1 := World.block_lt_of_cell? _ _ p0
  have l2 := World.block_lt_of_cell? _ _ z0
  obtain ⟨V, hV⟩ : ∃ V, V = w8.alloc (.cells #[.int .i64 zr, .int .i64 y.c] 40) := ⟨_, rfl⟩
  have kV : Kept0 w8 V := by rw [hV]; exact (Kept.refl _ _).alloc _
  have HV := Lib.hid hV
  have HDV := Lib.hid (HD8.out.keep kV)
  have v0 := Lib.hid (kcell kV z0)
  have v1 := Lib.hid (kcell kV z1)
  have HPV := Lib.hid (And.intro (kcell kV p0) (kcell kV p1))
  clear hV kV HD8
  go_wp2_with fail
  rw [← HV.out]
  have hv0 := v0.out
  have hv1 := v1.out
  have eR := HE.out.1
  have eC := HE.out.2.1
  have HX1 : Hid (∀ w', Duo (fun i => (False ∨ i = w5.heap.size) ∨ i = w6.heap.size) w w' s z c y → ∀ i j : Nat, i < y.R → j < y.C → Calls Tryz.prog 22 #[ptr s, pos i j] w' fun e w'' => e = .returned (.tuple #[(z.F (i * y.C + j)).v, .int .i64 0]) ∧ Kept0 w' w'') := fun w' h i j a b => by
    have := at_inS h.one.scr.choose_spec i j (by rw [eR]; exact a) (by rw [eC]; exact b)
    rwa [eC] at this
  have HY1 : Hid (∀ w', Duo (fun i => (False ∨ i = w5.heap.size) ∨ i = w6.heap.size) w w' s z c y → ∀ (e : Nat) (j : Nat), e < y.R → j < y.C → Calls Tryz.prog 22 #[ptr c, pos (e : Int) j] w' fun e' w'' => e' = .returned (.tuple #[(y.F (e * y.C + j)).v, .int .i64 0]) ∧ Kept0 w' w'') := fun w' h e j a b =>
    at_inS h.swap.one.scr.choose_spec e j a b
  have HY2 : Hid (∀ w', Duo (fun i => (False ∨ i = w5.heap.size) ∨ i = w6.heap.size) w w' s z c y → ∀ (e : Int) (j : Nat), ¬ (0 ≤ e ∧ e < y.R) → Calls Tryz.prog 22 #[ptr c, pos e j] w' fun e' w'' => e' = .returned (.tuple #[zc.v, .int .i64 11]) ∧ Kept0 w' w'') := fun w' h e j a => by
    have := at_scr e (j : Int) h.swap.one.scr.choose_spec
    have e1 : atX y.R y.C y.F e (j : Int) = zc := if_neg (by omega)
    have e2 : atE y.R y.C e (j : Int) = 11 := if_neg (by omega)
    rwa [e1, e2] at this
  have hbl : ∀ wr, Kept0 V wr → wr.cell? ⟨0, 0, none⟩ = some (.int .i32 32) ∧ wr.cell? ⟨0, 1, none⟩ = some (.int .i64 0) ∧ wr.cell? ⟨0, 2, none⟩ = some (.bool false) ∧ wr.cell? ⟨0, 3, none⟩ = some (.int .i64 0) := fun wr k => by
    obtain ⟨t, ht⟩ := HB.out.kept0 (HDV.out.old.trans k)
    refine ⟨?_, ?_, ?_, ?_⟩ <;> simp [World.cell?, ht]
  have HBL := Lib.hid hbl
  obtain ⟨R, hRR⟩ : ∃ R, R = y.R := ⟨_, rfl⟩
  obtain ⟨C, hCC⟩ : ∃ C, C = y.C := ⟨_, rfl⟩
  rw [← hRR] at HX1 HY1 HY2 HX hv0 b2
  rw [← hCC] at HX1 HY1 HX hv1 b4
  have hdb : -1000 ≤ d ∧ d ≤ 1000 := by omega
  have HER := Lib.hid er2
  have HED := Lib.hid ed2
  clear v0 v1 eR eC hbl p0 p1 z0 z1 l1 l2 hRR hCC er2 ed2
  go_loopw [14] (fun s14 wr => ∃ i : Nat, i ≤ R ∧ s14 = .int .i64 (i : Int) ∧ Kept0 V wr) (fun s14 _ => R - (intOf s14).toNat)
  case atStart => exact ⟨0, by omega, rfl, Kept.refl _ _⟩
  case round =>
    obtain ⟨i, hi, rfl, ki⟩ := hrel
    have g0 := kcell ki hv0
    by_cases hlt2 : i < R
    · have hdt2 : decide ((i : Int) < (R : Int)) = true := by simp; omega
      go_wp2_with fail
      go_loopw [15] (fun s15 wr => ∃ j : Nat, j ≤ C ∧ s15 = .int .i64 (j : Int) ∧ Kept0 V wr) (fun s15 _ => C - (intOf s15).toNat)
      case atStart => exact ⟨0, by omega, rfl, ki⟩
      case round =>
        clear g0 ki
        obtain ⟨j, hj, rfl, kj⟩ := hrel
        have g1 := kcell kj hv1
        by_cases hlt3 : j < C
        · have hdt3 : decide ((j : Int) < (C : Int)) = true := by simp; omega
          have hxx := HX.out i j hlt2 hlt3
          have HC1 := HX1.out wr (HDV.out.keep kj) i j hlt2 hlt3
          obtain ⟨u, hu⟩ : ∃ u, u = z.F (i * C + j) := ⟨_, rfl⟩
          rw [← hu] at hxx HC1
          clear hu
          by_cases hin : 0 ≤ (i : Int) + d ∧ (i : Int) + d < (R : Int)
          · rw [if_pos hin] at hxx
            obtain ⟨m, hm⟩ := Int.eq_ofNat_of_zero_le hin.1
            rw [hm, Int.toNat_natCast] at hxx
            have HC2 : Hid (∀ w', Kept0 wr w' → Calls Tryz.prog 22 #[ptr c, pos (m : Int) j] w' fun e' w'' => e' = .returned (.tuple #[u.v, .int .i64 0]) ∧ Kept0 w' w'') := fun w' k => by
              have := HY1.out w' ((HDV.out.keep kj).keep k) m j (by omega) hlt3
              rwa [← hxx] at this
            clear hxx hin
            go_wp2_with fail
            refine HC1.mono ?_
            rintro e w10 ⟨rfl, k10⟩
            obtain ⟨V6, hV6⟩ : ∃ V6, V6 = w10.alloc (.cells #[.int .i32 u.g, .int .i64 u.a, .bool u.b, .int .i64 u.m] 36) := ⟨_, rfl⟩
            have kV6 : Kept0 w10 V6 := by rw [hV6]; exact (Kept.refl _ _).alloc _
            have hc : CelAt V6 w10.heap.size u := by rw [hV6]; exact CelAt.new w10 u 36
            replace k10 := k10.trans kV6
            clear kV6 HC1 g1
            go_wp2_with fail
            rw [← hV6]
            clear hV6
            refine (HC2.out V6 k10).mono ?_
            rintro e w11 ⟨rfl, k11⟩
            obtain ⟨c0, c1, c2, c3⟩ := hc.kept k11 (fun e => e)
            replace k11 := k10.trans k11
            clear hc k10 HC2
            have l1 := World.block_lt_of_cell? _ _ c0
            have kE : Kept0 V (w11.alloc (.cells #[.int .i32 u.g, .int .i64 u.a, .bool u.b, .int .i64 u.m] 36)) := (kj.trans k11).alloc _
            have q1 : ∀ w, (Op.equalIn 10000 36 u.v u.v).run Tryz.prog w = .ok true w := fun w => eqv_cel u w
            go_wp2_with fail
            go_roundw
            case rel => exact ⟨j + 1, by omega, by go_num, kE⟩
            case measure => simp [intOf]; omega
          · rw [if_neg hin] at hxx
            have HC2 : Hid (∀ w', Kept0 wr w' → Calls Tryz.prog 22 #[ptr c, pos ((i : Int) + d) j] w' fun e' w'' => e' = .returned (.tuple #[zc.v, .int .i64 11]) ∧ Kept0 w' w'') := fun w' k => HY2.out w' ((HDV.out.keep kj).keep k) _ j hin
            obtain rfl : u = blk := hxx
            clear hin
            go_wp2_with fail
            refine HC1.mono ?_
            rintro e w10 ⟨rfl, k10⟩
            obtain ⟨V6, hV6⟩ : ∃ V6, V6 = w10.alloc (.cells #[.int .i32 blk.g, .int .i64 blk.a, .bool blk.b, .int .i64 blk.m] 36) := ⟨_, rfl⟩
            have kV6 : Kept0 w10 V6 := by rw [hV6]; exact (Kept.refl _ _).alloc _
            have hc : CelAt V6 w10.heap.size blk := by rw [hV6]; exact CelAt.new w10 blk 36
            replace k10 := k10.trans kV6
            clear kV6 HC1 g1
            go_wp2_with fail
            rw [← hV6]
            clear hV6
            refine (HC2.out V6 k10).mono ?_
            rintro e w11 ⟨rfl, k11⟩
            obtain ⟨c0, c1, c2, c3⟩ := hc.kept k11 (fun e => e)
            replace k11 := k10.trans k11
            obtain ⟨b0, b1, b3, b5⟩ := HBL.out w11 (kj.trans k11)
            clear hc k10 HC2
            have l1 := World.block_lt_of_cell? _ _ c0
            have l0 := World.block_lt_of_cell? _ _ b0
            have kE : Kept0 V (w11.alloc (.cells #[.int .i32 zc.g, .int .i64 zc.a, .bool zc.b, .int .i64 zc.m] 36)) := (kj.trans k11).alloc _
            replace c0 : w11.cell? ⟨w10.heap.size, 0, none⟩ = some (.int .i32 32) := c0
            replace c1 : w11.cell? ⟨w10.heap.size, 1, none⟩ = some (.int .i64 0) := c1
            replace c2 : w11.cell? ⟨w10.heap.size, 2, none⟩ = some (.bool false) := c2
            replace c3 : w11.cell? ⟨w10.heap.size, 3, none⟩ = some (.int .i64 0) := c3
            have q1 : ∀ w, (Op.equalIn 10000 36 (.agg #[.int .i32 32, .int .i64 0, .bool false, .int .i64 0]) (.agg #[.int .i32 32, .int .i64 0, .bool false, .int .i64 0])).run Tryz.prog w = .ok true w := fun w => eqv_cel blk w
            go_wp2_with fail
            go_roundw
            case rel => exact ⟨j + 1, by omega, by go_num, kE⟩
            case measure => simp [intOf]; omega
        · obtain rfl : j = C := by omega
          have hdt3 : decide ((j : Int) < (j : Int)) = false := by simp
          go_wp2_with fail
          go_roundw
          case rel => exact ⟨i + 1, by omega, by go_num, kj⟩
          case measure => simp [intOf]; omega
    · obtain rfl : i = R := by omega
      have hdt2 : decide ((i : Int) < (i : Int)) = false := by simp
      have HD6 := Lib.hid (HDV.out.keep ki)
      have p0 := kcell ki HPV.out.1
      have p1 := kcell ki HPV.out.2
      by_cases hd0 : d = 0
      · have HM := HBK.out hd0
        have dd : (d == 0) = true := by simpa using hd0
        have HMM := Lib.hid HM
        clear HM hd0
        go_wp2_with fail
        refine (duo_call HD6.out h0 (fun B hs hB0 => feed_scr (-n) hs (HB.out.kept0 HD6.out.old) hB0 ⟨by omega, by omega⟩)).mono ?_
        rintro e w10 ⟨rfl, hd10, k10⟩
        replace p0 := kcellS k10 p0 (fun e => e.2 (Or.inl (Or.inr rfl)))
        replace p1 := kcellS k10 p1 (fun e => e.2 (Or.inl (Or.inr rfl)))
        have HD10 := Lib.hid hd10.swap
        clear hd10 k10 HD6
        go_wp2_with fail
        refine (duo_call HD10.out h0 (fun B hs _ => move_scr y.r y.c hs)).mono ?_
        rintro e w11 ⟨rfl, hd11, k11⟩
        have HD11 := Lib.hid hd11.swap
        clear hd11 k11 HD10
        go_wp2_with fail
        have hq := HD11.out
        rw [HMM.out] at hq
        refine (equal_same w11 hq.one.scr.choose_spec hq.swap.one.scr.choose_spec).mono ?_
        rintro e w12 ⟨rfl, k12⟩
        have kk := HD11.out.old.trans k12
        clear hq
        go_wp2_with fail
        refine (awake_any _ (HB.out.kept0 kk)).mono ?_
        rintro e w13 ⟨rfl, k13⟩
        go_wp2_with fail
        go_ret
        exact ⟨rfl, Kept0.below (kk.trans k13)⟩
      · have dd : (d == 0) = false := by simpa using hd0
        clear hd0
        go_wp2_with fail
        refine (awake_any _ (HB.out.kept0 HD6.out.old)).mono ?_
        rintro e w13 ⟨rfl, k13⟩
        go_wp2_with fail
        go_ret
        exact ⟨rfl, Kept0.below (HD6.out.old.trans k13)⟩
end Go.Proofs.YtkpfhgfdfndliaaGreatDoor
