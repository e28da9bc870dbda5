/-
  ScreenGrows: a screen that is made greater, and as it was again, is the same, and what is put anew is blank.
-/
import Derived.Test.YtkpfhgfdfndliaaGreatDoorFewQ
import Derived.Test.YtkpfhgfdfndliaaGreatDoorFeedsL
namespace Go.Proofs.YtkpfhgfdfndliaaGreatDoor
open Go.RowKit

/-- Where too many calls are handed in, or numbers that are too great. -/
theorem grows_out (a1 : Option Addr) (cap1 : Nat) (l : List Op) (p q : Int) (w : World) (hb : Blank w)
    (hl : OpsIn w a1 l) (nl : l.length ≤ 9223372036854775807) (h : ¬ (0 ≤ p ∧ p ≤ 9 ∧ 0 ≤ q ∧ q ≤ 9)) :
    Calls Tryz.prog 7 #[.slice a1 l.length cap1, pos p q] w fun e w' => e = .returned (.bool true) ∧ Kept0 w w' := by
  have HB := Lib.hid hb
  have HF1 := Lib.hid (fun W (k : Kept0 w W) => few_any a1 cap1 l W (hl.kept0 k) nl)
  obtain ⟨L, hLl⟩ : ∃ L, L = l.length := ⟨_, rfl⟩
  rw [← hLl] at HF1 nl ⊢
  clear hb hl hLl
  obtain ⟨V, hV⟩ : ∃ V, V = w.alloc (.cells #[.int .i64 p, .int .i64 q] 40) := ⟨_, rfl⟩
  have kV : Kept0 w V := by rw [hV]; exact (Kept.refl _ _).alloc _
  have m0 : V.cell? ⟨w.heap.size, 0, none⟩ = some (.int .i64 p) := by rw [hV]; simp [go_sem]
  have m1 : V.cell? ⟨w.heap.size, 1, none⟩ = some (.int .i64 q) := by rw [hV]; simp [go_sem]
  by_cases h1 : p < 0
  · have d1 : decide (p < 0) = true := by simpa using h1
    clear h h1
    go_enter Tryz.func7, Tryz.ntmps7
    go_wp2_with fail
    rw [← hV]
    clear hV
    refine (HF1.out V kV).mono ?_
    rintro e w1 ⟨⟨t1, rfl⟩, k1⟩
    replace m0 := kcell k1 m0
    cases t1
    all_goals
      go_wp2_with fail
      refine (awake_any _ (HB.out.kept0 (kV.trans k1))).mono ?_
      rintro e w2 ⟨rfl, k2⟩
      go_wp2_with fail
      go_ret
      exact ⟨rfl, (kV.trans k1).trans k2⟩
  have d1 : decide (p < 0) = false := by simpa using h1
  by_cases h2 : 9 < p
  · have d2 : decide (9 < p) = true := by simpa using h2
    clear h h1 h2
    go_enter Tryz.func7, Tryz.ntmps7
    go_wp2_with fail
    rw [← hV]
    clear hV
    refine (HF1.out V kV).mono ?_
    rintro e w1 ⟨⟨t1, rfl⟩, k1⟩
    replace m0 := kcell k1 m0
    cases t1
    all_goals
      go_wp2_with fail
      refine (awake_any _ (HB.out.kept0 (kV.trans k1))).mono ?_
      rintro e w2 ⟨rfl, k2⟩
      go_wp2_with fail
      go_ret
      exact ⟨rfl, (kV.trans k1).trans k2⟩
  have d2 : decide (9 < p) = false := by simpa using h2
  by_cases h3 : q < 0
  · have d3 : decide (q < 0) = true := by simpa using h3
    clear h h1 h2 h3
    go_enter Tryz.func7, Tryz.ntmps7
    go_wp2_with fail
    rw [← hV]
    clear hV
    refine (HF1.out V kV).mono ?_
    rintro e w1 ⟨⟨t1, rfl⟩, k1⟩
    replace m0 := kcell k1 m0
    replace m1 := kcell k1 m1
    cases t1
    all_goals
      go_wp2_with fail
      refine (awake_any _ (HB.out.kept0 (kV.trans k1))).mono ?_
      rintro e w2 ⟨rfl, k2⟩
      go_wp2_with fail
      go_ret
      exact ⟨rfl, (kV.trans k1).trans k2⟩
  have d3 : decide (q < 0) = false := by simpa using h3
  have d4 : decide (9 < q) = true := by simp; omega
  clear h h1 h2 h3
  go_enter Tryz.func7, Tryz.ntmps7
  go_wp2_with fail
  rw [← hV]
  clear hV
  refine (HF1.out V kV).mono ?_
  rintro e w1 ⟨⟨t1, rfl⟩, k1⟩
  replace m0 := kcell k1 m0
  replace m1 := kcell k1 m1
  cases t1
  all_goals
    go_wp2_with fail
    refine (awake_any _ (HB.out.kept0 (kV.trans k1))).mono ?_
    rintro e w2 ⟨rfl, k2⟩
    go_wp2_with fail
    go_ret
    exact ⟨rfl, (kV.trans k1).trans k2⟩

set_option maxRecDepth 100000 in
set_option maxHeartbeats 8000000 in
theorem grows_in (a1 : Option Addr) (cap1 : Nat) (l : List Op) (mr mc : Nat) (w : World) (hb : Blank w)
    (hl : OpsIn w a1 l) (nl : l.length ≤ 9223372036854775807) (hmr : mr ≤ 9) (hmc : mc ≤ 9) :
    Calls Tryz.prog 7 #[.slice a1 l.length cap1, pos (mr : Int) (mc : Int)] w fun e w' => e = .returned (.bool true) ∧ Kept0 w w' := by
  obtain ⟨V, hV⟩ : ∃ V, V = w.alloc (.cells #[.int .i64 (mr : Int), .int .i64 (mc : Int)] 40) := ⟨_, rfl⟩
  have kV : Kept0 w V := by rw [hV]; exact (Kept.refl _ _).alloc _
  have m0 : V.cell? ⟨w.heap.size, 0, none⟩ = some (.int .i64 (mr : Int)) := by rw [hV]; simp [go_sem]
  have m1 : V.cell? ⟨w.heap.size, 1, none⟩ = some (.int .i64 (mc : Int)) := by rw [hV]; simp [go_sem]
  have HB := Lib.hid (hb.kept0 kV)
  have h0 : 0 < V.heap.size := Nat.lt_of_lt_of_le hb.lt kV.size
  have HF1 := Lib.hid (few_say a1 cap1 l V (hl.kept0 kV) nl)
  have HG : Hid (∀ w', Kept0 V w' → _) := fun w' k => begun_any a1 cap1 l V w' k (HB.out.kept0 k) ((hl.kept0 kV).kept0 k) nl
  have HSM : Hid ((∀ o ∈ l, OkSize o) → Small (runZ z59 l)) := fun h => small59.run l h
  obtain ⟨L, hLl⟩ : ∃ L, L = l.length := ⟨_, rfl⟩
  obtain ⟨y, hy⟩ : ∃ y, y = runZ z59 l := ⟨_, rfl⟩
  rw [← hLl] at HF1 HG nl ⊢
  rw [← hy] at HG HSM
  have d1 : decide ((mr : Int) < 0) = false := by simp
  have d2 : decide ((9 : Int) < (mr : Int)) = false := by simp; omega
  have d3 : decide ((mc : Int) < 0) = false := by simp
  have d4 : decide ((9 : Int) < (mc : Int)) = false := by simp; omega
  clear hb hl hLl hy
  go_enter Tryz.func7, Tryz.ntmps7
  go_wp2_with fail
  rw [← hV]
  clear hV
  refine HF1.out.mono ?_
  rintro e w1 ⟨⟨t1, rfl, ht⟩, k1⟩
  have HT := Lib.hid ht
  clear ht HF1
  have M0 := Lib.hid m0
  have M1 := Lib.hid m1
  replace m0 := kcell k1 m0
  replace m1 := kcell k1 m1
  cases t1
  · go_wp2_with fail
    refine (awake_any _ (HB.out.kept0 k1)).mono ?_
    rintro e w2 ⟨rfl, k2⟩
    go_wp2_with fail
    go_ret
    exact ⟨rfl, kV.trans (k1.trans k2)⟩
  obtain ⟨s1, s2⟩ := HSM.out (HT.out rfl)
  clear HT HSM
  go_wp2_with fail
  refine (HG.out w1 k1).mono ?_
  rintro e w3 ⟨s, rfl, hu⟩
  have HU : Hid (Uno no V w3 s y) := hu
  clear k1 HG hu m0 m1
  go_wp2_with fail
  refine (size_scr HU.out.scr.choose_spec).mono ?_
  rintro e w4 ⟨rfl, k4⟩
  have HU4 := Lib.hid (HU.out.keep k4)
  clear HU k4
  obtain ⟨W, hW⟩ : ∃ W, W = w4.alloc (.cells #[.int .i64 (y.R : Int), .int .i64 (y.C : Int)] 23) := ⟨_, rfl⟩
  have z0 : W.cell? ⟨w4.heap.size, 0, none⟩ = some (.int .i64 (y.R : Int)) := by rw [hW]; simp [go_sem]
  have z1 : W.cell? ⟨w4.heap.size, 1, none⟩ = some (.int .i64 (y.C : Int)) := by rw [hW]; simp [go_sem]
  have HU5 : Hid (Uno (fun i => False ∨ i = w4.heap.size) V W s y) := by rw [hW]; exact HU4.out.aside _
  go_wp2_with fail
  rw [← hW]
  clear hW HU4
  refine (uno_copy HU5.out).mono ?_
  rintro e w5 ⟨c, rfl, hd, k5⟩
  replace z0 := kcell k5 z0
  replace z1 := kcell k5 z1
  have HD : Hid (Duo (fun i => False ∨ i = w4.heap.size) V w5 s y c y) := hd
  clear hd HU5 k5
  go_wp2_with fail
  refine (cur_scr HD.out.swap.one.scr.choose_spec).mono ?_
  rintro e w6 ⟨rfl, k6⟩
  replace z0 := kcell k6 z0
  replace z1 := kcell k6 z1
  have HD6 := Lib.hid (HD.out.keep k6)
  clear HD k6
  have l1 := World.block_lt_of_cell? _ _ z0
  have hK : Kept0 w6 (w6.alloc (.cells #[.int .i64 y.r, .int .i64 y.c] 40)) := (Kept.refl _ _).alloc _
  have HD7 := Lib.hid (HD6.out.keep hK)
  have Z0 := Lib.hid (kcell hK z0)
  have Z1 := Lib.hid (kcell hK z1)
  clear HD6 hK
  go_wp2_with fail
  refine (duo_call HD7.out.swap h0 (fun B hs _ => move_scr y.r y.c hs)).mono ?_
  rintro e w7 ⟨rfl, hd7, k7⟩
  replace z0 := kcellS k7 Z0.out (fun e => e.2 (Or.inr rfl))
  replace z1 := kcellS k7 Z1.out (fun e => e.2 (Or.inr rfl))
  have HD8 := Lib.hid hd7.swap
  clear hd7 k7 HD7 Z0 Z1 l1
  have m0 := kcell HD8.out.old M0.out
  have m1 := kcell HD8.out.old M1.out
  have l1 := World.block_lt_of_cell? _ _ z0
  have l2 := World.block_lt_of_cell? _ _ m0
  have HB4 := Lib.hid (bounds_scr HD8.out.one.scr.choose_spec)
  obtain ⟨b1, b2, b3, b4, _⟩ := HB4.out
  obtain ⟨R', hR'⟩ : ∃ R' : Nat, R' = y.R + mr := ⟨_, rfl⟩
  obtain ⟨C', hC'⟩ : ∃ C' : Nat, C' = y.C + mc := ⟨_, rfl⟩
  have hsR : (y.R : Int) + (mr : Int) = (R' : Int) := by rw [hR']; simp
  have hsC : (y.C : Int) + (mc : Int) = (C' : Int) := by rw [hC']; simp
  have hbR : 1 ≤ R' ∧ R' ≤ 255 ∧ 1 ≤ C' ∧ C' ≤ 255 ∧ y.R ≤ R' ∧ y.C ≤ C' := by omega
  clear hR' hC'
  obtain ⟨W8, hW8⟩ : ∃ W8, W8 = w7.alloc (.cells #[.int .i64 (R' : Int), .int .i64 (C' : Int)] 23) := ⟨_, rfl⟩
  have k8 : Kept0 w7 W8 := by rw [hW8]; exact (Kept.refl _ _).alloc _
  have HD9 : Hid (Duo (fun i => (False ∨ i = w4.heap.size) ∨ i = w7.heap.size) V W8 s y c (moveZ y y.r y.c)) := by rw [hW8]; exact HD8.out.aside _
  have g0 : W8.cell? ⟨w7.heap.size, 0, none⟩ = some (.int .i64 (R' : Int)) := by rw [hW8]; simp [go_sem]
  have g1 : W8.cell? ⟨w7.heap.size, 1, none⟩ = some (.int .i64 (C' : Int)) := by rw [hW8]; simp [go_sem]
  have Z0 := Lib.hid (kcell k8 z0)
  have Z1 := Lib.hid (kcell k8 z1)
  have HW8 := Lib.hid hW8
  clear hW8 k8 HD8
  go_wp2_with fail
  rw [← HW8.out]
  refine (duo_call HD9.out h0 (fun B hs _ => resize_scr R' C' hs (HB.out.kept0 HD9.out.old) ⟨hbR.1, hbR.2.1, hbR.2.2.1, hbR.2.2.2.1⟩)).mono ?_
  rintro e w9 ⟨rfl, hd9, k9⟩
  have Z2 := Lib.hid (kcellS k9 Z0.out (fun e => e.2 (Or.inl (Or.inr rfl))))
  have Z3 := Lib.hid (kcellS k9 Z1.out (fun e => e.2 (Or.inl (Or.inr rfl))))
  replace g0 := kcellS k9 g0 (fun e => e.2 (Or.inr rfl))
  replace g1 := kcellS k9 g1 (fun e => e.2 (Or.inr rfl))
  have HD10 : Hid (Duo (fun i => (False ∨ i = w4.heap.size) ∨ i = w7.heap.size) V w9 s (resZ y R' C') c (moveZ y y.r y.c)) := hd9
  clear hd9 k9 HD9 Z0 Z1 z0 z1 m0 m1 l1 l2 HW8
  go_wp2_with fail
  have HSZ : Hid (∀ w', Duo (fun i => (False ∨ i = w4.heap.size) ∨ i = w7.heap.size) V w' s (resZ y R' C') c (moveZ y y.r y.c) → Calls Tryz.prog 20 #[ptr s] w' fun e w'' => e = .returned (pos (R' : Int) (C' : Int)) ∧ Kept0 w' w'') := fun w' h => size_scr h.one.scr.choose_spec
  go_upto_region 12 with fail
  go_cut [79] from 72 to 79 (fun s79 wx => s79 = .bool false ∧ Hid (Kept0 w9 wx))
  case first =>
    go_region_held3 (fun w' => w'.cell? ⟨w7.heap.size, 0, none⟩ = some (.int .i64 (R' : Int)) ∧ w'.cell? ⟨w7.heap.size, 1, none⟩ = some (.int .i64 (C' : Int))) (go_keep)
      (first
        | (go_at_call 20; refine (HSZ.out _ (by first | exact HD10.out.keep ((Kept.refl _ _).drew) | exact HD10.out)).mono ?_; rintro e w11 ⟨rfl, k11⟩; have KK11 : Hid (Kept0 w9 w11) := ((Kept.refl _ w9).drew).trans k11; have u0 := kcell KK11.out g0; have u1 := kcell KK11.out g1; clear k11))
    all_goals
      go_wp2_with fail
      go_meet
      exact ⟨rfl, KK11⟩
  case rest =>
  obtain ⟨rfl, KW⟩ := hcut
  have HDV := Lib.hid (HD10.out.keep KW.out)
  have hv0 := kcell KW.out g0
  have hv1 := kcell KW.out g1
  have HZV := Lib.hid (And.intro (kcell KW.out Z2.out) (kcell KW.out Z3.out))
  clear HD10 KW g0 g1 Z2 Z3 HSZ
  have HX1 : Hid (∀ w', Duo (fun i => (False ∨ i = w4.heap.size) ∨ i = w7.heap.size) V w' s (resZ y R' C') c (moveZ y y.r y.c) → ∀ i j : Nat, i < R' → j < C' → Calls Tryz.prog 22 #[ptr s, pos i j] w' fun e w'' => e = .returned (.tuple #[(if i < y.R ∧ j < y.C then y.F (i * y.C + j) else blk).v, .int .i64 0]) ∧ Kept0 w' w'') := fun w' h i j a b => by
    have := at_inS h.one.scr.choose_spec i j a b
    rwa [show (resZ y R' C').F (i * (resZ y R' C').C + j) = if i < y.R ∧ j < y.C then y.F (i * y.C + j) else blk from resF_at y.F blk b] at this
  have HY1 : Hid (∀ w', Duo (fun i => (False ∨ i = w4.heap.size) ∨ i = w7.heap.size) V w' s (resZ y R' C') c (moveZ y y.r y.c) → ∀ i j : Nat, i < y.R → j < y.C → Calls Tryz.prog 22 #[ptr c, pos i j] w' fun e' w'' => e' = .returned (.tuple #[(y.F (i * y.C + j)).v, .int .i64 0]) ∧ Kept0 w' w'') := fun w' h e j a b =>
    at_inS h.swap.one.scr.choose_spec e j a b
  have HY2 : Hid (∀ w', Duo (fun i => (False ∨ i = w4.heap.size) ∨ i = w7.heap.size) V w' s (resZ y R' C') c (moveZ y y.r y.c) → ∀ i j : Nat, ¬ (i < y.R ∧ j < y.C) → Calls Tryz.prog 22 #[ptr c, pos i j] w' fun e' w'' => e' = .returned (.tuple #[zc.v, .int .i64 11]) ∧ Kept0 w' w'') := fun w' h i j a => by
    have := at_scr (i : Int) (j : Int) h.swap.one.scr.choose_spec
    have e1 : atX y.R y.C y.F (i : Int) (j : Int) = zc := if_neg (by omega)
    have e2 : atE y.R y.C (i : Int) (j : Int) = 11 := if_neg (by omega)
    rwa [show atX (moveZ y y.r y.c).R (moveZ y y.r y.c).C (moveZ y y.r y.c).F (i : Int) (j : Int) = zc from e1, show atE (moveZ y y.r y.c).R (moveZ y y.r y.c).C (i : Int) (j : Int) = 11 from e2] at this
  have hbl : ∀ wr, Kept0 wc wr → wr.cell? ⟨0, 0, none⟩ = some (.int .i32 32) ∧ wr.cell? ⟨0, 1, none⟩ = some (.int .i64 0) ∧ wr.cell? ⟨0, 2, none⟩ = some (.bool false) ∧ wr.cell? ⟨0, 3, none⟩ = some (.int .i64 0) := fun wr k => by
    obtain ⟨t, ht⟩ := HB.out.kept0 (HDV.out.old.trans k)
    refine ⟨?_, ?_, ?_, ?_⟩ <;> simp [World.cell?, ht]
  have HBL := Lib.hid hbl
  clear hbl
  go_wp2_with fail
  go_loopw [12] (fun s12 wr => ∃ i : Nat, i ≤ R' ∧ s12 = .int .i64 (i : Int) ∧ Kept0 wc wr) (fun s12 _ => R' - (intOf s12).toNat)
  case atStart => exact ⟨0, by omega, rfl, Kept.refl _ _⟩
  case round =>
    obtain ⟨i, hi, rfl, ki⟩ := hrel
    have g0 := kcell ki hv0
    by_cases hlt2 : i < R'
    · have hdt2 : decide ((i : Int) < (R' : Int)) = true := by simp; omega
      go_wp2_with fail
      go_loopw [13] (fun s13 wr => ∃ j : Nat, j ≤ C' ∧ s13 = .int .i64 (j : Int) ∧ Kept0 wc wr) (fun s13 _ => C' - (intOf s13).toNat)
      case atStart => exact ⟨0, by omega, rfl, ki⟩
      case round =>
        clear g0 ki
        obtain ⟨j, hj, rfl, kj⟩ := hrel
        have g1 := kcell kj hv1
        by_cases hlt3 : j < C'
        · have hdt3 : decide ((j : Int) < (C' : Int)) = true := by simp; omega
          have HC1 := HX1.out wr (HDV.out.keep kj) i j hlt2 hlt3
          by_cases hin : i < y.R ∧ j < y.C
          · rw [if_pos hin] at HC1
            have HC2 : Hid (∀ w', Kept0 wr w' → _) := fun w' k => HY1.out w' ((HDV.out.keep kj).keep k) i j hin.1 hin.2
            obtain ⟨u, hu⟩ : ∃ u, u = y.F (i * y.C + j) := ⟨_, rfl⟩
            rw [← hu] at HC1 HC2
            clear hu hin
            go_wp2_with fail
            refine HC1.mono ?_
            rintro e w10 ⟨rfl, k10⟩
            obtain ⟨V6, hV6⟩ : ∃ V6, V6 = w10.alloc (.cells #[.int .i32 u.g, .int .i64 u.a, .bool u.b, .int .i64 u.m] 36) := ⟨_, rfl⟩
            have kV6 : Kept0 w10 V6 := by rw [hV6]; exact (Kept.refl _ _).alloc _
            have hc : CelAt V6 w10.heap.size u := by rw [hV6]; exact CelAt.new w10 u 36
            replace k10 := k10.trans kV6
            clear kV6 HC1 g1
            go_wp2_with fail
            rw [← hV6]
            clear hV6
            refine (HC2.out V6 k10).mono ?_
            rintro e w11 ⟨rfl, k11⟩
            obtain ⟨c0, c1, c2, c3⟩ := hc.kept k11 (fun e => e)
            replace k11 := k10.trans k11
            clear hc k10 HC2
            have l1 := World.block_lt_of_cell? _ _ c0
            have kE : Kept0 wc (w11.alloc (.cells #[.int .i32 u.g, .int .i64 u.a, .bool u.b, .int .i64 u.m] 36)) := (kj.trans k11).alloc _
            have q1 : ∀ w, (Op.equalIn 10000 36 u.v u.v).run Tryz.prog w = .ok true w := fun w => eqv_cel u w
            go_wp2_with fail
            go_roundw
            case rel => exact ⟨j + 1, by omega, by go_num, kE⟩
            case measure => simp [intOf]; omega
          · rw [if_neg hin] at HC1
            have HC2 : Hid (∀ w', Kept0 wr w' → Calls Tryz.prog 22 #[ptr c, pos (i : Int) j] w' fun e' w'' => e' = .returned (.tuple #[zc.v, .int .i64 11]) ∧ Kept0 w' w'') := fun w' k => HY2.out w' ((HDV.out.keep kj).keep k) i j hin
            clear hin
            go_wp2_with fail
            refine HC1.mono ?_
            rintro e w10 ⟨rfl, k10⟩
            obtain ⟨V6, hV6⟩ : ∃ V6, V6 = w10.alloc (.cells #[.int .i32 blk.g, .int .i64 blk.a, .bool blk.b, .int .i64 blk.m] 36) := ⟨_, rfl⟩
            have kV6 : Kept0 w10 V6 := by rw [hV6]; exact (Kept.refl _ _).alloc _
            have hc : CelAt V6 w10.heap.size blk := by rw [hV6]; exact CelAt.new w10 blk 36
            replace k10 := k10.trans kV6
            clear kV6 HC1 g1
            go_wp2_with fail
            rw [← hV6]
            clear hV6
            refine (HC2.out V6 k10).mono ?_
            rintro e w11 ⟨rfl, k11⟩
            obtain ⟨c0, c1, c2, c3⟩ := hc.kept k11 (fun e => e)
            replace k11 := k10.trans k11
            obtain ⟨b0, b1, b3, b5⟩ := HBL.out w11 (kj.trans k11)
            clear hc k10 HC2
            have l1 := World.block_lt_of_cell? _ _ c0
            have l0 := World.block_lt_of_cell? _ _ b0
            have kE : Kept0 wc (w11.alloc (.cells #[.int .i32 zc.g, .int .i64 zc.a, .bool zc.b, .int .i64 zc.m] 36)) := (kj.trans k11).alloc _
            replace c0 : w11.cell? ⟨w10.heap.size, 0, none⟩ = some (.int .i32 32) := c0
            replace c1 : w11.cell? ⟨w10.heap.size, 1, none⟩ = some (.int .i64 0) := c1
            replace c2 : w11.cell? ⟨w10.heap.size, 2, none⟩ = some (.bool false) := c2
            replace c3 : w11.cell? ⟨w10.heap.size, 3, none⟩ = some (.int .i64 0) := c3
            have q1 : ∀ w, (Op.equalIn 10000 36 (.agg #[.int .i32 32, .int .i64 0, .bool false, .int .i64 0]) (.agg #[.int .i32 32, .int .i64 0, .bool false, .int .i64 0])).run Tryz.prog w = .ok true w := fun w => eqv_cel blk w
            go_wp2_with fail
            go_roundw
            case rel => exact ⟨j + 1, by omega, by go_num, kE⟩
            case measure => simp [intOf]; omega
        · obtain rfl : j = C' := by omega
          have hdt3 : decide ((j : Int) < (j : Int)) = false := by simp
          go_wp2_with fail
          go_roundw
          case rel => exact ⟨i + 1, by omega, by go_num, kj⟩
          case measure => simp [intOf]; omega
    · obtain rfl : i = R' := by omega
      have hdt2 : decide ((i : Int) < (i : Int)) = false := by simp
      have HD6 := Lib.hid (HDV.out.keep ki)
      have p0 := kcell ki HZV.out.1
      have p1 := kcell ki HZV.out.2
      go_wp2_with fail
      refine (duo_call HD6.out h0 (fun B hs _ => resize_scr y.R y.C hs (HB.out.kept0 HD6.out.old) ⟨by omega, by omega, by omega, by omega⟩)).mono ?_
      rintro e w10 ⟨rfl, hd10, _⟩
      have HD10 := Lib.hid hd10
      clear hd10 HD6
      obtain ⟨_, _, _, _, t1, t2, t3, t4⟩ := HB4.out
      have HES : Hid (∃ B1 B2, Scr w10 B1 s (moveZ y y.r y.c) ∧ Scr w10 B2 c (moveZ y y.r y.c)) := by
        obtain ⟨B1, B2, g1, g2, _⟩ := HD10.out
        exact ⟨B1, B2, res_back (by omega) (by omega) g1 (by omega) (by omega) ⟨t1, t2⟩ ⟨t3, t4⟩, g2⟩
      have KD := Lib.hid HD10.out.old
      clear HD10 t1 t2 t3 t4
      go_wp2_with fail
      obtain ⟨B1, B2, g1, g2⟩ := HES.out
      refine (equal_same w10 g1 g2).mono ?_
      rintro e w12 ⟨rfl, k12⟩
      have kk := KD.out.trans k12
      clear g1 g2 HES
      go_wp2_with fail
      refine (awake_any _ (HB.out.kept0 kk)).mono ?_
      rintro e w13 ⟨rfl, k13⟩
      go_wp2_with fail
      go_ret
      exact ⟨rfl, kV.trans (kk.trans k13)⟩

theorem grows_calls (a1 : Option Addr) (cap1 : Nat) (l : List Op) (p q : Int) (w : World) (hb : Blank w)
    (hl : OpsIn w a1 l) (nl : l.length ≤ 9223372036854775807) :
    Calls Tryz.prog 7 #[.slice a1 l.length cap1, pos p q] w fun e w' => e = .returned (.bool true) ∧ Below w.heap.size w w' := by
  by_cases h : 0 ≤ p ∧ p ≤ 9 ∧ 0 ≤ q ∧ q ≤ 9
  · obtain ⟨m, rfl⟩ := Int.eq_ofNat_of_zero_le h.1
    obtain ⟨n, rfl⟩ := Int.eq_ofNat_of_zero_le h.2.2.1
    exact (grows_in a1 cap1 l m n w hb hl nl (by omega) (by omega)).mono fun e w' ⟨h1, h2⟩ => ⟨h1, Kept0.below h2⟩
  · exact (grows_out a1 cap1 l p q w hb hl nl h).mono fun e w' ⟨h1, h2⟩ => ⟨h1, Kept0.below h2⟩
end Go.Proofs.YtkpfhgfdfndliaaGreatDoor
