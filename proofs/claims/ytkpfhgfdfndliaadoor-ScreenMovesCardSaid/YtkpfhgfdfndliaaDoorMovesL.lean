/-
  ScreenMoves: moves, steps and tabs turn no cell.
-/
import Derived.Test.YtkpfhgfdfndliaaDoorFewG
import Derived.Test.YtkpfhgfdfndliaaDoorAw
import Derived.Test.YtkpfhgfdfndliaaDoorAlk
import Derived.Test.YtkpfhgfdfndliaaDoorOf
namespace Go.Proofs.YtkpfhgfdfndliaaDoor
open Go.RowKit

/-- Behind calls that move the cursor. -/
def Mv (z y : St) : Prop := z.R = y.R ∧ z.C = y.C ∧ z.F = y.F ∧ (z.b = true → z.r = y.r ∧ z.c = y.c ∧ y.b = true)
theorem Mv.refl (z : St) : Mv z z := ⟨rfl, rfl, rfl, fun h => ⟨rfl, rfl, h⟩⟩
theorem Mv.does {z y : St} (h : Mv z y) (o : Op) (ho : o.ask = 1 ∨ o.ask = 2 ∨ o.ask = 4 ∨ o.ask = 5 ∨ o.ask = 6 ∨ o.ask = 11) : Mv (doF o z) y := by
  obtain ⟨h1, h2, h3, h4⟩ := h
  rcases ho with e | e | e | e | e | e
  · simp only [doF, e, if_true]; exact ⟨h1, h2, h3, fun e => by cases e⟩
  · simp [doF, e]; exact ⟨h1, h2, h3, fun e => by cases e⟩
  · simp [doF, e]
    split
    · exact ⟨h1, h2, h3, h4⟩
    · exact ⟨h1, h2, h3, fun e => by cases e⟩
  · simp [doF, e]; exact ⟨h1, h2, h3, h4⟩
  · simp [doF, e]; exact ⟨h1, h2, h3, h4⟩
  · simp [doF, e]
    refine ⟨h1, h2, h3, ?_⟩
    show frB z.R z.C z.F z.r z.c z.b o.gd = true → frR z.R z.C z.F z.r z.c o.gd = y.r ∧ frC z.R z.C z.F z.r z.c o.gd = y.c ∧ y.b = true
    unfold frB frR frC
    cases freeO z.R z.C z.F z.r z.c o.gd with
    | none => exact h4
    | some k => intro e; cases e

set_option maxRecDepth 100000 in
set_option maxHeartbeats 8000000 in
theorem moves_calls (a1 : Option Addr) (cap1 : Nat) (l : List Op) (a2 : Option Addr) (cap2 : Nat) (m : List Op) (w : World) (hb : Blank w)
    (hl : OpsIn w a1 l) (hm : OpsIn w a2 m) (nl : l.length ≤ 9223372036854775807) (nm : m.length ≤ 9223372036854775807) :
    Calls Tryd.prog 5 #[.slice a1 l.length cap1, .slice a2 m.length cap2] w fun e w' => e = .returned (.bool true) ∧ Below w.heap.size w w' := by
  have HB := Lib.hid hb
  have h0 := hb.lt
  have HO := Lib.hid hm
  have HL : Hid (∀ i, i < m.length → ∃ o, m[i]? = some o) := fun i hi => ⟨_, List.getElem?_eq_getElem hi⟩
  have HF1 := Lib.hid (few_any a1 cap1 l w hl nl)
  have HF2 : Hid (∀ w', Kept0 w w' → _) := fun w' k => few_any a2 cap2 m w' (hm.kept0 k) nm
  have HG : Hid (∀ w', Kept0 w w' → _) := fun w' k => begun_any a1 cap1 l w w' k (hb.kept0 k) (hl.kept0 k) nl
  obtain ⟨M, hM⟩ : ∃ M, M = m.length := ⟨_, rfl⟩
  obtain ⟨L, hLl⟩ : ∃ L, L = l.length := ⟨_, rfl⟩
  obtain ⟨y, hy⟩ : ∃ y, y = runZ z59 l := ⟨_, rfl⟩
  rw [← hM] at HL HF2 nm ⊢
  rw [← hLl] at HF1 HG nl ⊢
  rw [← hy] at HG
  clear hb hl hm hM hLl hy
  go_enter Tryd.func5, Tryd.ntmps5
  go_wp2_with fail
  refine HF1.out.mono ?_
  rintro e w1 ⟨⟨t1, rfl⟩, k1⟩
  cases t1
  · go_wp2_with fail
    refine (awake_any _ (HB.out.kept0 k1)).mono ?_
    rintro e w2 ⟨rfl, k2⟩
    go_wp2_with fail
    go_ret
    exact ⟨rfl, Kept0.below (k1.trans k2)⟩
  go_wp2_with fail
  refine (HF2.out w1 k1).mono ?_
  rintro e w2 ⟨⟨t2, rfl⟩, k2⟩
  replace k2 := k1.trans k2
  clear k1
  cases t2
  · go_wp2_with fail
    refine (awake_any _ (HB.out.kept0 k2)).mono ?_
    rintro e w3 ⟨rfl, k3⟩
    go_wp2_with fail
    go_ret
    exact ⟨rfl, Kept0.below (k2.trans k3)⟩
  go_wp2_with fail
  refine (HG.out w2 k2).mono ?_
  rintro e w3 ⟨s, rfl, hu⟩
  clear k2 HF1 HF2 HG
  have HU := Lib.hid hu
  clear hu
  go_wp2_with fail
  refine (uno_copy HU.out).mono ?_
  rintro e w4 ⟨c, rfl, hd, _⟩
  have HD : Hid (Duo no w w4 s y c y) := hd
  clear hd HU
  go_wp2_with fail
  go_loopw [7] (fun s7 wr => ∃ (i : Nat) (z : St), i ≤ M ∧ s7 = .int .i64 (i : Int) ∧ Hid (Duo no w wr s z c y) ∧ Hid (Mv z y)) (fun s7 _ => M - (intOf s7).toNat)
  case atStart => exact ⟨0, y, by omega, rfl, HD, Mv.refl y⟩
  case round =>
    clear HD
    obtain ⟨i, z, hi, rfl, HD, HK⟩ := hrel
    by_cases hlt : i < M
    · have hdt : decide ((i : Int) < (M : Int)) = true := by simp; omega
      obtain ⟨o, hoi⟩ := HL.out i hlt
      obtain ⟨hok, b, off, rfl, hcs⟩ := HO.out i o hoi
      have HQ := Lib.hid hok
      have kk := HD.out.old
      have o0 := kcell kk (hcs 0 _ rfl)
      have o1 := kcell kk (hcs 1 _ rfl)
      have o2 := kcell kk (hcs 2 _ rfl)
      have o3 := kcell kk (hcs 3 _ rfl)
      have o4 := kcell kk (hcs 4 _ rfl)
      have o5 := kcell kk (hcs 5 _ rfl)
      have o6 := kcell kk (hcs 6 _ rfl)
      have o7 := kcell kk (hcs 7 _ rfl)
      have o8 := kcell kk (hcs 8 _ rfl)
      have o9 := kcell kk (hcs 9 _ rfl)
      have o10 := kcell kk (hcs 10 _ rfl)
      have o11 := kcell kk (hcs 11 _ rfl)
      clear hcs kk hoi hok
      simp only [Nat.add_zero] at o0
      by_cases hm : o.ask = 1 ∨ o.ask = 2 ∨ o.ask = 4 ∨ o.ask = 5 ∨ o.ask = 6 ∨ o.ask = 11
      · have HK5 : Hid (Mv (doF o z) y) := HK.out.does o hm
        have hdo : Hid (∀ wr', Duo no w wr' s z c y → Calls Tryd.prog 9 #[ptr s, o.v] wr' fun e w' => e = .returned (.tuple #[(doX o z).v, .int .i64 (doE o z)]) ∧ Duo no w w' s (doF o z) c y ∧ Kept (Turned no w) wr' w') :=
          fun wr' hd => duo_call hd h0 (fun B hs hB0 => does_any o _ hs (HB.out.kept0 hd.old) hB0 HQ.out)
        obtain ⟨ask, p1, p2, p3, p4, nn, x, wp, gd⟩ := o
        simp only [Op.v] at hm hdo o0 o1 o2 o3 o4 o5 o6 o7 o8 o9 o10 o11
        rcases hm with rfl | rfl | rfl | rfl | rfl | rfl
        all_goals
          go_wp2_with fail
          refine (hdo.out wr HD.out).mono ?_
          rintro e w5 ⟨rfl, hd5, _⟩
          have HD5 := Lib.hid hd5
          clear hd5 HD HK hdo o0 o1 o2 o3 o4 o5 o6 o7 o8 o9 o10 o11
          go_wp2_with fail
          go_roundw
          case rel => exact ⟨i + 1, _, by omega, by go_num, HD5, HK5⟩
          case measure => simp [intOf]; omega
      · have d1 : (o.ask == 1) = false := by simp; omega
        have d2 : (o.ask == 2) = false := by simp; omega
        have d4 : (o.ask == 4) = false := by simp; omega
        have d5 : (o.ask == 5) = false := by simp; omega
        have d6 : (o.ask == 6) = false := by simp; omega
        have d11 : (o.ask == 11) = false := by simp; omega
        clear hm
        go_wp2_with fail
        go_roundw
        case rel => exact ⟨i + 1, z, by omega, by go_num, HD, HK⟩
        case measure => simp [intOf]; omega
    · obtain rfl : i = M := by omega
      have hdt : decide ((i : Int) < (i : Int)) = false := by simp
      go_wp2_with fail
      refine (cur_scr HD.out.one.scr.choose_spec).mono ?_
      rintro e w5 ⟨rfl, k5⟩
      have HD5 : Hid (Duo no w w5 s z c y) := HD.out.keep k5
      clear HD k5
      go_wp2_with fail
      have HA := Lib.hid (HD5.out.aside (.cells #[.int .i64 z.r, .int .i64 z.c] 30))
      obtain ⟨W, hW⟩ : ∃ W, W = w5.alloc (.cells #[.int .i64 z.r, .int .i64 z.c] 30) := ⟨_, rfl⟩
      have p0 : W.cell? ⟨w5.heap.size, 0, none⟩ = some (.int .i64 z.r) := by rw [hW]; simp [go_sem]
      have p1 : W.cell? ⟨w5.heap.size, 1, none⟩ = some (.int .i64 z.c) := by rw [hW]; simp [go_sem]
      rw [← hW] at HA ⊢
      clear hW HD5
      obtain ⟨_, _, _, _, t1, t2, t3, t4⟩ := bounds_scr HA.out.one.scr.choose_spec
      obtain ⟨m1, m2, m3, m4⟩ := HK.out
      refine (duo_call HA.out h0 (fun B hs _ => move_scr z.r z.c hs)).mono ?_
      rintro e w6 ⟨rfl, hd6, k6⟩
      replace p0 := kcellS k6 p0 (fun e => e.2 (Or.inr rfl))
      replace p1 := kcellS k6 p1 (fun e => e.2 (Or.inr rfl))
      obtain ⟨z', hz'⟩ : ∃ z', z' = moveZ z z.r z.c := ⟨_, rfl⟩
      rw [← hz'] at hd6
      have e1 : z'.r = z.r := by rw [hz']; exact nr_in _ _ t1 t2
      have e2 : z'.c = z.c := by rw [hz']; exact nr_in _ _ t3 t4
      have e3 : z'.b = false := by rw [hz']; rfl
      have e4 : z'.R = y.R := by rw [hz']; exact m1
      have e5 : z'.C = y.C := by rw [hz']; exact m2
      have e6 : z'.F = y.F := by rw [hz']; exact m3
      have HM4 := Lib.hid m4
      clear hz' HA k6 HK m1 m2 m3 m4 t1 t2 t3 t4
      have HD6 := Lib.hid hd6
      clear hd6
      have HE := Lib.hid (And.intro e4 (And.intro e5 e6))
      clear e4 e5 e6
      go_wp2_with fail
      have hcs := cur_scr HD6.out.one.scr.choose_spec
      rw [e1, e2, e3] at hcs
      clear e1 e2 e3
      refine hcs.mono ?_
      rintro e w7 ⟨rfl, k7⟩
      obtain ⟨W2, hW2⟩ : ∃ W2, W2 = w7.alloc (.cells #[.int .i64 z.r, .int .i64 z.c] 30) := ⟨_, rfl⟩
      have k72 : Kept0 w6 W2 := by rw [hW2]; exact k7.alloc _
      have q0 : W2.cell? ⟨w7.heap.size, 0, none⟩ = some (.int .i64 z.r) := by rw [hW2]; simp [go_sem]
      have q1 : W2.cell? ⟨w7.heap.size, 1, none⟩ = some (.int .i64 z.c) := by rw [hW2]; simp [go_sem]
      replace p0 := kcell k72 p0
      replace p1 := kcell k72 p1
      have HD7 := Lib.hid (HD6.out.keep k72)
      clear HD6 k72 k7 hcs
      go_wp2_with fail
      rw [← hW2]
      clear hW2
      refine (cur_scr HD7.out.swap.one.scr.choose_spec).mono ?_
      rintro e w8 ⟨rfl, k8⟩
      replace p0 := kcell k8 p0
      replace p1 := kcell k8 p1
      replace q0 := kcell k8 q0
      replace q1 := kcell k8 q1
      have HD8 := Lib.hid (HD7.out.keep k8)
      clear HD7 k8
      have l1 := World.block_lt_of_cell? _ _ p0
      have l2 := World.block_lt_of_cell? _ _ q0
      have kE : Kept0 w8 (w8.alloc (.cells #[.int .i64 y.r, .int .i64 y.c] 30)) := (Kept.refl _ _).alloc _
      have HD9 := Lib.hid (HD8.out.keep kE)
      have HM := HM4.out
      have hr1 := rows_scr HD9.out.one.scr.choose_spec
      obtain ⟨e4, e5, e6⟩ := HE.out
      rw [e4, e5, e6] at hr1
      clear e4 e5 e6
      obtain ⟨v1, v2, v3, v4, _⟩ := bounds_scr HD9.out.swap.one.scr.choose_spec
      cases hzb : z.b
      · go_wp2_with fail
        refine hr1.mono ?_
        rintro e w9 ⟨l1, rfl, _, r1, k9⟩
        go_wp2_with fail
        refine (ofR_any l1 _ y.R y.C y.R y.F w9 r1 (by obtain ⟨_, _, hc, _⟩ := r1.len 0 (by omega); exact World.block_lt_of_cell? _ _ hc) ⟨by omega, by omega, by omega, by omega⟩).mono ?_
        rintro e w10 ⟨g1, u1, c1, rfl, _, _, ra1, k10⟩
        go_wp2_with fail
        refine (rows_scr (HD9.out.keep (k9.trans k10)).swap.one.scr.choose_spec).mono ?_
        rintro e w11 ⟨l2, rfl, _, r2, k11⟩
        go_wp2_with fail
        refine (ofR_any l2 _ y.R y.C y.R y.F w11 r2 (by obtain ⟨_, _, hc, _⟩ := r2.len 0 (by omega); exact World.block_lt_of_cell? _ _ hc) ⟨by omega, by omega, by omega, by omega⟩).mono ?_
        rintro e w12 ⟨g2, u2, c2, rfl, _, _, ra2, k12⟩
        go_wp2_with fail
        refine (alike_same g1 u1 c1 g2 u2 c2 y.R y.C y.F w12 (ra1.kept (k11.trans k12) (fun e => e) (fun e => e)) ra2).mono ?_
        rintro e w13 ⟨rfl, k13⟩
        have kk := (HD9.out.old.trans (k9.trans k10)).trans ((k11.trans k12).trans k13)
        go_wp2_with fail
        refine (awake_any _ (HB.out.kept0 kk)).mono ?_
        rintro e w14 ⟨rfl, k14⟩
        go_wp2_with fail
        go_ret
        exact ⟨rfl, Kept0.below (kk.trans k14)⟩
      · rw [hzb] at HM
        obtain ⟨n1, n2, n3⟩ := HM rfl
        rw [n3]
        go_wp2_with fail
        refine hr1.mono ?_
        rintro e w9 ⟨l1, rfl, _, r1, k9⟩
        go_wp2_with fail
        refine (ofR_any l1 _ y.R y.C y.R y.F w9 r1 (by obtain ⟨_, _, hc, _⟩ := r1.len 0 (by omega); exact World.block_lt_of_cell? _ _ hc) ⟨by omega, by omega, by omega, by omega⟩).mono ?_
        rintro e w10 ⟨g1, u1, c1, rfl, _, _, ra1, k10⟩
        go_wp2_with fail
        refine (rows_scr (HD9.out.keep (k9.trans k10)).swap.one.scr.choose_spec).mono ?_
        rintro e w11 ⟨l2, rfl, _, r2, k11⟩
        go_wp2_with fail
        refine (ofR_any l2 _ y.R y.C y.R y.F w11 r2 (by obtain ⟨_, _, hc, _⟩ := r2.len 0 (by omega); exact World.block_lt_of_cell? _ _ hc) ⟨by omega, by omega, by omega, by omega⟩).mono ?_
        rintro e w12 ⟨g2, u2, c2, rfl, _, _, ra2, k12⟩
        go_wp2_with fail
        refine (alike_same g1 u1 c1 g2 u2 c2 y.R y.C y.F w12 (ra1.kept (k11.trans k12) (fun e => e) (fun e => e)) ra2).mono ?_
        rintro e w13 ⟨rfl, k13⟩
        have kk := (HD9.out.old.trans (k9.trans k10)).trans ((k11.trans k12).trans k13)
        go_wp2_with fail
        refine (awake_any _ (HB.out.kept0 kk)).mono ?_
        rintro e w14 ⟨rfl, k14⟩
        go_wp2_with fail
        go_ret
        exact ⟨rfl, Kept0.below (kk.trans k14)⟩
end Go.Proofs.YtkpfhgfdfndliaaDoor
