/-
  The answer of the document: Chars.
-/
import Derived.Test.YtkpfhgfdfndliaaGreatDoorShRefD
namespace Go.Proofs.YtkpfhgfdfndliaaGreatDoor
namespace Sh
open Go.RowKit

set_option maxHeartbeats 4000000 in
theorem charsR_in (g t cap R C : Nat) (f : Nat → Cel) (r c : Nat) (n : Int) (x : Cel) (b : Bool) (w : World) (hg : RefAt w g t cap R C f) (hr : r < R) (hc : c < C) (hb : b = true → gd C f r c = false) :
    Calls Tryz.prog 85 #[.pointer (some ⟨g, 0, none⟩), .agg #[.int .i64 (r : Int), .int .i64 (c : Int)], .int .i64 n, x.v, .bool b] w fun e w' => e = .returned (.int .i64 0) ∧ RefAt w' g t cap R C (moveF f (r * C + c) (lastC C f r c b + 1 - c) (mns n) x) ∧ Kept (· = t) w w' := by
  have hC2 := hg.C2
  have hR2 := hg.R2
  have hgl := hg.lt
  have htl := hg.row.lt
  have hla : c ≤ lastC C f r c b ∧ lastC C f r c b < C := by
    unfold lastC
    split
    · have := hi_le (gd C f r) (C - 1 - c) c
      omega
    · omega
  obtain ⟨La, hLa⟩ : ∃ La, La = lastC C f r c b := ⟨_, rfl⟩
  rw [← hLa] at hla ⊢
  obtain ⟨hla1, hla2⟩ := hla
  obtain ⟨mn, hmn⟩ : ∃ mn, mn = mns n := ⟨_, rfl⟩
  have hm1 : -1000 ≤ mn ∧ mn ≤ 1000 := by
    rw [hmn]
    unfold mns
    split
    · omega
    · split <;> omega
  obtain ⟨hm1, hm2⟩ := hm1
  rw [← hmn]
  obtain ⟨F, hF⟩ : ∃ F, F = moveF f (r * C + c) (La + 1 - c) mn x := ⟨_, rfl⟩
  rw [← hF]
  obtain ⟨o, ho⟩ : ∃ o, o = r * C + c := ⟨_, rfl⟩
  rw [← ho] at hF
  have HO := Lib.hid ho
  have HF := Lib.hid hF
  obtain ⟨N, hN⟩ : ∃ N, N = R * C := ⟨_, rfl⟩
  have hN2 : N ≤ 65025 := by rw [hN]; exact Nat.mul_le_mul hR2 hC2
  have HN := Lib.hid hN
  clear hF ho hN
  have minusR : ∀ (w : World), Calls Tryz.prog 121 #[.int .i64 n] w fun e w' => e = .returned (.int .i64 mn) ∧ w = w' := fun w => by rw [hmn]; exact minusR n w
  have HMN := Lib.hid minusR
  clear minusR hmn
  have HBT := Lib.hid (thereB_yes (R := R) (C := C) (r := (r : Int)) (c := (c : Int)) ⟨by omega, by omega, by omega, by omega⟩)
  have hT : Hid (There R C (r : Int) (c : Int)) := ⟨by omega, by omega, by omega, by omega⟩
  have hp0 : ∀ o, ((w.alloc (.cells #[.int .i64 (r : Int), .int .i64 (c : Int)] 40)).alloc o).cell? ⟨w.heap.size, 0, none⟩ = some (.int .i64 (r : Int)) := fun o => by simp [go_sem]
  have hp1 : ∀ o, ((w.alloc (.cells #[.int .i64 (r : Int), .int .i64 (c : Int)] 40)).alloc o).cell? ⟨w.heap.size, 1, none⟩ = some (.int .i64 (c : Int)) := fun o => by simp [go_sem]
  have hx := CelAt.new (w.alloc (.cells #[.int .i64 (r : Int), .int .i64 (c : Int)] 40)) x 36
  rw [World.size_alloc] at hx
  have HG := Lib.hid hg
  have HB := Lib.hid hb
  have HLA := Lib.hid hLa
  clear hb hLa
  go_enter Tryz.func85, Tryz.ntmps85
  go_wp2_with fail
  obtain ⟨V, hV⟩ : ∃ V, V = (w.alloc (.cells #[.int .i64 (r : Int), .int .i64 (c : Int)] 40)).alloc (.cells #[.int .i32 x.g, .int .i64 x.a, .bool x.b, .int .i64 x.m] 36) := ⟨_, rfl⟩
  have k0 : Kept0 w V := by rw [hV]; exact ((Kept.refl _ w).alloc _).alloc _
  replace hp0 : V.cell? ⟨w.heap.size, 0, none⟩ = some (.int .i64 (r : Int)) := by rw [hV]; exact hp0 _
  replace hp1 : V.cell? ⟨w.heap.size, 1, none⟩ = some (.int .i64 (c : Int)) := by rw [hV]; exact hp1 _
  rw [← hV] at hx ⊢
  clear hV
  refine (thereR g R C _ _ _ (kcell k0 hg.c0) (kcell k0 hg.c1)).mono ?_
  rw [HBT.out]
  rintro e V1 ⟨rfl, hk1⟩
  replace hp0 := kcell hk1 hp0
  replace hp1 := kcell hk1 hp1
  replace hx := hx.kept hk1 (fun e => e)
  replace k0 := k0.trans hk1
  clear hk1
  have c1 := kcell k0 hg.c1
  clear hg
  cases b
  · have hL2 : (C : Int) - 1 = (La : Int) := by have := HLA.out; unfold lastC at this; simp at this; omega
    have hwC : wrap64 ((C : Int) - 1) = (La : Int) := by rw [hL2]; exact w64 (by omega) (by omega)
    clear HLA HB
    have hsV := k0.size
    have hG2 : Hid (RefAt V1 g t cap R C f) := HG.out.kept k0 (fun e => e) (fun e => e)
    have hk2 := Lib.hid k0
    clear HG
    go_wp2_with fail
    try rw [hL2]
    clear hL2 hwC c1
    refine (copyR g t cap R C f _ hG2.out).mono ?_
    rintro e w1 ⟨g1, t1, cap1, rfl, hg1, ht1, hR1, hk1⟩
    have hG1 := hG2.out.kept hk1 (fun e => e) (fun e => e)
    have kk1 := hk2.out.trans hk1
    replace hx := hx.kept hk1 (fun e => e)
    replace hp0 := kcell hk1 hp0
    replace hp1 := kcell hk1 hp1
    clear hk1
    go_wp2_with fail
    refine (HMN.out _).mono ?_
    rintro e w5 ⟨rfl, rfl⟩
    go_wp2_with fail
    go_loopw [14, 15] (fun i s15 wr => ∃ d : Nat, c + d ≤ La + 1 ∧ i = .int .i64 ((c : Int) + d) ∧ RefAt wr g t cap R C (partF f F o d) ∧ RefAt wr g1 t1 cap1 R C f ∧ CelAt wr (w.heap.size + 1) x ∧ wr.cell? ⟨w.heap.size, 0, none⟩ = some (.int .i64 (r : Int)) ∧ wr.cell? ⟨w.heap.size, 1, none⟩ = some (.int .i64 (c : Int)) ∧ Kept (· = t) w wr) (fun i _ _ => ((La : Int) + 1 - intOf i).toNat)
    case atStart => exact ⟨0, by omega, by simp, hG1.congr (fun k _ => by simp [partF]; omega), hR1, hx, hp0, hp1, Kept0.to kk1⟩
    case round =>
      obtain ⟨d, hd1, rfl, hq, holdq, hxq, hpq0, hpq1, hkq⟩ := hrel
      by_cases hlt : c + d ≤ La
      · have hdt : decide ((c : Int) + (d : Int) ≤ (La : Int)) = true := by simp; omega
        have HI : Hid (idx C (r : Int) ((c : Int) + d) = o + d) := by
          show idx C (r : Int) ((c : Int) + d) = o + d
          rw [HO.out]
          simp only [idx]
          rw [show ((c : Int) + (d : Int)).toNat = c + d by omega, Int.toNat_natCast]
          omega
        have HW : Hid (IntKind.i64.wrap (IntKind.i64.wrap ((r : Int) * (C : Int)) + ((c : Int) + d)) = (idx C (r : Int) ((c : Int) + d) : Int)) := wrap_idx (R := R) ⟨by omega, by omega, by omega, by omega⟩ hR2 hC2
        obtain ⟨z0, z1, z2, z3⟩ := hxq
        have hsq := hkq.size
        have hgq : g < wr.heap.size := hq.lt
        have hn1 : Hid (¬ g1 = t) := (by omega : ¬ g1 = t)
        have hn2 : Hid (¬ t1 = t) := (by omega : ¬ t1 = t)
        have hn3 : Hid (¬ w.heap.size = t) := (by omega : ¬ w.heap.size = t)
        have hn4 : Hid (¬ w.heap.size + 1 = t) := (by omega : ¬ w.heap.size + 1 = t)
        have hbl : w.heap.size + 1 < wr.heap.size := World.block_lt_of_cell? wr _ z0
        have hbl0 : w.heap.size < wr.heap.size := by omega
        by_cases h5 : mn ≤ (La : Int) - ((c : Int) + d) ∧ (c : Int) - ((c : Int) + d) ≤ mn
        · have HV : Hid (F (o + d) = f (idx C (r : Int) ((c : Int) + d + mn))) := by
            show F (o + d) = f (idx C (r : Int) ((c : Int) + d + mn))
            rw [HF.out]
            unfold moveF
            rw [if_pos (by omega), if_pos (by omega), HO.out]
            congr 1
            simp only [idx, Int.toNat_natCast]
            omega
          obtain ⟨h6, h7⟩ := h5
          have hTh : Hid (There R C (r : Int) ((c : Int) + d + mn)) := ⟨by omega, by omega, by omega, by omega⟩
          have hAl := (Kept.refl (fun _ => False) wr).alloc (.cells #[.int .i32 x.g, .int .i64 x.a, .bool x.b, .int .i64 x.m] 36)
          have hnew := CelAt.new wr x 36
          go_wp2_with fail
          refine (getR g1 t1 cap1 R C f _ _ _ (holdq.kept hAl (fun e => e) (fun e => e)) hTh.out).mono ?_
          rw [← HV.out]
          rintro e9 w3 ⟨rfl, hk3⟩
          have ka : Kept0 wr w3 := hAl.trans hk3
          have q3 := hnew.kept hk3 (fun e => e)
          have hs3 : wr.heap.size < w3.heap.size := World.block_lt_of_cell? w3 _ q3.c0
          have hfr : ∀ o, o < 4 → w3.frozen? ⟨wr.heap.size, o, none⟩ = false := fun o _ => (hk3.frozen (by simp) (fun e => e)).trans (by simp [go_sem])
          have fr0 := hfr 0 (by omega)
          have fr1 := hfr 1 (by omega)
          have fr2 := hfr 2 (by omega)
          have fr3 := hfr 3 (by omega)
          obtain ⟨q30, q31, q32, q33⟩ := q3
          clear hfr hk3 hAl hnew
          go_wp2_with fail
          obtain ⟨y, hyd⟩ : ∃ y, y = F (o + d) := ⟨_, rfl⟩
          obtain ⟨b5, hb5⟩ : ∃ b5, b5 = wr.heap.size := ⟨_, rfl⟩
          obtain ⟨w5, hw5⟩ : ∃ w5, w5 = ((((w3.setCell ⟨wr.heap.size, 0, none⟩ (.int .i32 (F (o + d)).g)).setCell ⟨wr.heap.size, 1, none⟩ (.int .i64 (F (o + d)).a)).setCell ⟨wr.heap.size, 2, none⟩ (.bool (F (o + d)).b)).setCell ⟨wr.heap.size, 3, none⟩ (.int .i64 (F (o + d)).m)) := ⟨_, rfl⟩
          have k5 : Kept0 wr w5 := by rw [hw5]; exact ka.setCel wr.heap.size 0 (Or.inl (Nat.le_refl _)) (F (o + d))
          have hy5 : Hid (CelAt w5 b5 y) := by
            rw [hw5, hb5, hyd]
            exact ⟨by simp [go_sem, q30], by simp [go_sem, q31], by simp [go_sem, q32], by simp [go_sem, q33]⟩
          rw [← hw5, ← hb5]
          have hlt5 : ¬ b5 = t ∧ ¬ t = b5 ∧ ¬ b5 = g ∧ ¬ g = b5 := by omega
          have HV := Lib.hid hyd.symm
          have hq5 : Hid (RefAt w5 g t cap R C (partF f F o d)) := hq.kept k5 (fun e => e) (fun e => e)
          have ho5 : Hid (RefAt w5 g1 t1 cap1 R C f) := holdq.kept k5 (fun e => e) (fun e => e)
          have hx5 : Hid (CelAt w5 (w.heap.size + 1) x) := CelAt.kept ⟨z0, z1, z2, z3⟩ k5 (fun e => e)
          have hp50 := Lib.hid (kcell k5 hpq0)
          have hp51 := Lib.hid (kcell k5 hpq1)
          have hk5 : Hid (Kept (· = t) w w5) := hkq.later k5 (fun _ _ e => e.elim)
          obtain ⟨n1, n2, n3, n4⟩ := hlt5
          clear hw5 hb5 hyd k5 hq holdq hkq z0 z1 z2 z3 fr0 fr1 fr2 fr3 q30 q31 q32 q33 hpq0 hpq1
          have hd5 : RefAt w5 g t cap R C (partF f F o d) := hq5.out
          have c1 := hd5.c1
          have c2 := hd5.c2
          have hl5 : idx C (r : Int) ((c : Int) + d) < N := by rw [HN.out]; exact idx_lt (R := R) (C := C) ⟨by omega, by omega, by omega, by omega⟩
          rw [← HN.out] at c2
          obtain ⟨e0, e1, e2, e3⟩ := hd5.row.cell (k := idx C (r : Int) ((c : Int) + d)) (by rw [← HN.out]; exact hl5)
          have f0 := hd5.row.frozen (idx C (r : Int) ((c : Int) + d) * 4)
          have f1 := hd5.row.frozen (idx C (r : Int) ((c : Int) + d) * 4 + 1)
          have f2 := hd5.row.frozen (idx C (r : Int) ((c : Int) + d) * 4 + 2)
          have f3 := hd5.row.frozen (idx C (r : Int) ((c : Int) + d) * 4 + 3)
          obtain ⟨y0, y1, y2, y3⟩ := hy5.out
          have p50 := hp50.out
          have hw1 := HW.out
          have hz1 := hn3.out
          have hz2 : ¬ t = w.heap.size := fun e => hn3.out e.symm
          have hne1 : ¬ g = t := hd5.ne
          have hne2 : ¬ t = g := fun e => hd5.ne e.symm
          clear hd5
          go_region_held3 (fun w' => w'.cell? ⟨g, 1, none⟩ = some (.int .i64 C) ∧ w'.cell? ⟨g, 2, none⟩ = some (Value.slice (some ⟨t, 0, none⟩) N cap) ∧ w'.cell? ⟨w.heap.size, 0, none⟩ = some (.int .i64 (r : Int)) ∧ w'.cell? ⟨b5, 0, none⟩ = some (.int .i32 y.g) ∧ w'.cell? ⟨b5, 1, none⟩ = some (.int .i64 y.a) ∧ w'.cell? ⟨b5, 2, none⟩ = some (.bool y.b) ∧ w'.cell? ⟨b5, 3, none⟩ = some (.int .i64 y.m)) (go_keep) (first | fail)
          have kt5 : Kept (· = t) w5 _ := ((Kept.refl (· = t) w5).drew).setCel t (idx C (r : Int) ((c : Int) + d) * 4) (Or.inr rfl) y
          have hr4 : RefAt _ g t cap R C _ := hq5.out.withRow kt5 (hq5.out.row.set (idx C (r : Int) ((c : Int) + d)) y)
          have hfin : RefAt _ g t cap R C (partF f F o (d + 1)) := hr4.congr (fun j _ => by
            rw [HI.out, ← HV.out]
            exact partF_step f F o d j)
          have hold4 := ho5.out.kept kt5 hn1.out hn2.out
          have hx4 := hx5.out.kept kt5 hn4.out
          have hp04 := kcellS kt5 hp50.out hn3.out
          have hp14 := kcellS kt5 hp51.out hn3.out
          have kk4 := hk5.out.trans kt5
          clear kt5 hr4
          go_wp2_with fail
          go_roundw
          case rel => exact ⟨d + 1, by omega, by first | rfl | go_num, hfin, hold4, hx4, hp04, hp14, kk4⟩
          case measure => simp [intOf]; omega
        · have HV : Hid (F (o + d) = x) := by
            show F (o + d) = x
            rw [HF.out]
            unfold moveF
            rw [if_pos (by omega), if_neg (by omega)]
          have hAl := (Kept.refl (fun _ => False) wr).alloc (.cells #[.int .i32 x.g, .int .i64 x.a, .bool x.b, .int .i64 x.m] 36)
          have hnew := CelAt.new wr x 36
          have hor : ¬ mn ≤ (La : Int) - ((c : Int) + d) ∨ ¬ (c : Int) - ((c : Int) + d) ≤ mn := by omega
          rcases hor with h6 | h6
          all_goals
            clear h5
            try (have h7 : mn ≤ (La : Int) - ((c : Int) + d) := by omega)
            go_wp2_with fail
            obtain ⟨y, hyd⟩ : ∃ y, y = x := ⟨_, rfl⟩
            obtain ⟨b5, hb5⟩ : ∃ b5, b5 = wr.heap.size := ⟨_, rfl⟩
            obtain ⟨w5, hw5⟩ : ∃ w5, w5 = wr.alloc (.cells #[.int .i32 x.g, .int .i64 x.a, .bool x.b, .int .i64 x.m] 36) := ⟨_, rfl⟩
            have k5 : Kept0 wr w5 := by rw [hw5]; exact hAl
            have hy5 : Hid (CelAt w5 b5 y) := by rw [hw5, hb5, hyd]; exact hnew
            rw [← hw5, ← hb5]
            have hlt5 : ¬ b5 = t ∧ ¬ t = b5 ∧ ¬ b5 = g ∧ ¬ g = b5 := by omega
            have HV : Hid (F (o + d) = y) := by rw [hyd]; exact HV.out
            have hq5 : Hid (RefAt w5 g t cap R C (partF f F o d)) := hq.kept k5 (fun e => e) (fun e => e)
            have ho5 : Hid (RefAt w5 g1 t1 cap1 R C f) := holdq.kept k5 (fun e => e) (fun e => e)
            have hx5 : Hid (CelAt w5 (w.heap.size + 1) x) := CelAt.kept ⟨z0, z1, z2, z3⟩ k5 (fun e => e)
            have hp50 := Lib.hid (kcell k5 hpq0)
            have hp51 := Lib.hid (kcell k5 hpq1)
            have hk5 : Hid (Kept (· = t) w w5) := hkq.later k5 (fun _ _ e => e.elim)
            obtain ⟨n1, n2, n3, n4⟩ := hlt5
            clear hw5 hb5 hyd k5 hq holdq hkq z0 z1 z2 z3 hAl hnew hpq0 hpq1
            have hd5 : RefAt w5 g t cap R C (partF f F o d) := hq5.out
            have c1 := hd5.c1
            have c2 := hd5.c2
            have hl5 : idx C (r : Int) ((c : Int) + d) < N := by rw [HN.out]; exact idx_lt (R := R) (C := C) ⟨by omega, by omega, by omega, by omega⟩
            rw [← HN.out] at c2
            obtain ⟨e0, e1, e2, e3⟩ := hd5.row.cell (k := idx C (r : Int) ((c : Int) + d)) (by rw [← HN.out]; exact hl5)
            have f0 := hd5.row.frozen (idx C (r : Int) ((c : Int) + d) * 4)
            have f1 := hd5.row.frozen (idx C (r : Int) ((c : Int) + d) * 4 + 1)
            have f2 := hd5.row.frozen (idx C (r : Int) ((c : Int) + d) * 4 + 2)
            have f3 := hd5.row.frozen (idx C (r : Int) ((c : Int) + d) * 4 + 3)
            obtain ⟨y0, y1, y2, y3⟩ := hy5.out
            have p50 := hp50.out
            have hw1 := HW.out
            have hz1 := hn3.out
            have hz2 : ¬ t = w.heap.size := fun e => hn3.out e.symm
            have hne1 : ¬ g = t := hd5.ne
            have hne2 : ¬ t = g := fun e => hd5.ne e.symm
            clear hd5
            go_region_held3 (fun w' => w'.cell? ⟨g, 1, none⟩ = some (.int .i64 C) ∧ w'.cell? ⟨g, 2, none⟩ = some (Value.slice (some ⟨t, 0, none⟩) N cap) ∧ w'.cell? ⟨w.heap.size, 0, none⟩ = some (.int .i64 (r : Int)) ∧ w'.cell? ⟨b5, 0, none⟩ = some (.int .i32 y.g) ∧ w'.cell? ⟨b5, 1, none⟩ = some (.int .i64 y.a) ∧ w'.cell? ⟨b5, 2, none⟩ = some (.bool y.b) ∧ w'.cell? ⟨b5, 3, none⟩ = some (.int .i64 y.m)) (go_keep) (first | fail)
            have kt5 : Kept (· = t) w5 _ := ((Kept.refl (· = t) w5).drew).setCel t (idx C (r : Int) ((c : Int) + d) * 4) (Or.inr rfl) y
            have hr4 : RefAt _ g t cap R C _ := hq5.out.withRow kt5 (hq5.out.row.set (idx C (r : Int) ((c : Int) + d)) y)
            have hfin : RefAt _ g t cap R C (partF f F o (d + 1)) := hr4.congr (fun j _ => by
              rw [HI.out, ← HV.out]
              exact partF_step f F o d j)
            have hold4 := ho5.out.kept kt5 hn1.out hn2.out
            have hx4 := hx5.out.kept kt5 hn4.out
            have hp04 := kcellS kt5 hp50.out hn3.out
            have hp14 := kcellS kt5 hp51.out hn3.out
            have kk4 := hk5.out.trans kt5
            clear kt5 hr4
            go_wp2_with fail
            go_roundw
            case rel => exact ⟨d + 1, by omega, by first | rfl | go_num, hfin, hold4, hx4, hp04, hp14, kk4⟩
            case measure => simp [intOf]; omega
      · have hdf : decide ((c : Int) + (d : Int) ≤ (La : Int)) = false := by simp; omega
        go_wp2_with fail
        go_ret
        refine ⟨rfl, hq.congr (fun j _ => ?_), hkq⟩
        unfold partF
        by_cases e : o ≤ j ∧ j < o + d
        · rw [if_pos e]
        · rw [if_neg e, HF.out]
          unfold moveF
          rw [if_neg (by omega)]
  · have hfb := field_b (f (idx C (r : Int) (c : Int)))
    rw [gd_idx C f r c, HB.out rfl] at hfb
    have hL2 : hi (gd C f r) (C - 1 - c) c = La := by have := HLA.out; unfold lastC at this; rw [if_pos rfl] at this; exact this.symm
    have HL2 := Lib.hid hL2
    clear HB HLA hL2
    go_wp2_with fail
    refine (getR g t cap R C f _ _ _ (HG.out.kept k0 (fun e => e) (fun e => e)) hT.out).mono ?_
    rintro e V2 ⟨rfl, hk1⟩
    replace hp0 := kcell hk1 hp0
    replace hp1 := kcell hk1 hp1
    replace hx := hx.kept hk1 (fun e => e)
    replace k0 := k0.trans hk1
    clear hk1
    go_wp2_with fail
    refine (fieldR g t cap R C f r c _ (HG.out.kept k0 (fun e => e) (fun e => e)) hr hc).mono ?_
    rw [HL2.out]
    rintro e V3 ⟨rfl, hk1⟩
    replace hp0 := kcell hk1 hp0
    replace hp1 := kcell hk1 hp1
    replace hx := hx.kept hk1 (fun e => e)
    replace k0 := k0.trans hk1
    clear hk1 c1 hfb
    have hG2 : Hid (RefAt V3 g t cap R C f) := HG.out.kept k0 (fun e => e) (fun e => e)
    have hk2 := Lib.hid k0
    have hsV := k0.size
    clear HG
    go_wp2_with fail
    refine (copyR g t cap R C f _ hG2.out).mono ?_
    rintro e w1 ⟨g1, t1, cap1, rfl, hg1, ht1, hR1, hk1⟩
    have hG1 := hG2.out.kept hk1 (fun e => e) (fun e => e)
    have kk1 := hk2.out.trans hk1
    replace hx := hx.kept hk1 (fun e => e)
    replace hp0 := kcell hk1 hp0
    replace hp1 := kcell hk1 hp1
    clear hk1
    go_wp2_with fail
    refine (HMN.out _).mono ?_
    rintro e w5 ⟨rfl, rfl⟩
    go_wp2_with fail
    go_loopw [14, 15] (fun i s15 wr => ∃ d : Nat, c + d ≤ La + 1 ∧ i = .int .i64 ((c : Int) + d) ∧ RefAt wr g t cap R C (partF f F o d) ∧ RefAt wr g1 t1 cap1 R C f ∧ CelAt wr (w.heap.size + 1) x ∧ wr.cell? ⟨w.heap.size, 0, none⟩ = some (.int .i64 (r : Int)) ∧ wr.cell? ⟨w.heap.size, 1, none⟩ = some (.int .i64 (c : Int)) ∧ Kept (· = t) w wr) (fun i _ _ => ((La : Int) + 1 - intOf i).toNat)
    case atStart => exact ⟨0, by omega, by simp, hG1.congr (fun k _ => by simp [partF]; omega), hR1, hx, hp0, hp1, Kept0.to kk1⟩
    case round =>
      obtain ⟨d, hd1, rfl, hq, holdq, hxq, hpq0, hpq1, hkq⟩ := hrel
      by_cases hlt : c + d ≤ La
      · have hdt : decide ((c : Int) + (d : Int) ≤ (La : Int)) = true := by simp; omega
        have HI : Hid (idx C (r : Int) ((c : Int) + d) = o + d) := by
          show idx C (r : Int) ((c : Int) + d) = o + d
          rw [HO.out]
          simp only [idx]
          rw [show ((c : Int) + (d : Int)).toNat = c + d by omega, Int.toNat_natCast]
          omega
        have HW : Hid (IntKind.i64.wrap (IntKind.i64.wrap ((r : Int) * (C : Int)) + ((c : Int) + d)) = (idx C (r : Int) ((c : Int) + d) : Int)) := wrap_idx (R := R) ⟨by omega, by omega, by omega, by omega⟩ hR2 hC2
        obtain ⟨z0, z1, z2, z3⟩ := hxq
        have hsq := hkq.size
        have hgq : g < wr.heap.size := hq.lt
        have hn1 : Hid (¬ g1 = t) := (by omega : ¬ g1 = t)
        have hn2 : Hid (¬ t1 = t) := (by omega : ¬ t1 = t)
        have hn3 : Hid (¬ w.heap.size = t) := (by omega : ¬ w.heap.size = t)
        have hn4 : Hid (¬ w.heap.size + 1 = t) := (by omega : ¬ w.heap.size + 1 = t)
        have hbl : w.heap.size + 1 < wr.heap.size := World.block_lt_of_cell? wr _ z0
        have hbl0 : w.heap.size < wr.heap.size := by omega
        by_cases h5 : mn ≤ (La : Int) - ((c : Int) + d) ∧ (c : Int) - ((c : Int) + d) ≤ mn
        · have HV : Hid (F (o + d) = f (idx C (r : Int) ((c : Int) + d + mn))) := by
            show F (o + d) = f (idx C (r : Int) ((c : Int) + d + mn))
            rw [HF.out]
            unfold moveF
            rw [if_pos (by omega), if_pos (by omega), HO.out]
            congr 1
            simp only [idx, Int.toNat_natCast]
            omega
          obtain ⟨h6, h7⟩ := h5
          have hTh : Hid (There R C (r : Int) ((c : Int) + d + mn)) := ⟨by omega, by omega, by omega, by omega⟩
          have hAl := (Kept.refl (fun _ => False) wr).alloc (.cells #[.int .i32 x.g, .int .i64 x.a, .bool x.b, .int .i64 x.m] 36)
          have hnew := CelAt.new wr x 36
          go_wp2_with fail
          refine (getR g1 t1 cap1 R C f _ _ _ (holdq.kept hAl (fun e => e) (fun e => e)) hTh.out).mono ?_
          rw [← HV.out]
          rintro e9 w3 ⟨rfl, hk3⟩
          have ka : Kept0 wr w3 := hAl.trans hk3
          have q3 := hnew.kept hk3 (fun e => e)
          have hs3 : wr.heap.size < w3.heap.size := World.block_lt_of_cell? w3 _ q3.c0
          have hfr : ∀ o, o < 4 → w3.frozen? ⟨wr.heap.size, o, none⟩ = false := fun o _ => (hk3.frozen (by simp) (fun e => e)).trans (by simp [go_sem])
          have fr0 := hfr 0 (by omega)
          have fr1 := hfr 1 (by omega)
          have fr2 := hfr 2 (by omega)
          have fr3 := hfr 3 (by omega)
          obtain ⟨q30, q31, q32, q33⟩ := q3
          clear hfr hk3 hAl hnew
          go_wp2_with fail
          obtain ⟨y, hyd⟩ : ∃ y, y = F (o + d) := ⟨_, rfl⟩
          obtain ⟨b5, hb5⟩ : ∃ b5, b5 = wr.heap.size := ⟨_, rfl⟩
          obtain ⟨w5, hw5⟩ : ∃ w5, w5 = ((((w3.setCell ⟨wr.heap.size, 0, none⟩ (.int .i32 (F (o + d)).g)).setCell ⟨wr.heap.size, 1, none⟩ (.int .i64 (F (o + d)).a)).setCell ⟨wr.heap.size, 2, none⟩ (.bool (F (o + d)).b)).setCell ⟨wr.heap.size, 3, none⟩ (.int .i64 (F (o + d)).m)) := ⟨_, rfl⟩
          have k5 : Kept0 wr w5 := by rw [hw5]; exact ka.setCel wr.heap.size 0 (Or.inl (Nat.le_refl _)) (F (o + d))
          have hy5 : Hid (CelAt w5 b5 y) := by
            rw [hw5, hb5, hyd]
            exact ⟨by simp [go_sem, q30], by simp [go_sem, q31], by simp [go_sem, q32], by simp [go_sem, q33]⟩
          rw [← hw5, ← hb5]
          have hlt5 : ¬ b5 = t ∧ ¬ t = b5 ∧ ¬ b5 = g ∧ ¬ g = b5 := by omega
          have HV := Lib.hid hyd.symm
          have hq5 : Hid (RefAt w5 g t cap R C (partF f F o d)) := hq.kept k5 (fun e => e) (fun e => e)
          have ho5 : Hid (RefAt w5 g1 t1 cap1 R C f) := holdq.kept k5 (fun e => e) (fun e => e)
          have hx5 : Hid (CelAt w5 (w.heap.size + 1) x) := CelAt.kept ⟨z0, z1, z2, z3⟩ k5 (fun e => e)
          have hp50 := Lib.hid (kcell k5 hpq0)
          have hp51 := Lib.hid (kcell k5 hpq1)
          have hk5 : Hid (Kept (· = t) w w5) := hkq.later k5 (fun _ _ e => e.elim)
          obtain ⟨n1, n2, n3, n4⟩ := hlt5
          clear hw5 hb5 hyd k5 hq holdq hkq z0 z1 z2 z3 fr0 fr1 fr2 fr3 q30 q31 q32 q33 hpq0 hpq1
          have hd5 : RefAt w5 g t cap R C (partF f F o d) := hq5.out
          have c1 := hd5.c1
          have c2 := hd5.c2
          have hl5 : idx C (r : Int) ((c : Int) + d) < N := by rw [HN.out]; exact idx_lt (R := R) (C := C) ⟨by omega, by omega, by omega, by omega⟩
          rw [← HN.out] at c2
          obtain ⟨e0, e1, e2, e3⟩ := hd5.row.cell (k := idx C (r : Int) ((c : Int) + d)) (by rw [← HN.out]; exact hl5)
          have f0 := hd5.row.frozen (idx C (r : Int) ((c : Int) + d) * 4)
          have f1 := hd5.row.frozen (idx C (r : Int) ((c : Int) + d) * 4 + 1)
          have f2 := hd5.row.frozen (idx C (r : Int) ((c : Int) + d) * 4 + 2)
          have f3 := hd5.row.frozen (idx C (r : Int) ((c : Int) + d) * 4 + 3)
          obtain ⟨y0, y1, y2, y3⟩ := hy5.out
          have p50 := hp50.out
          have hw1 := HW.out
          have hz1 := hn3.out
          have hz2 : ¬ t = w.heap.size := fun e => hn3.out e.symm
          have hne1 : ¬ g = t := hd5.ne
          have hne2 : ¬ t = g := fun e => hd5.ne e.symm
          clear hd5
          go_region_held3 (fun w' => w'.cell? ⟨g, 1, none⟩ = some (.int .i64 C) ∧ w'.cell? ⟨g, 2, none⟩ = some (Value.slice (some ⟨t, 0, none⟩) N cap) ∧ w'.cell? ⟨w.heap.size, 0, none⟩ = some (.int .i64 (r : Int)) ∧ w'.cell? ⟨b5, 0, none⟩ = some (.int .i32 y.g) ∧ w'.cell? ⟨b5, 1, none⟩ = some (.int .i64 y.a) ∧ w'.cell? ⟨b5, 2, none⟩ = some (.bool y.b) ∧ w'.cell? ⟨b5, 3, none⟩ = some (.int .i64 y.m)) (go_keep) (first | fail)
          have kt5 : Kept (· = t) w5 _ := ((Kept.refl (· = t) w5).drew).setCel t (idx C (r : Int) ((c : Int) + d) * 4) (Or.inr rfl) y
          have hr4 : RefAt _ g t cap R C _ := hq5.out.withRow kt5 (hq5.out.row.set (idx C (r : Int) ((c : Int) + d)) y)
          have hfin : RefAt _ g t cap R C (partF f F o (d + 1)) := hr4.congr (fun j _ => by
            rw [HI.out, ← HV.out]
            exact partF_step f F o d j)
          have hold4 := ho5.out.kept kt5 hn1.out hn2.out
          have hx4 := hx5.out.kept kt5 hn4.out
          have hp04 := kcellS kt5 hp50.out hn3.out
          have hp14 := kcellS kt5 hp51.out hn3.out
          have kk4 := hk5.out.trans kt5
          clear kt5 hr4
          go_wp2_with fail
          go_roundw
          case rel => exact ⟨d + 1, by omega, by first | rfl | go_num, hfin, hold4, hx4, hp04, hp14, kk4⟩
          case measure => simp [intOf]; omega
        · have HV : Hid (F (o + d) = x) := by
            show F (o + d) = x
            rw [HF.out]
            unfold moveF
            rw [if_pos (by omega), if_neg (by omega)]
          have hAl := (Kept.refl (fun _ => False) wr).alloc (.cells #[.int .i32 x.g, .int .i64 x.a, .bool x.b, .int .i64 x.m] 36)
          have hnew := CelAt.new wr x 36
          have hor : ¬ mn ≤ (La : Int) - ((c : Int) + d) ∨ ¬ (c : Int) - ((c : Int) + d) ≤ mn := by omega
          rcases hor with h6 | h6
          all_goals
            clear h5
            try (have h7 : mn ≤ (La : Int) - ((c : Int) + d) := by omega)
            go_wp2_with fail
            obtain ⟨y, hyd⟩ : ∃ y, y = x := ⟨_, rfl⟩
            obtain ⟨b5, hb5⟩ : ∃ b5, b5 = wr.heap.size := ⟨_, rfl⟩
            obtain ⟨w5, hw5⟩ : ∃ w5, w5 = wr.alloc (.cells #[.int .i32 x.g, .int .i64 x.a, .bool x.b, .int .i64 x.m] 36) := ⟨_, rfl⟩
            have k5 : Kept0 wr w5 := by rw [hw5]; exact hAl
            have hy5 : Hid (CelAt w5 b5 y) := by rw [hw5, hb5, hyd]; exact hnew
            rw [← hw5, ← hb5]
            have hlt5 : ¬ b5 = t ∧ ¬ t = b5 ∧ ¬ b5 = g ∧ ¬ g = b5 := by omega
            have HV : Hid (F (o + d) = y) := by rw [hyd]; exact HV.out
            have hq5 : Hid (RefAt w5 g t cap R C (partF f F o d)) := hq.kept k5 (fun e => e) (fun e => e)
            have ho5 : Hid (RefAt w5 g1 t1 cap1 R C f) := holdq.kept k5 (fun e => e) (fun e => e)
            have hx5 : Hid (CelAt w5 (w.heap.size + 1) x) := CelAt.kept ⟨z0, z1, z2, z3⟩ k5 (fun e => e)
            have hp50 := Lib.hid (kcell k5 hpq0)
            have hp51 := Lib.hid (kcell k5 hpq1)
            have hk5 : Hid (Kept (· = t) w w5) := hkq.later k5 (fun _ _ e => e.elim)
            obtain ⟨n1, n2, n3, n4⟩ := hlt5
            clear hw5 hb5 hyd k5 hq holdq hkq z0 z1 z2 z3 hAl hnew hpq0 hpq1
            have hd5 : RefAt w5 g t cap R C (partF f F o d) := hq5.out
            have c1 := hd5.c1
            have c2 := hd5.c2
            have hl5 : idx C (r : Int) ((c : Int) + d) < N := by rw [HN.out]; exact idx_lt (R := R) (C := C) ⟨by omega, by omega, by omega, by omega⟩
            rw [← HN.out] at c2
            obtain ⟨e0, e1, e2, e3⟩ := hd5.row.cell (k := idx C (r : Int) ((c : Int) + d)) (by rw [← HN.out]; exact hl5)
            have f0 := hd5.row.frozen (idx C (r : Int) ((c : Int) + d) * 4)
            have f1 := hd5.row.frozen (idx C (r : Int) ((c : Int) + d) * 4 + 1)
            have f2 := hd5.row.frozen (idx C (r : Int) ((c : Int) + d) * 4 + 2)
            have f3 := hd5.row.frozen (idx C (r : Int) ((c : Int) + d) * 4 + 3)
            obtain ⟨y0, y1, y2, y3⟩ := hy5.out
            have p50 := hp50.out
            have hw1 := HW.out
            have hz1 := hn3.out
            have hz2 : ¬ t = w.heap.size := fun e => hn3.out e.symm
            have hne1 : ¬ g = t := hd5.ne
            have hne2 : ¬ t = g := fun e => hd5.ne e.symm
            clear hd5
            go_region_held3 (fun w' => w'.cell? ⟨g, 1, none⟩ = some (.int .i64 C) ∧ w'.cell? ⟨g, 2, none⟩ = some (Value.slice (some ⟨t, 0, none⟩) N cap) ∧ w'.cell? ⟨w.heap.size, 0, none⟩ = some (.int .i64 (r : Int)) ∧ w'.cell? ⟨b5, 0, none⟩ = some (.int .i32 y.g) ∧ w'.cell? ⟨b5, 1, none⟩ = some (.int .i64 y.a) ∧ w'.cell? ⟨b5, 2, none⟩ = some (.bool y.b) ∧ w'.cell? ⟨b5, 3, none⟩ = some (.int .i64 y.m)) (go_keep) (first | fail)
            have kt5 : Kept (· = t) w5 _ := ((Kept.refl (· = t) w5).drew).setCel t (idx C (r : Int) ((c : Int) + d) * 4) (Or.inr rfl) y
            have hr4 : RefAt _ g t cap R C _ := hq5.out.withRow kt5 (hq5.out.row.set (idx C (r : Int) ((c : Int) + d)) y)
            have hfin : RefAt _ g t cap R C (partF f F o (d + 1)) := hr4.congr (fun j _ => by
              rw [HI.out, ← HV.out]
              exact partF_step f F o d j)
            have hold4 := ho5.out.kept kt5 hn1.out hn2.out
            have hx4 := hx5.out.kept kt5 hn4.out
            have hp04 := kcellS kt5 hp50.out hn3.out
            have hp14 := kcellS kt5 hp51.out hn3.out
            have kk4 := hk5.out.trans kt5
            clear kt5 hr4
            go_wp2_with fail
            go_roundw
            case rel => exact ⟨d + 1, by omega, by first | rfl | go_num, hfin, hold4, hx4, hp04, hp14, kk4⟩
            case measure => simp [intOf]; omega
      · have hdf : decide ((c : Int) + (d : Int) ≤ (La : Int)) = false := by simp; omega
        go_wp2_with fail
        go_ret
        refine ⟨rfl, hq.congr (fun j _ => ?_), hkq⟩
        unfold partF
        by_cases e : o ≤ j ∧ j < o + d
        · rw [if_pos e]
        · rw [if_neg e, HF.out]
          unfold moveF
          rw [if_neg (by omega)]

theorem charsR_taken (g t cap R C : Nat) (f : Nat → Cel) (r c : Nat) (n : Int) (x : Cel) (w : World) (hg : RefAt w g t cap R C f) (hr : r < R) (hc : c < C) (hb : gd C f r c = true) :
    Calls Tryz.prog 85 #[.pointer (some ⟨g, 0, none⟩), .agg #[.int .i64 (r : Int), .int .i64 (c : Int)], .int .i64 n, x.v, .bool true] w fun e w' => e = .returned (.int .i64 0) ∧ Kept0 w w' := by
  have HBT := Lib.hid (thereB_yes (R := R) (C := C) (r := (r : Int)) (c := (c : Int)) ⟨by omega, by omega, by omega, by omega⟩)
  have hT : Hid (There R C (r : Int) (c : Int)) := ⟨by omega, by omega, by omega, by omega⟩
  have hp0 : ∀ o, ((w.alloc (.cells #[.int .i64 (r : Int), .int .i64 (c : Int)] 40)).alloc o).cell? ⟨w.heap.size, 0, none⟩ = some (.int .i64 (r : Int)) := fun o => by simp [go_sem]
  have hp1 : ∀ o, ((w.alloc (.cells #[.int .i64 (r : Int), .int .i64 (c : Int)] 40)).alloc o).cell? ⟨w.heap.size, 1, none⟩ = some (.int .i64 (c : Int)) := fun o => by simp [go_sem]
  have hfb := field_b (f (idx C (r : Int) (c : Int)))
  rw [gd_idx C f r c, hb] at hfb
  have hC2 := hg.C2
  clear hb
  go_enter Tryz.func85, Tryz.ntmps85
  go_wp2_with fail
  obtain ⟨V, hV⟩ : ∃ V, V = (w.alloc (.cells #[.int .i64 (r : Int), .int .i64 (c : Int)] 40)).alloc (.cells #[.int .i32 x.g, .int .i64 x.a, .bool x.b, .int .i64 x.m] 36) := ⟨_, rfl⟩
  have k0 : Kept0 w V := by rw [hV]; exact ((Kept.refl _ w).alloc _).alloc _
  replace hp0 : V.cell? ⟨w.heap.size, 0, none⟩ = some (.int .i64 (r : Int)) := by rw [hV]; exact hp0 _
  replace hp1 : V.cell? ⟨w.heap.size, 1, none⟩ = some (.int .i64 (c : Int)) := by rw [hV]; exact hp1 _
  rw [← hV]
  clear hV
  refine (thereR g R C _ _ _ (kcell k0 hg.c0) (kcell k0 hg.c1)).mono ?_
  rw [HBT.out]
  rintro e V1 ⟨rfl, hk1⟩
  replace hp0 := kcell hk1 hp0
  replace hp1 := kcell hk1 hp1
  replace k0 := k0.trans hk1
  clear hk1
  have c1 := kcell k0 hg.c1
  go_wp2_with fail
  refine (getR g t cap R C f _ _ _ (hg.kept k0 (fun e => e) (fun e => e)) hT.out).mono ?_
  rintro e V2 ⟨rfl, hk1⟩
  go_wp2_with fail
  go_ret
  exact ⟨rfl, k0.trans hk1⟩

theorem charsR_out (g t cap R C : Nat) (f : Nat → Cel) (r c n : Int) (x : Cel) (b : Bool) (w : World) (hg : RefAt w g t cap R C f) (h : ¬ There R C r c) :
    Calls Tryz.prog 85 #[.pointer (some ⟨g, 0, none⟩), .agg #[.int .i64 r, .int .i64 c], .int .i64 n, x.v, .bool b] w fun e w' => e = .returned (.int .i64 11) ∧ Kept0 w w' := by
  have HBT := Lib.hid (thereB_no h)
  clear h
  have hp0 : ∀ o, ((w.alloc (.cells #[.int .i64 r, .int .i64 c] 40)).alloc o).cell? ⟨w.heap.size, 0, none⟩ = some (.int .i64 r) := fun o => by simp [go_sem]
  have hp1 : ∀ o, ((w.alloc (.cells #[.int .i64 r, .int .i64 c] 40)).alloc o).cell? ⟨w.heap.size, 1, none⟩ = some (.int .i64 c) := fun o => by simp [go_sem]
  go_enter Tryz.func85, Tryz.ntmps85
  go_wp2_with fail
  have k0 : Kept0 w ((w.alloc (.cells #[.int .i64 r, .int .i64 c] 40)).alloc (.cells #[.int .i32 x.g, .int .i64 x.a, .bool x.b, .int .i64 x.m] 36)) := ((Kept.refl _ w).alloc _).alloc _
  refine (thereR g R C _ _ _ (kcell k0 hg.c0) (kcell k0 hg.c1)).mono ?_
  rw [HBT.out]
  rintro e V1 ⟨rfl, hk1⟩
  go_wp2_with fail
  go_ret
  exact ⟨rfl, k0.trans hk1⟩

theorem charsR (g t cap R C : Nat) (f : Nat → Cel) (r c n : Int) (x : Cel) (b : Bool) (w : World) (hg : RefAt w g t cap R C f) (hn : -9223372036854775808 ≤ n ∧ n ≤ 9223372036854775807) :
    Calls Tryz.prog 85 #[.pointer (some ⟨g, 0, none⟩), .agg #[.int .i64 r, .int .i64 c], .int .i64 n, x.v, .bool b] w fun e w' => e = .returned (.int .i64 (charsE R C r c)) ∧ RefAt w' g t cap R C (charsF R C f r c n x b) ∧ Kept (· = t) w w' := by
  have hC1 := hg.C1
  have hC2 := hg.C2
  by_cases hr : 0 ≤ r ∧ r < R ∧ 0 ≤ c ∧ c < C
  · rw [show charsE R C r c = 0 from if_pos hr]
    have hr' := hr
    obtain ⟨h1, h2, h3, h4⟩ := hr
    obtain ⟨r, rfl⟩ := Int.eq_ofNat_of_zero_le h1
    obtain ⟨c, rfl⟩ := Int.eq_ofNat_of_zero_le h3
    by_cases hb : b = true ∧ gd C f r c = true
    · rw [show charsF R C f (r : Int) (c : Int) n x b = f from if_neg (fun e => e.2 hb)]
      obtain ⟨rfl, hb⟩ := hb
      refine (charsR_taken g t cap R C f r c n x w hg (by omega) (by omega) hb).mono ?_
      rintro e w2 ⟨rfl, k2⟩
      exact ⟨rfl, hg.kept k2 (fun e => e) (fun e => e), Kept0.to k2⟩
    · rw [show charsF R C f (r : Int) (c : Int) n x b = moveF f (idx C (r : Int) (c : Int)) (lastC C f r c b + 1 - c) (opp n) x from if_pos ⟨hr', hb⟩]
      have hgd : b = true → gd C f r c = false := fun e => Bool.eq_false_iff.2 (fun h => hb ⟨e, h⟩)
      refine (charsR_in g t cap R C f r c n x b w hg (by omega) (by omega) hgd).mono ?_
      rintro e w2 ⟨rfl, h2, k2⟩
      refine ⟨rfl, h2.congr (fun j _ => ?_), k2⟩
      have hla : lastC C f r c b < C := by
        unfold lastC
        split
        · have := hi_le (gd C f r) (C - 1 - c) c
          omega
        · omega
      rw [← moveF_bnd, mns_opp (by omega) hn.1, moveF_bnd]
      simp [idx]
  · rw [show charsE R C r c = 11 from if_neg hr, show charsF R C f r c n x b = f from if_neg (fun e => hr e.1)]
    refine (charsR_out g t cap R C f r c n x b w hg hr).mono ?_
    rintro e w2 ⟨rfl, k2⟩
    exact ⟨rfl, hg.kept k2 (fun e => e) (fun e => e), Kept0.to k2⟩
end Sh
end Go.Proofs.YtkpfhgfdfndliaaGreatDoor
