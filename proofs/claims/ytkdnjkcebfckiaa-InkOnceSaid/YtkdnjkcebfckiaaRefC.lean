/-
  The answer of the document: rows.
-/
import Derived.Test.YtkdnjkcebfckiaaRefB
namespace Go.Proofs.Ytkdnjkcebfckiaa
open Go.RowKit

/-- Those from o on, m of them, are F's. -/
def partF (f F : Nat → Cel) (o m : Nat) : Nat → Cel := fun k => if o ≤ k ∧ k < o + m then F k else f k

theorem partF_step (f F : Nat → Cel) (o m k : Nat) : upd (partF f F o m) (o + m) (F (o + m)) k = partF f F o (m + 1) k := by
  unfold upd partF
  by_cases h : k = o + m
  · subst h; rw [if_pos rfl, if_pos (by omega)]
  · rw [if_neg h]
    by_cases h2 : o ≤ k ∧ k < o + m
    · rw [if_pos h2, if_pos (by omega)]
    · rw [if_neg h2, if_neg (by omega)]

/-- What a Roll puts to a place. -/
theorem roll_val {C : Nat} {r r' n : Int} (f : Nat → Cel) (x : Cel) {d e : Nat} (h0 : 0 ≤ r) (h : r + d ≤ r') (he : e < C) :
    (n ≤ r' - (r + d) ∧ r - (r + d) ≤ n → moveF f (r.toNat * C) ((r' - r + 1).toNat * C) (n * C) x (r.toNat * C + (d * C + e)) = f (idx C (r + d + n) e)) ∧
    (¬ (n ≤ r' - (r + d) ∧ r - (r + d) ≤ n) → moveF f (r.toNat * C) ((r' - r + 1).toNat * C) (n * C) x (r.toNat * C + (d * C + e)) = x) := by
  obtain ⟨a, rfl⟩ := Int.eq_ofNat_of_zero_le h0
  obtain ⟨m, hm⟩ : ∃ m : Nat, r' = a + m := ⟨(r' - a).toNat, by omega⟩
  subst hm
  have e1 : (((a : Int) + (m : Int)) - (a : Int) + 1).toNat = m + 1 := by omega
  rw [e1]
  simp only [Int.toNat_natCast]
  have hd : d ≤ m := by omega
  have h2 : (d + 1) * C ≤ (m + 1) * C := Nat.mul_le_mul_right _ (by omega)
  rw [Nat.add_mul d 1] at h2
  unfold moveF
  rw [if_pos (by omega)]
  have e2 : ((a * C + (d * C + e) : Nat) : Int) + n * C = (a * C : Int) + ((d : Int) + n) * C + e := by
    rw [Int.add_mul]
    push_cast
    omega
  rw [e2]
  constructor
  · rintro ⟨h3, h4⟩
    have h5 : 0 ≤ (d : Int) + n := by omega
    have h6 : (d : Int) + n ≤ m := by omega
    have h7 : 0 ≤ ((d : Int) + n) * C := Int.mul_nonneg h5 (by omega)
    have h8 : ((d : Int) + n + 1) * C ≤ ((m : Int) + 1) * C := Int.mul_le_mul_of_nonneg_right (by omega) (by omega)
    rw [Int.add_mul _ 1] at h8
    have h9 : (((m + 1) * C : Nat) : Int) = ((m : Int) + 1) * C := by push_cast; rfl
    rw [if_pos (by push_cast at *; omega)]
    congr 1
    obtain ⟨b, hb⟩ := Int.eq_ofNat_of_zero_le h5
    rw [show (a : Int) + (d : Int) + n = ((a + b : Nat) : Int) by push_cast; omega, hb]
    simp only [idx, Int.toNat_natCast]
    rw [Nat.add_mul]
    have : (a : Int) * C + (b : Int) * C + e = ((a * C + b * C + e : Nat) : Int) := by push_cast; rfl
    rw [this]
    exact Int.toNat_natCast _
  · intro h3
    have hor : (d : Int) + n < 0 ∨ (m : Int) < (d : Int) + n := by omega
    have h9 : (((m + 1) * C : Nat) : Int) = ((m : Int) + 1) * C := by push_cast; rfl
    rcases hor with h4 | h4
    · have h8 : ((d : Int) + n + 1) * C ≤ 0 * C := Int.mul_le_mul_of_nonneg_right (by omega) (by omega)
      rw [Int.add_mul _ 1] at h8
      rw [if_neg (by push_cast at *; omega)]
    · have h8 : ((m : Int) + 1) * C ≤ ((d : Int) + n) * C := Int.mul_le_mul_of_nonneg_right (by omega) (by omega)
      rw [if_neg (by push_cast at *; omega)]

set_option maxHeartbeats 4000000 in
theorem rowsR (g t cap R C : Nat) (f : Nat → Cel) (r : Nat) (n : Int) (x : Cel) (w : World) (hg : RefAt w g t cap R C f) (hr : r < R) (hn : -9223372036854775808 ≤ n ∧ n ≤ 9223372036854775807) :
    Calls Try.prog 57 #[.pointer (some ⟨g, 0, none⟩), .int .i64 (r : Int), .int .i64 n, x.v] w fun e w' =>
      e = .returned (.tuple #[]) ∧ RefAt w' g t cap R C (moveF f (r * C) ((R - r) * C) (n * C) x) ∧ Kept (· = t) w w' := by
  have hC1 := hg.C1
  have hC2 := hg.C2
  have hR2 := hg.R2
  have hgl := hg.lt
  have htl := hg.row.lt
  obtain ⟨F, hF⟩ : ∃ F, F = moveF f (r * C) ((R - r) * C) (n * C) x := ⟨_, rfl⟩
  rw [← hF]
  have HF := Lib.hid hF
  clear hF
  obtain ⟨o, ho⟩ : ∃ o, o = r * C := ⟨_, rfl⟩
  have HO := Lib.hid ho
  clear ho
  obtain ⟨N, hN⟩ : ∃ N, N = R * C := ⟨_, rfl⟩
  have hN2 : N ≤ 65025 := by rw [hN]; exact Nat.mul_le_mul hR2 hC2
  have HN := Lib.hid hN
  clear hN
  have hx := CelAt.new w x 36
  go_enter Try.func57, Try.ntmps57
  go_wp2_with fail
  obtain ⟨W, hW⟩ : ∃ W, W = w.alloc (.cells #[.int .i32 x.g, .int .i64 x.a, .bool x.b, .int .i64 x.m] 36) := ⟨_, rfl⟩
  have k0 : Kept0 w W := by rw [hW]; exact (Kept.refl _ w).alloc _
  have hsW : w.heap.size < W.heap.size := by rw [hW]; simp
  rw [← hW] at hx ⊢
  clear hW
  refine (copyR g t cap R C f _ (hg.kept k0 (fun e => e) (fun e => e))).mono ?_
  rintro e w1 ⟨g1, t1, cap1, rfl, hg1, ht1, hR1, hk1⟩
  replace hx := hx.kept hk1 (fun e => e)
  have hG1 := hg.kept (k0.trans hk1) (fun e => e) (fun e => e)
  have kk1 := k0.trans hk1
  have HRR := Lib.hid hn
  go_wp2_with fail
  go_loopw [9, 10, 11] (fun i s10 s11 wr => ∃ d : Nat, r + d ≤ R ∧ i = .int .i64 ((r : Int) + d) ∧ RefAt wr g t cap R C (partF f F o (d * C)) ∧ RefAt wr g1 t1 cap1 R C f ∧ CelAt wr w.heap.size x ∧ Kept (· = t) w wr) (fun i _ _ _ => ((R : Int) - intOf i).toNat)
  case atStart => exact ⟨0, by omega, by simp, hG1.congr (fun k _ => by simp [partF]; omega), hR1, hx, Kept0.to kk1⟩
  case round =>
    obtain ⟨d, hd1, rfl, hr', hold, hx', hkp⟩ := hrel
    have c0 := hr'.c0
    by_cases hlt : r + d < R
    · have hdt : decide ((r : Int) + (d : Int) < (R : Int)) = true := by simp; omega
      go_wp2_with fail
      go_loopw [10, 11] (fun i s11 wq => ∃ e : Nat, e ≤ C ∧ i = .int .i64 (e : Int) ∧ RefAt wq g t cap R C (partF f F o (d * C + e)) ∧ RefAt wq g1 t1 cap1 R C f ∧ CelAt wq w.heap.size x ∧ Kept (· = t) w wq) (fun i _ _ => C - (intOf i).toNat)
      case atStart => exact ⟨0, by omega, rfl, hr', hold, hx', hkp⟩
      case round =>
        obtain ⟨e, he, rfl, hq, holdq, hxq, hkq⟩ := hrel
        have c0 := hq.c0
        have c1 := hq.c1
        by_cases hlt2 : e < C
        · have HI : Hid (idx C ((r : Int) + d) (e : Int) = o + (d * C + e)) := by
            show idx C ((r : Int) + d) (e : Int) = o + (d * C + e)
            rw [HO.out]
            simp only [idx]
            rw [show ((r : Int) + (d : Int)).toNat = r + d by omega, Nat.add_mul]
            omega
          have HW : Hid (IntKind.i64.wrap (IntKind.i64.wrap (((r : Int) + d) * (C : Int)) + (e : Int)) = (idx C ((r : Int) + d) (e : Int) : Int)) := wrap_idx (R := R) ⟨by omega, by omega, by omega, by omega⟩ hR2 hC2
          obtain ⟨z0, z1, z2, z3⟩ := hxq
          have hsq := hkq.size
          have hgq : g < wr.heap.size := hq.lt
          have hn1 : Hid (¬ g1 = t) := (by omega : ¬ g1 = t)
          have hn2 : Hid (¬ t1 = t) := (by omega : ¬ t1 = t)
          have hn3 : Hid (¬ w.heap.size = t) := (by omega : ¬ w.heap.size = t)
          have hbl : Hid (w.heap.size < wr.heap.size) := World.block_lt_of_cell? wr _ z0
          by_cases h5 : n ≤ (R : Int) - 1 - ((r : Int) + d) ∧ (r : Int) - ((r : Int) + d) ≤ n
          · have HV : Hid (F (o + (d * C + e)) = f (idx C ((r : Int) + d + n) e)) := by
              show F (o + (d * C + e)) = f (idx C ((r : Int) + d + n) e)
              rw [HF.out, HO.out]
              have := (roll_val (r := (r : Int)) (r' := (R : Int) - 1) (C := C) (n := n) f x (d := d) (e := e) (by omega) (by omega) hlt2).1 h5
              rw [show ((R : Int) - 1 - (r : Int) + 1).toNat = R - r by omega] at this
              simpa using this
            obtain ⟨h6, h7⟩ := h5
            have hTh : Hid (There R C ((r : Int) + d + n) (e : Int)) := ⟨by omega, by omega, by omega, by omega⟩
            have hAl := (Kept.refl (fun _ => False) wr).alloc (.cells #[.int .i32 x.g, .int .i64 x.a, .bool x.b, .int .i64 x.m] 36)
            have hnew := CelAt.new wr x 36
            go_wp2_with fail
            refine (getR g1 t1 cap1 R C f _ _ _ (holdq.kept hAl (fun e => e) (fun e => e)) hTh.out).mono ?_
            rw [← HV.out]
            rintro e9 w3 ⟨rfl, hk3⟩
            have ka : Kept0 wr w3 := hAl.trans hk3
            have q3 := hnew.kept hk3 (fun e => e)
            have hs3 : wr.heap.size < w3.heap.size := World.block_lt_of_cell? w3 _ q3.c0
            have hfr : ∀ o, o < 4 → w3.frozen? ⟨wr.heap.size, o, none⟩ = false := fun o _ => (hk3.frozen (by simp) (fun e => e)).trans (by simp [go_sem])
            have fr0 := hfr 0 (by omega)
            have fr1 := hfr 1 (by omega)
            have fr2 := hfr 2 (by omega)
            have fr3 := hfr 3 (by omega)
            obtain ⟨q30, q31, q32, q33⟩ := q3
            clear hfr hk3 hAl hnew
            go_wp2_with fail
            obtain ⟨y, hyd⟩ : ∃ y, y = F (o + (d * C + e)) := ⟨_, rfl⟩
            obtain ⟨b5, hb5⟩ : ∃ b5, b5 = wr.heap.size := ⟨_, rfl⟩
            obtain ⟨w5, hw5⟩ : ∃ w5, w5 = ((((w3.setCell ⟨wr.heap.size, 0, none⟩ (.int .i32 (F (o + (d * C + e))).g)).setCell ⟨wr.heap.size, 1, none⟩ (.int .i64 (F (o + (d * C + e))).a)).setCell ⟨wr.heap.size, 2, none⟩ (.bool (F (o + (d * C + e))).b)).setCell ⟨wr.heap.size, 3, none⟩ (.int .i64 (F (o + (d * C + e))).m)) := ⟨_, rfl⟩
            have k5 : Kept0 wr w5 := by rw [hw5]; exact ka.setCel wr.heap.size 0 (Or.inl (Nat.le_refl _)) (F (o + (d * C + e)))
            have hy5 : Hid (CelAt w5 b5 y) := by
              rw [hw5, hb5, hyd]
              exact ⟨by simp [go_sem, q30], by simp [go_sem, q31], by simp [go_sem, q32], by simp [go_sem, q33]⟩
            rw [← hw5, ← hb5]
            have hlt5 : ¬ b5 = t ∧ ¬ t = b5 ∧ ¬ b5 = g ∧ ¬ g = b5 := by omega
            have hbz := hbl.out
            have HV := Lib.hid hyd.symm
            have hq5 : Hid (RefAt w5 g t cap R C (partF f F o (d * C + e))) := hq.kept k5 (fun e => e) (fun e => e)
            have ho5 : Hid (RefAt w5 g1 t1 cap1 R C f) := holdq.kept k5 (fun e => e) (fun e => e)
            have hx5 : Hid (CelAt w5 w.heap.size x) := CelAt.kept ⟨z0, z1, z2, z3⟩ k5 (fun e => e)
            have hk5 : Hid (Kept (· = t) w w5) := hkq.later k5 (fun _ _ e => e.elim)
            obtain ⟨n1, n2, n3, n4⟩ := hlt5
            clear hw5 hb5 hyd k5 hq holdq hkq c0 c1 z0 z1 z2 z3 fr0 fr1 fr2 fr3 q30 q31 q32 q33
            have hd5 : RefAt w5 g t cap R C (partF f F o (d * C + e)) := hq5.out
            have c1 := hd5.c1
            have c2 := hd5.c2
            have hl5 : idx C ((r : Int) + d) (e : Int) < N := by rw [HI.out, HN.out]; have := idx_lt (R := R) (C := C) (r := (r : Int) + d) (c := (e : Int)) ⟨by omega, by omega, by omega, by omega⟩; rwa [HI.out] at this
            rw [← HN.out] at c2
            obtain ⟨e0, e1, e2, e3⟩ := hd5.row.cell (k := idx C ((r : Int) + d) (e : Int)) (by rw [← HN.out]; exact hl5)
            have f0 := hd5.row.frozen (idx C ((r : Int) + d) (e : Int) * 4)
            have f1 := hd5.row.frozen (idx C ((r : Int) + d) (e : Int) * 4 + 1)
            have f2 := hd5.row.frozen (idx C ((r : Int) + d) (e : Int) * 4 + 2)
            have f3 := hd5.row.frozen (idx C ((r : Int) + d) (e : Int) * 4 + 3)
            obtain ⟨y0, y1, y2, y3⟩ := hy5.out
            have hw1 := HW.out
            have hne1 : ¬ g = t := hd5.ne
            have hne2 : ¬ t = g := fun e => hd5.ne e.symm
            clear hd5
            go_region_held3 (fun w' => w'.cell? ⟨g, 1, none⟩ = some (.int .i64 C) ∧ w'.cell? ⟨g, 2, none⟩ = some (Value.slice (some ⟨t, 0, none⟩) N cap) ∧ w'.cell? ⟨b5, 0, none⟩ = some (.int .i32 y.g) ∧ w'.cell? ⟨b5, 1, none⟩ = some (.int .i64 y.a) ∧ w'.cell? ⟨b5, 2, none⟩ = some (.bool y.b) ∧ w'.cell? ⟨b5, 3, none⟩ = some (.int .i64 y.m)) (go_keep) (first | fail)
            have kt5 : Kept (· = t) w5 _ := ((Kept.refl (· = t) w5).drew).setCel t (idx C ((r : Int) + d) (e : Int) * 4) (Or.inr rfl) y
            have hr4 : RefAt _ g t cap R C _ := hq5.out.withRow kt5 (hq5.out.row.set (idx C ((r : Int) + d) (e : Int)) y)
            have hfin : RefAt _ g t cap R C (partF f F o (d * C + (e + 1))) := hr4.congr (fun j _ => by
              rw [HI.out, ← HV.out]
              exact partF_step f F o (d * C + e) j)
            have hold4 := ho5.out.kept kt5 hn1.out hn2.out
            have hx4 := hx5.out.kept kt5 hn3.out
            have kk4 := hk5.out.trans kt5
            clear kt5 hr4
            go_wp2_with fail
            go_roundw
            case rel => exact ⟨e + 1, by omega, by go_num, hfin, hold4, hx4, kk4⟩
            case measure => simp [intOf]; omega
          · have HV : Hid (F (o + (d * C + e)) = x) := by
              show F (o + (d * C + e)) = x
              rw [HF.out, HO.out]
              have := (roll_val (r := (r : Int)) (r' := (R : Int) - 1) (C := C) (n := n) f x (d := d) (e := e) (by omega) (by omega) hlt2).2 h5
              rw [show ((R : Int) - 1 - (r : Int) + 1).toNat = R - r by omega] at this
              simpa using this
            have hAl := (Kept.refl (fun _ => False) wr).alloc (.cells #[.int .i32 x.g, .int .i64 x.a, .bool x.b, .int .i64 x.m] 36)
            have hnew := CelAt.new wr x 36
            have hor : ¬ n ≤ (R : Int) - 1 - ((r : Int) + d) ∨ ¬ (r : Int) - ((r : Int) + d) ≤ n := by omega
            rcases hor with h6 | h6
            all_goals
              clear h5
              try (have h7 : n ≤ (R : Int) - 1 - ((r : Int) + d) := by omega)
              go_wp2_with fail
              obtain ⟨y, hyd⟩ : ∃ y, y = x := ⟨_, rfl⟩
              obtain ⟨b5, hb5⟩ : ∃ b5, b5 = wr.heap.size := ⟨_, rfl⟩
              obtain ⟨w5, hw5⟩ : ∃ w5, w5 = wr.alloc (.cells #[.int .i32 x.g, .int .i64 x.a, .bool x.b, .int .i64 x.m] 36) := ⟨_, rfl⟩
              have k5 : Kept0 wr w5 := by rw [hw5]; exact hAl
              have hy5 : Hid (CelAt w5 b5 y) := by rw [hw5, hb5, hyd]; exact hnew
              rw [← hw5, ← hb5]
              have hlt5 : ¬ b5 = t ∧ ¬ t = b5 ∧ ¬ b5 = g ∧ ¬ g = b5 := by omega
              have hbz := hbl.out
              have HV : Hid (F (o + (d * C + e)) = y) := by rw [hyd]; exact HV.out
              have hq5 : Hid (RefAt w5 g t cap R C (partF f F o (d * C + e))) := hq.kept k5 (fun e => e) (fun e => e)
              have ho5 : Hid (RefAt w5 g1 t1 cap1 R C f) := holdq.kept k5 (fun e => e) (fun e => e)
              have hx5 : Hid (CelAt w5 w.heap.size x) := CelAt.kept ⟨z0, z1, z2, z3⟩ k5 (fun e => e)
              have hk5 : Hid (Kept (· = t) w w5) := hkq.later k5 (fun _ _ e => e.elim)
              obtain ⟨n1, n2, n3, n4⟩ := hlt5
              clear hw5 hb5 hyd k5 hq holdq hkq c0 c1 z0 z1 z2 z3 hAl hnew
              have hd5 : RefAt w5 g t cap R C (partF f F o (d * C + e)) := hq5.out
              have c1 := hd5.c1
              have c2 := hd5.c2
              have hl5 : idx C ((r : Int) + d) (e : Int) < N := by rw [HI.out, HN.out]; have := idx_lt (R := R) (C := C) (r := (r : Int) + d) (c := (e : Int)) ⟨by omega, by omega, by omega, by omega⟩; rwa [HI.out] at this
              rw [← HN.out] at c2
              obtain ⟨e0, e1, e2, e3⟩ := hd5.row.cell (k := idx C ((r : Int) + d) (e : Int)) (by rw [← HN.out]; exact hl5)
              have f0 := hd5.row.frozen (idx C ((r : Int) + d) (e : Int) * 4)
              have f1 := hd5.row.frozen (idx C ((r : Int) + d) (e : Int) * 4 + 1)
              have f2 := hd5.row.frozen (idx C ((r : Int) + d) (e : Int) * 4 + 2)
              have f3 := hd5.row.frozen (idx C ((r : Int) + d) (e : Int) * 4 + 3)
              obtain ⟨y0, y1, y2, y3⟩ := hy5.out
              have hw1 := HW.out
              have hne1 : ¬ g = t := hd5.ne
              have hne2 : ¬ t = g := fun e => hd5.ne e.symm
              clear hd5
              go_region_held3 (fun w' => w'.cell? ⟨g, 1, none⟩ = some (.int .i64 C) ∧ w'.cell? ⟨g, 2, none⟩ = some (Value.slice (some ⟨t, 0, none⟩) N cap) ∧ w'.cell? ⟨b5, 0, none⟩ = some (.int .i32 y.g) ∧ w'.cell? ⟨b5, 1, none⟩ = some (.int .i64 y.a) ∧ w'.cell? ⟨b5, 2, none⟩ = some (.bool y.b) ∧ w'.cell? ⟨b5, 3, none⟩ = some (.int .i64 y.m)) (go_keep) (first | fail)
              have kt5 : Kept (· = t) w5 _ := ((Kept.refl (· = t) w5).drew).setCel t (idx C ((r : Int) + d) (e : Int) * 4) (Or.inr rfl) y
              have hr4 : RefAt _ g t cap R C _ := hq5.out.withRow kt5 (hq5.out.row.set (idx C ((r : Int) + d) (e : Int)) y)
              have hfin : RefAt _ g t cap R C (partF f F o (d * C + (e + 1))) := hr4.congr (fun j _ => by
                rw [HI.out, ← HV.out]
                exact partF_step f F o (d * C + e) j)
              have hold4 := ho5.out.kept kt5 hn1.out hn2.out
              have hx4 := hx5.out.kept kt5 hn3.out
              have kk4 := hk5.out.trans kt5
              clear kt5 hr4
              go_wp2_with fail
              go_roundw
              case rel => exact ⟨e + 1, by omega, by go_num, hfin, hold4, hx4, kk4⟩
              case measure => simp [intOf]; omega
        · obtain rfl : e = C := by omega
          go_wp2_with fail
          go_roundw
          case rel =>
            refine ⟨d + 1, by omega, by first | rfl | (congr 1; omega), ?_, holdq, hxq, hkq⟩
            rw [Nat.add_mul, Nat.one_mul]
            exact hq
          case measure => simp [intOf]; omega
    · go_wp2_with fail
      go_end0
      have hdd : R - r = d := by omega
      refine ⟨rfl, hr'.congr (fun j _ => ?_), hkp⟩
      unfold partF
      by_cases e : o ≤ j ∧ j < o + d * C
      · rw [if_pos e]
      · rw [if_neg e, HF.out]
        unfold moveF
        rw [hdd, ← HO.out, if_neg e]
end Go.Proofs.Ytkdnjkcebfckiaa
