/-
  The document's answer: Guard.
-/
import Derived.Test.YtkdnjkcebfckiaaRefP
import Derived.Test.YtkdnjkcebfckiaaGuard
namespace Go.Proofs.Ytkdnjkcebfckiaa
open Go.RowKit

set_option maxHeartbeats 1000000 in
theorem guardR_none (g t cap R C : Nat) (f : Nat → Cel) (r c p q : Int) (b : Bool) (x : Cel) (w : World) (hg : RefAt w g t cap R C f)
    (hF : ∀ w', RefAt w' g t cap R C f → Calls Try.prog 20 #[.pointer (some ⟨g, 0, none⟩), pos r c, .bool false] w' fun e w'' => e = .returned (.tuple #[pos p q, .bool false]) ∧ Kept0 w' w'') :
    Calls Try.prog 23 #[.pointer (some ⟨g, 0, none⟩), place r c b, x.v] w fun e w' => e = .returned (.tuple #[place 0 0 false, .int .i64 15]) ∧ Kept0 w w' := by
  have HF := Lib.hid hF
  have HG := Lib.hid hg
  clear hF hg
  go_enter Try.func23, Try.ntmps23
  go_wp2_with fail
  obtain ⟨W, hW⟩ : ∃ W, W = ((w.alloc (.cells #[.int .i64 r, .int .i64 c, .bool b] 42)).alloc (.cells #[.int .i32 x.g, .int .i64 x.a, .bool x.b, .int .i64 x.m] 36)).alloc (.cells #[.int .i64 0, .int .i64 0, .bool false] 42) := ⟨_, rfl⟩
  have k0 : Kept0 w W := by rw [hW]; exact (((Kept.refl _ w).alloc _).alloc _).alloc _
  have hp : Three W w.heap.size r c b := by rw [hW]; exact Three.of (heap_old _ _ (heap_old _ _ (heap_new _ _)))
  have hx : CelAt W (w.heap.size + 1) x := by rw [hW]; constructor <;> simp [go_sem]
  have ho : Three W (w.heap.size + 1 + 1) 0 0 false := by rw [hW]; exact Three.of (heap_newC _ _ _ _)
  rw [← hW]
  clear hW
  have HGW : Hid (RefAt W g t cap R C f) := HG.out.kept k0 (fun e => e) (fun e => e)
  clear HG
  have HP := Lib.hid hp
  obtain ⟨p0, p1, p9, p3, p4, p5⟩ := hp
  refine (HF.out _ HGW.out).mono ?_
  rintro e w1 ⟨rfl, hk1⟩
  have HP1 := Lib.hid (HP.out.kept0 hk1)
  have hx1 := hx.kept hk1 (fun e => e)
  have ho1 := ho.kept0 hk1
  have HG1 : Hid (RefAt w1 g t cap R C f) := HGW.out.kept hk1 (fun e => e) (fun e => e)
  have K1 : Hid (Kept0 w w1) := k0.trans hk1
  have lo := ho1.lt
  clear HGW HP p0 p1 p9 p3 p4 p5 hx ho k0 hk1 HF
  obtain ⟨o0, o1, o2, o3, o4, o5⟩ := ho1
  go_wp2_with fail
  have q2 : w.heap.size ≤ w.heap.size + 1 + 1 := by omega
  exact bodyPost_ret (v := .tuple #[place 0 0 false, .int .i64 15]) (by simp [results, Try.results23, go_sem, *]) rfl ⟨rfl, (((K1.out.setCell _ (Or.inl q2) _).setCell _ (Or.inl q2) _).setCell _ (Or.inl q2) _).alloc _⟩

set_option maxHeartbeats 4000000 in
theorem guardR_some (g t cap R C k0 : Nat) (f : Nat → Cel) (r c p4q q4q : Int) (b vv : Bool) (x : Cel) (w : World) (hg : RefAt w g t cap R C f) (hk0 : k0 < R * C)
    (hF : ∀ w', RefAt w' g t cap R C f → Calls Try.prog 20 #[.pointer (some ⟨g, 0, none⟩), pos r c, .bool false] w' fun e w'' => e = .returned (.tuple #[pos (rowOf C k0 : Int) (colOf C k0 : Int), .bool true]) ∧ Kept0 w' w'')
    (hF2 : ∀ w', RefAt w' g t cap R C (upd f k0 x) → Calls Try.prog 20 #[.pointer (some ⟨g, 0, none⟩), pos (rowOf C (stp (R * C) false k0 1) : Int) (colOf C (stp (R * C) false k0 1) : Int), .bool false] w' fun e w'' => e = .returned (.tuple #[pos p4q q4q, .bool vv]) ∧ Kept0 w' w'') :
    Calls Try.prog 23 #[.pointer (some ⟨g, 0, none⟩), place r c b, x.v] w fun e w' => e = .returned (.tuple #[place (if vv = true then p4q else nr r R) (if vv = true then q4q else nr c C) false, .int .i64 0]) ∧ RefAt w' g t cap R C (upd f k0 x) ∧ Kept (· = t) w w' := by
  have hR1 := hg.R1
  have hR2 := hg.R2
  have hC1 := hg.C1
  have hC2 := hg.C2
  have hgl := hg.lt
  have htl := hg.row.lt
  have hne := hg.ne
  have hRC : R * C ≤ 65025 := Nat.mul_le_mul hR2 hC2
  have HN : Hid (∀ w', Calls Try.prog 38 #[pos R C, pos r c] w' fun e w'' => e = .returned (pos (nr r R) (nr c C)) ∧ Kept0 w' w'') := fun w' => refNear_any (R : Int) (C : Int) r c (may_nat hR1 hR2 hC1 hC2) w'
  have hmul := row_mul C k0
  have h0 : 0 ≤ (rowOf C k0 : Int) * (C : Int) := Int.mul_nonneg (by omega) (by omega)
  have E1 : Hid (IntKind.i64.wrap (IntKind.i64.wrap ((rowOf C k0 : Int) * (C : Int)) + (colOf C k0 : Int)) = (k0 : Int)) := by
    show _ = _
    rw [IntWalk.i64_in ((rowOf C k0 : Int) * (C : Int)) ⟨by omega, by omega⟩, hmul, IntWalk.i64_in _ ⟨by omega, by omega⟩]
  have hst : (((k0 : Int) + 1) % ((R * C : Nat) : Int)) = (stp (R * C) false k0 1 : Int) := by
    simp [stp]
  have hlt2 : stp (R * C) false k0 1 < R * C := stp_lt (by omega)
  have HF := Lib.hid hF
  have HG := Lib.hid hg
  have HF2 := Lib.hid hF2
  obtain ⟨N, hN⟩ : ∃ N, N = R * C := ⟨_, rfl⟩
  have HNN := Lib.hid hN
  rw [← hN] at hst hlt2 hk0 hRC HF2
  generalize stp N false k0 1 = k1 at *
  generalize (rowOf C k0 : Int) = p at *
  generalize (colOf C k0 : Int) = q at *
  have ES := Lib.hid hst
  clear hF hg hF2 hN hmul h0 hst
  go_enter Try.func23, Try.ntmps23
  go_wp2_with fail
  obtain ⟨W, hW⟩ : ∃ W, W = ((w.alloc (.cells #[.int .i64 r, .int .i64 c, .bool b] 42)).alloc (.cells #[.int .i32 x.g, .int .i64 x.a, .bool x.b, .int .i64 x.m] 36)).alloc (.cells #[.int .i64 0, .int .i64 0, .bool false] 42) := ⟨_, rfl⟩
  have k0 : Kept0 w W := by rw [hW]; exact (((Kept.refl _ w).alloc _).alloc _).alloc _
  have hp : Three W w.heap.size r c b := by rw [hW]; exact Three.of (heap_old _ _ (heap_old _ _ (heap_new _ _)))
  have hx : CelAt W (w.heap.size + 1) x := by rw [hW]; constructor <;> simp [go_sem]
  have ho : Three W (w.heap.size + 1 + 1) 0 0 false := by rw [hW]; exact Three.of (heap_newC _ _ _ _)
  rw [← hW]
  clear hW
  have HGW : Hid (RefAt W g t cap R C f) := HG.out.kept k0 (fun e => e) (fun e => e)
  clear HG
  have HP := Lib.hid hp
  obtain ⟨p0, p1, p9, p3, p4, p5⟩ := hp
  refine (HF.out _ HGW.out).mono ?_
  rintro e w1 ⟨rfl, hk1⟩
  have HP1 := Lib.hid (HP.out.kept0 hk1)
  have hx1 := hx.kept hk1 (fun e => e)
  have ho1 := ho.kept0 hk1
  have HG1 : Hid (RefAt w1 g t cap R C f) := HGW.out.kept hk1 (fun e => e) (fun e => e)
  have K1 : Hid (Kept0 w w1) := k0.trans hk1
  have lo := ho1.lt
  clear HGW HP p0 p1 p9 p3 p4 p5 hx ho k0 hk1 HF
  obtain ⟨x0, x1, x2, x3⟩ := hx1
  have HO1 := Lib.hid ho1
  clear ho1
  have c1 := HG1.out.c1
  have lg1 := HG1.out.lt
  go_upto_region 4 with fail
  obtain ⟨b9, hb9⟩ : ∃ b9, b9 = w1.heap.size := ⟨_, rfl⟩
  obtain ⟨V, hV⟩ : ∃ V, V = w1.alloc (.cells #[.int .i64 p, .int .i64 q] 26) := ⟨_, rfl⟩
  have kV : Kept0 w1 V := by rw [hV]; exact (Kept.refl _ w1).alloc _
  have hT : Two V b9 p q := by rw [hV, hb9]; exact Two.of (heap_new w1 _)
  rw [← hV, ← hb9]
  have hle7 : w1.heap.size ≤ b9 := by omega
  clear hV hb9 c1
  have HGV : Hid (RefAt V g t cap R C f) := HG1.out.kept kV (fun e => e) (fun e => e)
  have c1 := HGV.out.c1
  obtain ⟨t0, t1, t2, t3⟩ := hT
  go_region_held3 (fun w' => w'.cell? ⟨g, 1, none⟩ = some (.int .i64 C) ∧ w'.cell? ⟨b9, 0, none⟩ = some (.int .i64 p) ∧ w'.cell? ⟨b9, 1, none⟩ = some (.int .i64 q)) (go_keep) (first | fail)
  rw [E1.out]
  have kVd : Kept0 w1 V.drew := kV.drew
  have HGd : Hid (RefAt V.drew g t cap R C f) := HG1.out.kept kVd (fun e => e) (fun e => e)
  have HXd : Hid (CelAt V.drew (w.heap.size + 1) x) := CelAt.kept ⟨x0, x1, x2, x3⟩ kVd (fun e => e)
  have HOd := Lib.hid (HO1.out.kept0 kVd)
  have HPd := Lib.hid (HP1.out.kept0 kVd)
  have KVd : Hid (Kept0 w V.drew) := K1.out.trans kVd
  clear t0 t1 t2 t3 c1 x0 x1 x2 x3 HG1 HGV HO1 HP1 K1 kV kVd
  obtain ⟨U, hU⟩ : ∃ U, U = V.drew := ⟨_, rfl⟩
  rw [← hU] at HGd HXd HOd HPd KVd ⊢
  clear hU
  have c2 := HGd.out.c2
  rw [← HNN.out] at c2
  obtain ⟨e0, e1, e2, e3⟩ := HGd.out.row.cell (k := k0) (by rw [← HNN.out]; exact hk0)
  have f0 := HGd.out.row.frozen (k0 * 4)
  have f1 := HGd.out.row.frozen (k0 * 4 + 1)
  have f2 := HGd.out.row.frozen (k0 * 4 + 2)
  have f3 := HGd.out.row.frozen (k0 * 4 + 3)
  obtain ⟨x0, x1, x2, x3⟩ := HXd.out
  have g1 : ¬ g = t := hne
  have g2 : ¬ t = g := fun e => hne e.symm
  have g5 : ¬ w.heap.size + 1 = t := by omega
  have g6 : ¬ t = w.heap.size + 1 := by omega
  go_upto_region 5 with fail
  go_region_held3 (fun w' => w'.cell? ⟨g, 2, none⟩ = some (Value.slice (some ⟨t, 0, none⟩) N cap) ∧ w'.cell? ⟨w.heap.size + 1, 0, none⟩ = some (.int .i32 x.g) ∧ w'.cell? ⟨w.heap.size + 1, 1, none⟩ = some (.int .i64 x.a) ∧ w'.cell? ⟨w.heap.size + 1, 2, none⟩ = some (.bool x.b) ∧ w'.cell? ⟨w.heap.size + 1, 3, none⟩ = some (.int .i64 x.m)) (go_keep) (first | fail)
  obtain ⟨V6, hV⟩ : ∃ V6, V6 = ((((U.setCell ⟨t, k0 * 4, none⟩ (.int .i32 x.g)).setCell ⟨t, k0 * 4 + 1, none⟩ (.int .i64 x.a)).setCell ⟨t, k0 * 4 + 2, none⟩ (.bool x.b)).setCell ⟨t, k0 * 4 + 3, none⟩ (.int .i64 x.m)).drew := ⟨_, rfl⟩
  have kV : Kept (· = t) U V6 := by rw [hV]; exact ((Kept.refl (· = t) U).setCel t (k0 * 4) (Or.inr rfl) x).drew
  have HG6 : Hid (RefAt V6 g t cap R C (upd f k0 x)) := HGd.out.withRow kV (by rw [hV]; exact CellsAt.drewN (HGd.out.row.set k0 x) 1)
  have HO6 := Lib.hid (HOd.out.kept kV (by omega))
  have HP6 := Lib.hid (HPd.out.kept kV (by omega))
  have K6 : Hid (Kept (· = t) w V6) := (Kept0.to KVd.out).trans kV
  rw [← hV]
  clear hV e0 e1 e2 e3 f0 f1 f2 f3 x0 x1 x2 x3 g1 g2 g5 g6 c2 kV HGd HXd HOd HPd KVd
  have c2 := HG6.out.c2
  rw [← HNN.out] at c2
  have n0 : ¬ ((N : Int) = 0) := by omega
  have n00 : ¬ (N = 0) := by omega
  have e1 : IntKind.i64.wrap ((k0 : Int) + 1) = (k0 : Int) + 1 := IntWalk.i64_in _ ⟨by omega, by omega⟩
  go_wp2_with fail
  rw [ES.out]
  refine (placeR g C k1 V6 HG6.out.c1 hC1 hC2 (by omega)).mono ?_
  rintro e w7 ⟨rfl, hk7⟩
  have HG7 := Lib.hid (HG6.out.kept hk7 (fun e => e) (fun e => e))
  go_wp2_with fail
  refine (HF2.out w7 HG7.out).mono ?_
  rintro e w8 ⟨rfl, hk8⟩
  have lo6 := HO6.out.lt
  have kk8 := hk7.trans hk8
  obtain ⟨b8, hb8⟩ : ∃ b8, b8 = w8.heap.size := ⟨_, rfl⟩
  obtain ⟨W8, hV⟩ : ∃ W8, W8 = w8.alloc (.cells #[.int .i64 p4q, .int .i64 q4q] 26) := ⟨_, rfl⟩
  have k8 : Kept0 V6 W8 := by rw [hV]; exact kk8.alloc _
  have hT8 : Two W8 b8 p4q q4q := by rw [hV, hb8]; exact Two.of (heap_new w8 _)
  have hle : V6.heap.size ≤ b8 := by rw [hb8]; exact kk8.size
  have HG8 := Lib.hid (HG6.out.kept k8 (fun e => e) (fun e => e))
  have HO8 := Lib.hid (HO6.out.kept0 k8)
  have HP8 := Lib.hid (HP6.out.kept0 k8)
  have K8 : Hid (Kept (· = t) w W8) := K6.out.trans (Kept0.to k8)
  have q2 : w.heap.size ≤ w.heap.size + 1 + 1 := by omega
  have l8 := hT8.lt
  have lo8 := HO8.out.lt
  clear hk7 hk8 kk8 HG7 HG6 HO6 HP6 K6 k8 c2 HF2
  cases vv
  · have HS8 : Hid (∀ w', Kept0 W8 w' → Calls Try.prog 39 #[.pointer (some ⟨g, 0, none⟩)] w' fun e w'' => e = .returned (pos R C) ∧ Kept0 w' w'') := fun w' k => sizeR g R C w' (kcell k HG8.out.c0) (kcell k HG8.out.c1)
    go_upto_region 8 with fail
    rw [← hV, ← hb8]
    clear hV hb8
    obtain ⟨p0, p1, p9, p3, p4, p5⟩ := HP8.out
    have n1 : ¬ w.heap.size = w.heap.size + 1 + 1 := by omega
    have n2 : ¬ w.heap.size + 1 + 1 = w.heap.size := by omega
    go_region_held3 (fun w' => w'.cell? ⟨w.heap.size, 0, none⟩ = some (.int .i64 r) ∧ w'.cell? ⟨w.heap.size, 1, none⟩ = some (.int .i64 c)) (go_keep)
      (first
        | (go_at_call 39; refine (HS8.out _ (Kept.refl _ W8).drew).mono ?_; rintro e y3 ⟨rfl, hk3⟩; have ky3 : Hid (Kept0 W8 y3) := (Kept.refl _ W8).drew.trans hk3; obtain ⟨v0, v1, v2, v3, v4, v5⟩ := HP8.out.kept0 ky3.out)
        | (go_at_call 38; refine (HN.out _).mono ?_; rintro e y4 ⟨rfl, hk4⟩; have ky4 : Hid (Kept0 W8 y4) := ky3.out.trans hk4; obtain ⟨v0, v1, v2, v3, v4, v5⟩ := HP8.out.kept0 ky4.out; obtain ⟨u0, u1, u2, u3, u4, u5⟩ := HO8.out.kept0 ky4.out))
    all_goals
      have HG9 := Lib.hid (HG8.out.kept ky4.out (fun e => e) (fun e => e))
      have K9 : Hid (Kept (· = t) w y4) := K8.out.trans (Kept0.to ky4.out)
      go_wp2_with fail
      have kend : Kept (· = w.heap.size + 1 + 1) y4 _ := (((Kept.refl (· = w.heap.size + 1 + 1) y4).setCell ⟨w.heap.size + 1 + 1, 0, none⟩ (Or.inr rfl) (.int .i64 (nr r R))).setCell ⟨w.heap.size + 1 + 1, 1, none⟩ (Or.inr rfl) (.int .i64 (nr c C))).setCell ⟨w.heap.size + 1 + 1, 2, none⟩ (Or.inr rfl) (.bool false)
      exact bodyPost_ret (v := .tuple #[place (nr r R) (nr c C) false, .int .i64 0]) (by simp [results, Try.results23, go_sem, u0, u1, u2]) rfl ⟨rfl, HG9.out.kept kend (by omega) (by omega), ((K9.out.setCell _ (Or.inl q2) _).setCell _ (Or.inl q2) _).setCell _ (Or.inl q2) _⟩
  · go_upto_region 9 with fail
    rw [← hV, ← hb8]
    clear hV hb8
    obtain ⟨t0, t1, t2, t3⟩ := hT8
    obtain ⟨o0, o1, o2, o3, o4, o5⟩ := HO8.out
    go_wp2_with fail
    have kend : Kept (· = w.heap.size + 1 + 1) W8 _ := (((Kept.refl (· = w.heap.size + 1 + 1) W8).setCell ⟨w.heap.size + 1 + 1, 0, none⟩ (Or.inr rfl) (.int .i64 p4q)).setCell ⟨w.heap.size + 1 + 1, 1, none⟩ (Or.inr rfl) (.int .i64 q4q)).setCell ⟨w.heap.size + 1 + 1, 2, none⟩ (Or.inr rfl) (.bool false)
    exact bodyPost_ret (v := .tuple #[place p4q q4q false, .int .i64 0]) (by simp [results, Try.results23, go_sem, o0, o1, o2]) rfl ⟨rfl, HG8.out.kept kend (by omega) (by omega), ((K8.out.setCell _ (Or.inl q2) _).setCell _ (Or.inl q2) _).setCell _ (Or.inl q2) _⟩

/-- What the document's Guard comes to. -/
theorem guardR_any (g t cap R C : Nat) (f : Nat → Cel) (r c : Int) (b : Bool) (x : Cel) (w : World) (hg : RefAt w g t cap R C f) (o : Option Nat) (ho : o = freeK (R * C) false (st R C r c) f) :
    Calls Try.prog 23 #[.pointer (some ⟨g, 0, none⟩), place r c b, x.v] w fun e w' => e = .returned (.tuple #[place (gdR R C f x r o) (gdC R C f x c o) false, .int .i64 (gdE o)]) ∧ RefAt w' g t cap R C (gdF f x o) ∧ Kept (· = t) w w' := by
  have hF := fun w' (h : RefAt w' g t cap R C f) => freeR g t cap R C f r c false w' h
  rw [← ho] at hF
  cases o with
  | none =>
    refine (guardR_none g t cap R C f r c _ _ b x w hg hF).mono ?_
    rintro e w' ⟨rfl, k⟩
    exact ⟨rfl, hg.kept k (fun e => e) (fun e => e), k.to⟩
  | some k =>
    obtain ⟨hk, _⟩ := freeK_some ho.symm
    have hst : st R C (rowOf C (stp (R * C) false k 1) : Int) (colOf C (stp (R * C) false k 1) : Int) = stp (R * C) false k 1 := by
      rw [st_in (there_row_col (stp_lt (by omega)) hg.C1), idx_row_col]
    have hF2 := fun w' (h : RefAt w' g t cap R C (upd f k x)) => freeR g t cap R C (upd f k x) (rowOf C (stp (R * C) false k 1) : Int) (colOf C (stp (R * C) false k 1) : Int) false w' h
    rw [hst] at hF2
    exact guardR_some g t cap R C k f r c _ _ b _ x w hg hk hF hF2

end Go.Proofs.Ytkdnjkcebfckiaa
