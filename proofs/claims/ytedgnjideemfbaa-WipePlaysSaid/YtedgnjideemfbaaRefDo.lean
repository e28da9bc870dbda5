/-
  The document's answer: Do, and the statements' own call of it.
-/
import Derived.Test.YtedgnjideemfbaaRefW
namespace Go.Proofs.Ytedgnjideemfbaa
open Go.RowKit

/-- What stands when d cells from the i-th on were turned. -/
structure Dos (w wr : World) (g t cap R C : Nat) (f : Nat → Cel) (o : Cel → Cel) (i d : Nat) (r c r' c' : Int) (x : Cel) : Prop where
  ref : RefAt wr g t cap R C (partT f o i d)
  b0 : wr.cell? ⟨w.heap.size, 0, none⟩ = some (.int .i64 r)
  b1 : wr.cell? ⟨w.heap.size, 1, none⟩ = some (.int .i64 c)
  b2 : wr.cell? ⟨w.heap.size, 2, none⟩ = some (.int .i64 r')
  b3 : wr.cell? ⟨w.heap.size, 3, none⟩ = some (.int .i64 c')
  cel : CelAt wr (w.heap.size + 1) x
  kept : Kept (· = t) w wr

theorem Dos.keep {w wr w' : World} {g t cap R C : Nat} {f : Nat → Cel} {o : Cel → Cel} {i d : Nat} {r c r' c' : Int} {x : Cel} (h : Dos w wr g t cap R C f o i d r c r' c' x) (k : Kept0 wr w') : Dos w w' g t cap R C f o i d r c r' c' x :=
  ⟨h.ref.kept k (fun e => e) (fun e => e), kcell k h.b0, kcell k h.b1, kcell k h.b2, kcell k h.b3, h.cel.kept k (fun e => e), h.kept.trans k.to⟩

theorem Dos.step {w wr w' : World} {g t cap R C : Nat} {f : Nat → Cel} {o : Cel → Cel} {i d : Nat} {r c r' c' : Int} {x : Cel} (h : Dos w wr g t cap R C f o i d r c r' c' x) (hr : RefAt w' g t cap R C (upd (partT f o i d) (i + d) (o (f (i + d))))) (k : Kept (· = t) wr w') (ht : t < w.heap.size) : Dos w w' g t cap R C f o i (d + 1) r c r' c' x :=
  ⟨hr.congr (fun q _ => partT_step f o i d q), kcellS k h.b0 (by omega), kcellS k h.b1 (by omega), kcellS k h.b2 (by omega), kcellS k h.b3 (by omega), h.cel.kept k (by omega), h.kept.trans k⟩

theorem Dos.same {w wr : World} {g t cap R C : Nat} {f : Nat → Cel} {o : Cel → Cel} {i d : Nat} {r c r' c' : Int} {x : Cel} (h : Dos w wr g t cap R C f o i d r c r' c' x) (e : o (f (i + d)) = f (i + d)) : Dos w wr g t cap R C f o i (d + 1) r c r' c' x :=
  ⟨h.ref.congr (fun q _ => by rw [← partT_step]; exact upd_self (by rw [e, partT_at]) q), h.b0, h.b1, h.b2, h.b3, h.cel, h.kept⟩

theorem kset4 {w : World} {b b' o : Nat} {u0 u1 u2 u3 v : Value} (hb : b' ≠ b) (h : w.cell? ⟨b', o, none⟩ = some v) : ((((w.setCell ⟨b, 0, none⟩ u0).setCell ⟨b, 1, none⟩ u1).setCell ⟨b, 2, none⟩ u2).setCell ⟨b, 3, none⟩ u3).cell? ⟨b', o, none⟩ = some v :=
  (((((Kept.set1 w b 0 u0).trans (Kept.set1 _ b 1 u1)).trans (Kept.set1 _ b 2 u2)).trans (Kept.set1 _ b 3 u3)).cell (World.block_lt_of_cell? w _ h) hb).trans h

set_option maxHeartbeats 4000000 in
set_option maxRecDepth 100000 in
theorem doR_ok (g t cap R C : Nat) (f : Nat → Cel) (r c r' c' : Int) (x : Cel) (how : Int) (b : Bool) (m : Nat) (w : World) (hg : RefAt w g t cap R C f) (h1 : There R C r c) (h2 : There R C r' c') (hm : idx C r' c' = idx C r c + m) :
    Calls Try.prog 27 #[.pointer (some ⟨g, 0, none⟩), .agg #[.int .i64 r, .int .i64 c, .int .i64 r', .int .i64 c'], x.v, .int .i64 how, .bool b] w fun e w' =>
      e = .returned (.tuple #[.int .i64 (cntT f (one b (fun y => turnedC how y x)) (idx C r c) (m + 1) : Int), .int .i64 0]) ∧ RefAt w' g t cap R C (partT f (one b (fun y => turnedC how y x)) (idx C r c) (m + 1)) ∧ Kept (· = t) w w' := by
  have hR2 := hg.R2
  have hC2 := hg.C2
  have hRC : R * C ≤ 65025 := Nat.mul_le_mul hR2 hC2
  have hlt2 := idx_lt h2
  have hE : Hid (wipeE R C r c r' c' = 0) := by
    show _ = _
    unfold wipeE
    rw [if_pos ⟨h1, h2⟩, if_neg (by omega)]
  have e1 := Lib.hid (wrap_idx64 h1 hR2 hC2)
  have e2 := Lib.hid (wrap_idx64 h2 hR2 hC2)
  have HG := Lib.hid hg
  have hgl := hg.lt
  have htl := hg.row.lt
  obtain ⟨i, hi⟩ : ∃ i, i = idx C r c := ⟨_, rfl⟩
  rw [← hi] at e1 hm
  rw [← hi]
  rw [hm] at e2 hlt2
  obtain ⟨o, ho⟩ : ∃ o, o = one b (fun y => turnedC how y x) := ⟨_, rfl⟩
  rw [← ho]
  have HO := Lib.hid ho
  have HT := Lib.hid (turnedR)
  clear hg h1 h2 hi hm ho
  go_enter Try.func27, Try.ntmps27
  go_wp2_with fail
  obtain ⟨w0, hw0⟩ : ∃ w0, w0 = (w.alloc (.cells #[.int .i64 r, .int .i64 c, .int .i64 r', .int .i64 c'] 74)).alloc (.cells #[.int .i32 x.g, .int .i64 x.a, .bool x.b, .int .i64 x.m] 38) := ⟨_, rfl⟩
  have k0 : Kept0 w w0 := by rw [hw0]; exact ((Kept.refl _ w).alloc _).alloc _
  have HD0 : Hid (Dos w w0 g t cap R C f o i 0 r c r' c' x) := ⟨(HG.out.kept k0 (fun e => e) (fun e => e)).congr (fun k _ => (if_neg (by omega)).symm), by rw [hw0]; simp [go_sem], by rw [hw0]; simp [go_sem], by rw [hw0]; simp [go_sem], by rw [hw0]; simp [go_sem], by
    rw [hw0]
    have := CelAt.new (w.alloc (.cells #[.int .i64 r, .int .i64 c, .int .i64 r', .int .i64 c'] 74)) x 38
    rwa [World.size_alloc] at this, k0.mono (fun _ _ e => e.elim)⟩
  rw [← hw0]
  clear hw0
  refine (wrongR g t cap R C f r c r' c' w0 (HG.out.kept k0 (fun e => e) (fun e => e))).mono ?_
  rw [hE.out]
  rintro e w1 ⟨rfl, hk1⟩
  have HD1 := Lib.hid (HD0.out.keep hk1)
  clear HD0 HG k0 hk1
  have a0 := HD1.out.b0
  have a1 := HD1.out.b1
  have a2 := HD1.out.ref.c1
  go_wp2_with fail
  go_quiet (fail)
  rw [e1.out]
  have HD2 := Lib.hid (HD1.out.keep (((Kept.refl (fun _ => False) w1)).drewN nq))
  generalize w1.drewN nq = w2 at *
  clear HD1 a0 a1 a2
  go_wp2_with fail
  go_loopw [13, 14, 15] (fun s13 s14 s15 wr => ∃ d : Nat, d ≤ m + 1 ∧ s13 = .int .i64 (cntT f o i d : Int) ∧ s14 = .int .i64 ((i + d : Nat) : Int) ∧ Hid (Dos w wr g t cap R C f o i d r c r' c' x)) (fun _ s14 _ _ => i + m + 1 - (intOf s14).toNat)
  case atStart => exact ⟨0, by omega, rfl, rfl, HD2⟩
  case round =>
    clear HD2
    obtain ⟨d, hd, rfl, rfl, HD⟩ := hrel
    have a0 := HD.out.b2
    have a1 := HD.out.b3
    have a2 := HD.out.ref.c1
    go_wp2_with fail
    go_quiet (fail)
    rw [e2.out]
    have HD3 := Lib.hid (HD.out.keep (((Kept.refl (fun _ => False) wr)).drewN nq))
    generalize wr.drewN nq = w3 at *
    clear HD a0 a1 a2
    by_cases hlt : d ≤ m
    · have hdl : decide (((i + d : Nat) : Int) ≤ ((i + m : Nat) : Int)) = true := by simp; omega
      have hcl := cntT_le f o i d
      have HC : Hid (cntT f o i (d + 1) = cntT f o i d + if o (f (i + d)) = f (i + d) then 0 else 1) := rfl
      have c2 := HD3.out.ref.c2
      have hkN : i + d < R * C := by omega
      obtain ⟨q0, q1, q2, q3⟩ := HD3.out.ref.row.cell hkN
      rw [partT_at] at q0 q1 q2 q3
      obtain ⟨y, hy⟩ : ∃ y, y = f (i + d) := ⟨_, rfl⟩
      rw [← hy] at q0 q1 q2 q3 HC
      have HY := Lib.hid hy
      clear hy
      obtain ⟨yg, ya, yb, ym⟩ := y
      simp only at q0 q1 q2 q3
      obtain ⟨z0, z1, z2, z3⟩ := HD3.out.cel
      generalize hq : cntT f o i d = q at *
      obtain ⟨k, hk⟩ : ∃ k, k = i + d := ⟨_, rfl⟩
      rw [← hk] at q0 q1 q2 q3 hkN hdl
      rw [← hk]
      have HQ := Lib.hid hq
      have HK := Lib.hid hk
      have hk2 : k ≤ 65025 := by omega
      have hd1 : d + 1 ≤ m + 1 := by omega
      obtain ⟨NN, hNN⟩ : ∃ NN, NN = R * C := ⟨_, rfl⟩
      rw [← hNN] at c2 hkN
      have HNN := Lib.hid hNN
      have l1 := Nat.ne_of_lt (World.block_lt_of_cell? w3 _ c2)
      have l2 := Nat.ne_of_lt (World.block_lt_of_cell? w3 _ q0)
      have l3 := Nat.ne_of_lt (World.block_lt_of_cell? w3 _ z0)
      have lt3 : t < w3.heap.size := World.block_lt_of_cell? w3 _ q0
      have lg3 : g < w3.heap.size := World.block_lt_of_cell? w3 _ c2
      have lgt : g ≠ t := HD3.out.ref.ne
      clear hq hk hlt hd hNN hlt2
      cases b
      · have HE : Hid (o ⟨yg, ya, yb, ym⟩ = turnedC how ⟨yg, ya, yb, ym⟩ x) := by show _ = _; rw [HO.out]; rfl
        obtain ⟨v, hv⟩ : ∃ v, v = turnedC how ⟨yg, ya, yb, ym⟩ x := ⟨_, rfl⟩
        have HT1 := Lib.hid (HT.out ⟨yg, ya, yb, ym⟩ x how)
        rw [← hv] at HT1 HE
        clear hv
        go_wp2_with fail
        go_region_held3 (fun w' => w'.cell? ⟨g, 2, none⟩ = some (.slice (some ⟨t, 0, none⟩) NN cap) ∧ w'.cell? ⟨t, k * 4, none⟩ = some (.int .i32 yg) ∧ w'.cell? ⟨t, k * 4 + 1, none⟩ = some (.int .i64 ya) ∧ w'.cell? ⟨t, k * 4 + 2, none⟩ = some (.bool yb) ∧ w'.cell? ⟨t, k * 4 + 3, none⟩ = some (.int .i64 ym) ∧ w'.cell? ⟨w.heap.size + 1, 0, none⟩ = some (.int .i32 x.g) ∧ w'.cell? ⟨w.heap.size + 1, 1, none⟩ = some (.int .i64 x.a) ∧ w'.cell? ⟨w.heap.size + 1, 2, none⟩ = some (.bool x.b) ∧ w'.cell? ⟨w.heap.size + 1, 3, none⟩ = some (.int .i64 x.m))
          (first
            | with_reducible exact ⟨kset4 (by assumption) (kcell kx c2), kset4 (by assumption) (kcell kx q0), kset4 (by assumption) (kcell kx q1), kset4 (by assumption) (kcell kx q2), kset4 (by assumption) (kcell kx q3), kset4 (by assumption) (kcell kx z0), kset4 (by assumption) (kcell kx z1), kset4 (by assumption) (kcell kx z2), kset4 (by assumption) (kcell kx z3)⟩
            | with_reducible exact ⟨kcell (kx.alloc _) c2, kcell (kx.alloc _) q0, kcell (kx.alloc _) q1, kcell (kx.alloc _) q2, kcell (kx.alloc _) q3, kcell (kx.alloc _) z0, kcell (kx.alloc _) z1, kcell (kx.alloc _) z2, kcell (kx.alloc _) z3⟩
            | with_reducible exact ⟨kcell kx c2, kcell kx q0, kcell kx q1, kcell kx q2, kcell kx q3, kcell kx z0, kcell kx z1, kcell kx z2, kcell kx z3⟩
            | with_reducible exact ⟨kcell ((Kept.refl _ w3).alloc _).drew c2, kcell ((Kept.refl _ w3).alloc _).drew q0, kcell ((Kept.refl _ w3).alloc _).drew q1, kcell ((Kept.refl _ w3).alloc _).drew q2, kcell ((Kept.refl _ w3).alloc _).drew q3, kcell ((Kept.refl _ w3).alloc _).drew z0, kcell ((Kept.refl _ w3).alloc _).drew z1, kcell ((Kept.refl _ w3).alloc _).drew z2, kcell ((Kept.refl _ w3).alloc _).drew z3⟩
            | with_reducible exact ⟨kcell (Kept.refl _ w3).drew c2, kcell (Kept.refl _ w3).drew q0, kcell (Kept.refl _ w3).drew q1, kcell (Kept.refl _ w3).drew q2, kcell (Kept.refl _ w3).drew q3, kcell (Kept.refl _ w3).drew z0, kcell (Kept.refl _ w3).drew z1, kcell (Kept.refl _ w3).drew z2, kcell (Kept.refl _ w3).drew z3⟩)
          (first
            | (go_at_call 42; refine (HT1.out _).mono ?_; rintro e w4 ⟨rfl, hk4⟩
               have kx : Kept0 w3 w4 := by first | exact (Kept.refl _ w3).drew.trans hk4 | exact ((Kept.refl _ w3).alloc _).drew.trans hk4
               have m1 := Nat.ne_of_lt (World.block_lt_of_cell? w4 _ (kcell kx c2))
               have m2 := Nat.ne_of_lt (World.block_lt_of_cell? w4 _ (kcell kx q0))
               have m3 := Nat.ne_of_lt (World.block_lt_of_cell? w4 _ (kcell kx z0))
               try have nn := CelW.kept (x := zc) (CelW.new w3 zc 38) (Kept.trans (Kept.refl _ _).drew hk4) (fun e => e)
               try (obtain ⟨⟨n0, n1, n2, n3⟩, n4, n5, n6, n7⟩ := nn)))
        · have hV : CelAt (w4.alloc (Obj.cells #[Value.int IntKind.i32 v.g, Value.int IntKind.i64 v.a, Value.bool v.b, Value.int IntKind.i64 v.m] 38)) w4.heap.size v := CelAt.new w4 v 38
          have kW : Kept0 w3 (w4.alloc (Obj.cells #[Value.int IntKind.i32 v.g, Value.int IntKind.i64 v.a, Value.bool v.b, Value.int IntKind.i64 v.m] 38)) := kx.alloc _
          have hge : w3.heap.size ≤ w4.heap.size := kx.size
          have hlt9 : w4.heap.size < (w4.alloc (Obj.cells #[Value.int IntKind.i32 v.g, Value.int IntKind.i64 v.a, Value.bool v.b, Value.int IntKind.i64 v.m] 38)).heap.size := by simp
          clear hk4 kx m1 m2 m3
          try clear hHeld
          generalize (w4.alloc (Obj.cells #[Value.int IntKind.i32 v.g, Value.int IntKind.i64 v.a, Value.bool v.b, Value.int IntKind.i64 v.m] 38)) = W at *
          generalize w4.heap.size = a0 at *
          have c2 := kcell kW c2
          have q0 := kcell kW q0
          have q1 := kcell kW q1
          have q2 := kcell kW q2
          have q3 := kcell kW q3
          obtain ⟨v0, v1, v2, v3⟩ := hV
          have HD4 := Lib.hid (HD3.out.keep kW)
          have b1 : ¬ t = a0 := by omega
          have b2 : ¬ a0 = t := by omega
          have b3 : ¬ t = g := by omega
          have b4 : ¬ g = t := by omega
          have heq := eq_cel v ⟨yg, ya, yb, ym⟩
          obtain ⟨D, hD⟩ : ∃ D, D = decide (v = ⟨yg, ya, yb, ym⟩) := ⟨_, rfl⟩
          rw [← hD] at heq
          have HDD := Lib.hid hD
          clear hD kW HD3
          go_wp2_with fail
          go_region_held3 (fun w' => w'.cell? ⟨g, 2, none⟩ = some (.slice (some ⟨t, 0, none⟩) NN cap) ∧ w'.cell? ⟨t, k * 4, none⟩ = some (.int .i32 yg) ∧ w'.cell? ⟨t, k * 4 + 1, none⟩ = some (.int .i64 ya) ∧ w'.cell? ⟨t, k * 4 + 2, none⟩ = some (.bool yb) ∧ w'.cell? ⟨t, k * 4 + 3, none⟩ = some (.int .i64 ym) ∧ w'.cell? ⟨a0, 0, none⟩ = some (.int .i32 v.g) ∧ w'.cell? ⟨a0, 1, none⟩ = some (.int .i64 v.a) ∧ w'.cell? ⟨a0, 2, none⟩ = some (.bool v.b) ∧ w'.cell? ⟨a0, 3, none⟩ = some (.int .i64 v.m)) (go_keep) (first | fail)
          have HD5 := Lib.hid (HD4.out.keep ((Kept.refl (fun _ => False) W).drew))
          have c2 : W.drew.cell? _ = _ := c2
          have q0 : W.drew.cell? _ = _ := q0
          have q1 : W.drew.cell? _ = _ := q1
          have q2 : W.drew.cell? _ = _ := q2
          have q3 : W.drew.cell? _ = _ := q3
          have v0 : W.drew.cell? _ = _ := v0
          have v1 : W.drew.cell? _ = _ := v1
          have v2 : W.drew.cell? _ = _ := v2
          have v3 : W.drew.cell? _ = _ := v3
          have f0 := HD5.out.ref.row.frozen (k * 4)
          have f1 := HD5.out.ref.row.frozen (k * 4 + 1)
          have f2 := HD5.out.ref.row.frozen (k * 4 + 2)
          have f3 := HD5.out.ref.row.frozen (k * 4 + 3)
          generalize W.drew = X at *
          have xt : t < X.heap.size := World.block_lt_of_cell? X _ q0
          have xg : g < X.heap.size := World.block_lt_of_cell? X _ c2
          have xa : a0 < X.heap.size := World.block_lt_of_cell? X _ v0
          clear HD4
          cases D
          all_goals
            have hnew : Hid (cntT f o i (d + 1) = if v = ⟨yg, ya, yb, ym⟩ then q else q + 1) := by
              show _ = _
              rw [HC.out, HE.out]
              split <;> rfl
            go_wp2_with fail
            go_region_held3 (fun w' => w'.cell? ⟨g, 2, none⟩ = some (.slice (some ⟨t, 0, none⟩) NN cap) ∧ w'.cell? ⟨a0, 0, none⟩ = some (.int .i32 v.g) ∧ w'.cell? ⟨a0, 1, none⟩ = some (.int .i64 v.a) ∧ w'.cell? ⟨a0, 2, none⟩ = some (.bool v.b) ∧ w'.cell? ⟨a0, 3, none⟩ = some (.int .i64 v.m)) (go_keep) (first | fail)
            go_wp2_with fail
            have hkk := HK.out
            have hfv : o (f (i + d)) = v := by rw [← HY.out]; exact HE.out
            have kZ := (Kept.refl (· = t) X).setCel t (k * 4) (Or.inr rfl) v
            have rZ := HD5.out.ref.withRow kZ (HD5.out.ref.row.set k v)
            rw [hkk, ← hfv] at rZ
            rw [hkk, ← hfv] at kZ
            refine ⟨⟨d + 1, hd1, congrArg (Value.int IntKind.i64) ?_, congrArg (Value.int IntKind.i64) (by omega), ?_⟩, by simp [intOf]; omega⟩
            · have hdd := HDD.out
              rw [hnew.out]
              first
                | (rw [if_pos (of_decide_eq_true hdd.symm)])
                | (rw [if_neg (of_decide_eq_false hdd.symm), w64 (by omega) (by omega)]; rfl)
            · rw [hkk, ← hfv]
              exact (HD5.out.step rZ kZ htl).keep ((Kept.refl _ _).drew)
        · have hV : CelAt ((((w4.setCell { block := w3.heap.size, off := 0 } (Value.int IntKind.i32 v.g)).setCell { block := w3.heap.size, off := 1 } (Value.int IntKind.i64 v.a)).setCell { block := w3.heap.size, off := 2 } (Value.bool v.b)).setCell { block := w3.heap.size, off := 3 } (Value.int IntKind.i64 v.m)) w3.heap.size v := (CelW.set (x := zc) ⟨⟨n0, n1, n2, n3⟩, n4, n5, n6, n7⟩ v).at0
          have kW : Kept0 w3 ((((w4.setCell { block := w3.heap.size, off := 0 } (Value.int IntKind.i32 v.g)).setCell { block := w3.heap.size, off := 1 } (Value.int IntKind.i64 v.a)).setCell { block := w3.heap.size, off := 2 } (Value.bool v.b)).setCell { block := w3.heap.size, off := 3 } (Value.int IntKind.i64 v.m)) := kx.setCel _ _ (Or.inl (Nat.le_refl _)) v
          have hge : w3.heap.size ≤ w3.heap.size := Nat.le_refl _
          clear hk4 kx m1 m2 m3 n0 n1 n2 n3 n4 n5 n6 n7
          generalize ((((w4.setCell { block := w3.heap.size, off := 0 } (Value.int IntKind.i32 v.g)).setCell { block := w3.heap.size, off := 1 } (Value.int IntKind.i64 v.a)).setCell { block := w3.heap.size, off := 2 } (Value.bool v.b)).setCell { block := w3.heap.size, off := 3 } (Value.int IntKind.i64 v.m)) = W at *
          have hge2 : Hid (w3.heap.size ≤ w3.heap.size) := Nat.le_refl _
          obtain ⟨a0, ha0⟩ : ∃ a0, a0 = w3.heap.size := ⟨_, rfl⟩
          rw [← ha0] at hV hge
          rw [← ha0]
          replace hge : w3.heap.size ≤ a0 := by omega
          clear ha0 hge2
          have c2 := kcell kW c2
          have q0 := kcell kW q0
          have q1 := kcell kW q1
          have q2 := kcell kW q2
          have q3 := kcell kW q3
          obtain ⟨v0, v1, v2, v3⟩ := hV
          have HD4 := Lib.hid (HD3.out.keep kW)
          have b1 : ¬ t = a0 := by omega
          have b2 : ¬ a0 = t := by omega
          have b3 : ¬ t = g := by omega
          have b4 : ¬ g = t := by omega
          have heq := eq_cel v ⟨yg, ya, yb, ym⟩
          obtain ⟨D, hD⟩ : ∃ D, D = decide (v = ⟨yg, ya, yb, ym⟩) := ⟨_, rfl⟩
          rw [← hD] at heq
          have HDD := Lib.hid hD
          clear hD kW HD3
          go_wp2_with fail
          go_region_held3 (fun w' => w'.cell? ⟨g, 2, none⟩ = some (.slice (some ⟨t, 0, none⟩) NN cap) ∧ w'.cell? ⟨t, k * 4, none⟩ = some (.int .i32 yg) ∧ w'.cell? ⟨t, k * 4 + 1, none⟩ = some (.int .i64 ya) ∧ w'.cell? ⟨t, k * 4 + 2, none⟩ = some (.bool yb) ∧ w'.cell? ⟨t, k * 4 + 3, none⟩ = some (.int .i64 ym) ∧ w'.cell? ⟨a0, 0, none⟩ = some (.int .i32 v.g) ∧ w'.cell? ⟨a0, 1, none⟩ = some (.int .i64 v.a) ∧ w'.cell? ⟨a0, 2, none⟩ = some (.bool v.b) ∧ w'.cell? ⟨a0, 3, none⟩ = some (.int .i64 v.m)) (go_keep) (first | fail)
          have HD5 := Lib.hid (HD4.out.keep ((Kept.refl (fun _ => False) W).drew))
          have c2 : W.drew.cell? _ = _ := c2
          have q0 : W.drew.cell? _ = _ := q0
          have q1 : W.drew.cell? _ = _ := q1
          have q2 : W.drew.cell? _ = _ := q2
          have q3 : W.drew.cell? _ = _ := q3
          have v0 : W.drew.cell? _ = _ := v0
          have v1 : W.drew.cell? _ = _ := v1
          have v2 : W.drew.cell? _ = _ := v2
          have v3 : W.drew.cell? _ = _ := v3
          have f0 := HD5.out.ref.row.frozen (k * 4)
          have f1 := HD5.out.ref.row.frozen (k * 4 + 1)
          have f2 := HD5.out.ref.row.frozen (k * 4 + 2)
          have f3 := HD5.out.ref.row.frozen (k * 4 + 3)
          generalize W.drew = X at *
          have xt : t < X.heap.size := World.block_lt_of_cell? X _ q0
          have xg : g < X.heap.size := World.block_lt_of_cell? X _ c2
          have xa : a0 < X.heap.size := World.block_lt_of_cell? X _ v0
          clear HD4
          cases D
          all_goals
            have hnew : Hid (cntT f o i (d + 1) = if v = ⟨yg, ya, yb, ym⟩ then q else q + 1) := by
              show _ = _
              rw [HC.out, HE.out]
              split <;> rfl
            go_wp2_with fail
            go_region_held3 (fun w' => w'.cell? ⟨g, 2, none⟩ = some (.slice (some ⟨t, 0, none⟩) NN cap) ∧ w'.cell? ⟨a0, 0, none⟩ = some (.int .i32 v.g) ∧ w'.cell? ⟨a0, 1, none⟩ = some (.int .i64 v.a) ∧ w'.cell? ⟨a0, 2, none⟩ = some (.bool v.b) ∧ w'.cell? ⟨a0, 3, none⟩ = some (.int .i64 v.m)) (go_keep) (first | fail)
            go_wp2_with fail
            have hkk := HK.out
            have hfv : o (f (i + d)) = v := by rw [← HY.out]; exact HE.out
            have kZ := (Kept.refl (· = t) X).setCel t (k * 4) (Or.inr rfl) v
            have rZ := HD5.out.ref.withRow kZ (HD5.out.ref.row.set k v)
            rw [hkk, ← hfv] at rZ
            rw [hkk, ← hfv] at kZ
            refine ⟨⟨d + 1, hd1, congrArg (Value.int IntKind.i64) ?_, congrArg (Value.int IntKind.i64) (by omega), ?_⟩, by simp [intOf]; omega⟩
            · have hdd := HDD.out
              rw [hnew.out]
              first
                | (rw [if_pos (of_decide_eq_true hdd.symm)])
                | (rw [if_neg (of_decide_eq_false hdd.symm), w64 (by omega) (by omega)]; rfl)
            · rw [hkk, ← hfv]
              exact (HD5.out.step rZ kZ htl).keep ((Kept.refl _ _).drew)
      · cases yb
        · have HE : Hid (o ⟨yg, ya, false, ym⟩ = turnedC how ⟨yg, ya, false, ym⟩ x) := by show _ = _; rw [HO.out]; rfl
          obtain ⟨v, hv⟩ : ∃ v, v = turnedC how ⟨yg, ya, false, ym⟩ x := ⟨_, rfl⟩
          have HT1 := Lib.hid (HT.out ⟨yg, ya, false, ym⟩ x how)
          rw [← hv] at HT1 HE
          clear hv
          go_wp2_with fail
          go_region_held3 (fun w' => w'.cell? ⟨g, 2, none⟩ = some (.slice (some ⟨t, 0, none⟩) NN cap) ∧ w'.cell? ⟨t, k * 4, none⟩ = some (.int .i32 yg) ∧ w'.cell? ⟨t, k * 4 + 1, none⟩ = some (.int .i64 ya) ∧ w'.cell? ⟨t, k * 4 + 2, none⟩ = some (.bool false) ∧ w'.cell? ⟨t, k * 4 + 3, none⟩ = some (.int .i64 ym) ∧ w'.cell? ⟨w.heap.size + 1, 0, none⟩ = some (.int .i32 x.g) ∧ w'.cell? ⟨w.heap.size + 1, 1, none⟩ = some (.int .i64 x.a) ∧ w'.cell? ⟨w.heap.size + 1, 2, none⟩ = some (.bool x.b) ∧ w'.cell? ⟨w.heap.size + 1, 3, none⟩ = some (.int .i64 x.m))
            (first
              | with_reducible exact ⟨kset4 (by assumption) (kcell kx c2), kset4 (by assumption) (kcell kx q0), kset4 (by assumption) (kcell kx q1), kset4 (by assumption) (kcell kx q2), kset4 (by assumption) (kcell kx q3), kset4 (by assumption) (kcell kx z0), kset4 (by assumption) (kcell kx z1), kset4 (by assumption) (kcell kx z2), kset4 (by assumption) (kcell kx z3)⟩
              | with_reducible exact ⟨kcell (kx.alloc _) c2, kcell (kx.alloc _) q0, kcell (kx.alloc _) q1, kcell (kx.alloc _) q2, kcell (kx.alloc _) q3, kcell (kx.alloc _) z0, kcell (kx.alloc _) z1, kcell (kx.alloc _) z2, kcell (kx.alloc _) z3⟩
              | with_reducible exact ⟨kcell kx c2, kcell kx q0, kcell kx q1, kcell kx q2, kcell kx q3, kcell kx z0, kcell kx z1, kcell kx z2, kcell kx z3⟩
              | with_reducible exact ⟨kcell ((Kept.refl _ w3).alloc _).drew c2, kcell ((Kept.refl _ w3).alloc _).drew q0, kcell ((Kept.refl _ w3).alloc _).drew q1, kcell ((Kept.refl _ w3).alloc _).drew q2, kcell ((Kept.refl _ w3).alloc _).drew q3, kcell ((Kept.refl _ w3).alloc _).drew z0, kcell ((Kept.refl _ w3).alloc _).drew z1, kcell ((Kept.refl _ w3).alloc _).drew z2, kcell ((Kept.refl _ w3).alloc _).drew z3⟩
              | with_reducible exact ⟨kcell (Kept.refl _ w3).drew c2, kcell (Kept.refl _ w3).drew q0, kcell (Kept.refl _ w3).drew q1, kcell (Kept.refl _ w3).drew q2, kcell (Kept.refl _ w3).drew q3, kcell (Kept.refl _ w3).drew z0, kcell (Kept.refl _ w3).drew z1, kcell (Kept.refl _ w3).drew z2, kcell (Kept.refl _ w3).drew z3⟩)
            (first
              | (go_at_call 42; refine (HT1.out _).mono ?_; rintro e w4 ⟨rfl, hk4⟩
                 have kx : Kept0 w3 w4 := by first | exact (Kept.refl _ w3).drew.trans hk4 | exact ((Kept.refl _ w3).alloc _).drew.trans hk4
                 have m1 := Nat.ne_of_lt (World.block_lt_of_cell? w4 _ (kcell kx c2))
                 have m2 := Nat.ne_of_lt (World.block_lt_of_cell? w4 _ (kcell kx q0))
                 have m3 := Nat.ne_of_lt (World.block_lt_of_cell? w4 _ (kcell kx z0))
                 try have nn := CelW.kept (x := zc) (CelW.new w3 zc 38) (Kept.trans (Kept.refl _ _).drew hk4) (fun e => e)
                 try (obtain ⟨⟨n0, n1, n2, n3⟩, n4, n5, n6, n7⟩ := nn)))
          · have hV : CelAt (w4.alloc (Obj.cells #[Value.int IntKind.i32 v.g, Value.int IntKind.i64 v.a, Value.bool v.b, Value.int IntKind.i64 v.m] 38)) w4.heap.size v := CelAt.new w4 v 38
            have kW : Kept0 w3 (w4.alloc (Obj.cells #[Value.int IntKind.i32 v.g, Value.int IntKind.i64 v.a, Value.bool v.b, Value.int IntKind.i64 v.m] 38)) := kx.alloc _
            have hge : w3.heap.size ≤ w4.heap.size := kx.size
            have hlt9 : w4.heap.size < (w4.alloc (Obj.cells #[Value.int IntKind.i32 v.g, Value.int IntKind.i64 v.a, Value.bool v.b, Value.int IntKind.i64 v.m] 38)).heap.size := by simp
            clear hk4 kx m1 m2 m3
            try clear hHeld
            generalize (w4.alloc (Obj.cells #[Value.int IntKind.i32 v.g, Value.int IntKind.i64 v.a, Value.bool v.b, Value.int IntKind.i64 v.m] 38)) = W at *
            generalize w4.heap.size = a0 at *
            have c2 := kcell kW c2
            have q0 := kcell kW q0
            have q1 := kcell kW q1
            have q2 := kcell kW q2
            have q3 := kcell kW q3
            obtain ⟨v0, v1, v2, v3⟩ := hV
            have HD4 := Lib.hid (HD3.out.keep kW)
            have b1 : ¬ t = a0 := by omega
            have b2 : ¬ a0 = t := by omega
            have b3 : ¬ t = g := by omega
            have b4 : ¬ g = t := by omega
            have heq := eq_cel v ⟨yg, ya, false, ym⟩
            obtain ⟨D, hD⟩ : ∃ D, D = decide (v = ⟨yg, ya, false, ym⟩) := ⟨_, rfl⟩
            rw [← hD] at heq
            have HDD := Lib.hid hD
            clear hD kW HD3
            go_wp2_with fail
            go_region_held3 (fun w' => w'.cell? ⟨g, 2, none⟩ = some (.slice (some ⟨t, 0, none⟩) NN cap) ∧ w'.cell? ⟨t, k * 4, none⟩ = some (.int .i32 yg) ∧ w'.cell? ⟨t, k * 4 + 1, none⟩ = some (.int .i64 ya) ∧ w'.cell? ⟨t, k * 4 + 2, none⟩ = some (.bool false) ∧ w'.cell? ⟨t, k * 4 + 3, none⟩ = some (.int .i64 ym) ∧ w'.cell? ⟨a0, 0, none⟩ = some (.int .i32 v.g) ∧ w'.cell? ⟨a0, 1, none⟩ = some (.int .i64 v.a) ∧ w'.cell? ⟨a0, 2, none⟩ = some (.bool v.b) ∧ w'.cell? ⟨a0, 3, none⟩ = some (.int .i64 v.m)) (go_keep) (first | fail)
            have HD5 := Lib.hid (HD4.out.keep ((Kept.refl (fun _ => False) W).drew))
            have c2 : W.drew.cell? _ = _ := c2
            have q0 : W.drew.cell? _ = _ := q0
            have q1 : W.drew.cell? _ = _ := q1
            have q2 : W.drew.cell? _ = _ := q2
            have q3 : W.drew.cell? _ = _ := q3
            have v0 : W.drew.cell? _ = _ := v0
            have v1 : W.drew.cell? _ = _ := v1
            have v2 : W.drew.cell? _ = _ := v2
            have v3 : W.drew.cell? _ = _ := v3
            have f0 := HD5.out.ref.row.frozen (k * 4)
            have f1 := HD5.out.ref.row.frozen (k * 4 + 1)
            have f2 := HD5.out.ref.row.frozen (k * 4 + 2)
            have f3 := HD5.out.ref.row.frozen (k * 4 + 3)
            generalize W.drew = X at *
            have xt : t < X.heap.size := World.block_lt_of_cell? X _ q0
            have xg : g < X.heap.size := World.block_lt_of_cell? X _ c2
            have xa : a0 < X.heap.size := World.block_lt_of_cell? X _ v0
            clear HD4
            cases D
            all_goals
              have hnew : Hid (cntT f o i (d + 1) = if v = ⟨yg, ya, false, ym⟩ then q else q + 1) := by
                show _ = _
                rw [HC.out, HE.out]
                split <;> rfl
              go_wp2_with fail
              go_region_held3 (fun w' => w'.cell? ⟨g, 2, none⟩ = some (.slice (some ⟨t, 0, none⟩) NN cap) ∧ w'.cell? ⟨a0, 0, none⟩ = some (.int .i32 v.g) ∧ w'.cell? ⟨a0, 1, none⟩ = some (.int .i64 v.a) ∧ w'.cell? ⟨a0, 2, none⟩ = some (.bool v.b) ∧ w'.cell? ⟨a0, 3, none⟩ = some (.int .i64 v.m)) (go_keep) (first | fail)
              go_wp2_with fail
              have hkk := HK.out
              have hfv : o (f (i + d)) = v := by rw [← HY.out]; exact HE.out
              have kZ := (Kept.refl (· = t) X).setCel t (k * 4) (Or.inr rfl) v
              have rZ := HD5.out.ref.withRow kZ (HD5.out.ref.row.set k v)
              rw [hkk, ← hfv] at rZ
              rw [hkk, ← hfv] at kZ
              refine ⟨⟨d + 1, hd1, congrArg (Value.int IntKind.i64) ?_, congrArg (Value.int IntKind.i64) (by omega), ?_⟩, by simp [intOf]; omega⟩
              · have hdd := HDD.out
                rw [hnew.out]
                first
                  | (rw [if_pos (of_decide_eq_true hdd.symm)])
                  | (rw [if_neg (of_decide_eq_false hdd.symm), w64 (by omega) (by omega)]; rfl)
              · rw [hkk, ← hfv]
                exact (HD5.out.step rZ kZ htl).keep ((Kept.refl _ _).drew)
          · have hV : CelAt ((((w4.setCell { block := w3.heap.size, off := 0 } (Value.int IntKind.i32 v.g)).setCell { block := w3.heap.size, off := 1 } (Value.int IntKind.i64 v.a)).setCell { block := w3.heap.size, off := 2 } (Value.bool v.b)).setCell { block := w3.heap.size, off := 3 } (Value.int IntKind.i64 v.m)) w3.heap.size v := (CelW.set (x := zc) ⟨⟨n0, n1, n2, n3⟩, n4, n5, n6, n7⟩ v).at0
            have kW : Kept0 w3 ((((w4.setCell { block := w3.heap.size, off := 0 } (Value.int IntKind.i32 v.g)).setCell { block := w3.heap.size, off := 1 } (Value.int IntKind.i64 v.a)).setCell { block := w3.heap.size, off := 2 } (Value.bool v.b)).setCell { block := w3.heap.size, off := 3 } (Value.int IntKind.i64 v.m)) := kx.setCel _ _ (Or.inl (Nat.le_refl _)) v
            have hge : w3.heap.size ≤ w3.heap.size := Nat.le_refl _
            clear hk4 kx m1 m2 m3 n0 n1 n2 n3 n4 n5 n6 n7
            generalize ((((w4.setCell { block := w3.heap.size, off := 0 } (Value.int IntKind.i32 v.g)).setCell { block := w3.heap.size, off := 1 } (Value.int IntKind.i64 v.a)).setCell { block := w3.heap.size, off := 2 } (Value.bool v.b)).setCell { block := w3.heap.size, off := 3 } (Value.int IntKind.i64 v.m)) = W at *
            have hge2 : Hid (w3.heap.size ≤ w3.heap.size) := Nat.le_refl _
            obtain ⟨a0, ha0⟩ : ∃ a0, a0 = w3.heap.size := ⟨_, rfl⟩
            rw [← ha0] at hV hge
            rw [← ha0]
            replace hge : w3.heap.size ≤ a0 := by omega
            clear ha0 hge2
            have c2 := kcell kW c2
            have q0 := kcell kW q0
            have q1 := kcell kW q1
            have q2 := kcell kW q2
            have q3 := kcell kW q3
            obtain ⟨v0, v1, v2, v3⟩ := hV
            have HD4 := Lib.hid (HD3.out.keep kW)
            have b1 : ¬ t = a0 := by omega
            have b2 : ¬ a0 = t := by omega
            have b3 : ¬ t = g := by omega
            have b4 : ¬ g = t := by omega
            have heq := eq_cel v ⟨yg, ya, false, ym⟩
            obtain ⟨D, hD⟩ : ∃ D, D = decide (v = ⟨yg, ya, false, ym⟩) := ⟨_, rfl⟩
            rw [← hD] at heq
            have HDD := Lib.hid hD
            clear hD kW HD3
            go_wp2_with fail
            go_region_held3 (fun w' => w'.cell? ⟨g, 2, none⟩ = some (.slice (some ⟨t, 0, none⟩) NN cap) ∧ w'.cell? ⟨t, k * 4, none⟩ = some (.int .i32 yg) ∧ w'.cell? ⟨t, k * 4 + 1, none⟩ = some (.int .i64 ya) ∧ w'.cell? ⟨t, k * 4 + 2, none⟩ = some (.bool false) ∧ w'.cell? ⟨t, k * 4 + 3, none⟩ = some (.int .i64 ym) ∧ w'.cell? ⟨a0, 0, none⟩ = some (.int .i32 v.g) ∧ w'.cell? ⟨a0, 1, none⟩ = some (.int .i64 v.a) ∧ w'.cell? ⟨a0, 2, none⟩ = some (.bool v.b) ∧ w'.cell? ⟨a0, 3, none⟩ = some (.int .i64 v.m)) (go_keep) (first | fail)
            have HD5 := Lib.hid (HD4.out.keep ((Kept.refl (fun _ => False) W).drew))
            have c2 : W.drew.cell? _ = _ := c2
            have q0 : W.drew.cell? _ = _ := q0
            have q1 : W.drew.cell? _ = _ := q1
            have q2 : W.drew.cell? _ = _ := q2
            have q3 : W.drew.cell? _ = _ := q3
            have v0 : W.drew.cell? _ = _ := v0
            have v1 : W.drew.cell? _ = _ := v1
            have v2 : W.drew.cell? _ = _ := v2
            have v3 : W.drew.cell? _ = _ := v3
            have f0 := HD5.out.ref.row.frozen (k * 4)
            have f1 := HD5.out.ref.row.frozen (k * 4 + 1)
            have f2 := HD5.out.ref.row.frozen (k * 4 + 2)
            have f3 := HD5.out.ref.row.frozen (k * 4 + 3)
            generalize W.drew = X at *
            have xt : t < X.heap.size := World.block_lt_of_cell? X _ q0
            have xg : g < X.heap.size := World.block_lt_of_cell? X _ c2
            have xa : a0 < X.heap.size := World.block_lt_of_cell? X _ v0
            clear HD4
            cases D
            all_goals
              have hnew : Hid (cntT f o i (d + 1) = if v = ⟨yg, ya, false, ym⟩ then q else q + 1) := by
                show _ = _
                rw [HC.out, HE.out]
                split <;> rfl
              go_wp2_with fail
              go_region_held3 (fun w' => w'.cell? ⟨g, 2, none⟩ = some (.slice (some ⟨t, 0, none⟩) NN cap) ∧ w'.cell? ⟨a0, 0, none⟩ = some (.int .i32 v.g) ∧ w'.cell? ⟨a0, 1, none⟩ = some (.int .i64 v.a) ∧ w'.cell? ⟨a0, 2, none⟩ = some (.bool v.b) ∧ w'.cell? ⟨a0, 3, none⟩ = some (.int .i64 v.m)) (go_keep) (first | fail)
              go_wp2_with fail
              have hkk := HK.out
              have hfv : o (f (i + d)) = v := by rw [← HY.out]; exact HE.out
              have kZ := (Kept.refl (· = t) X).setCel t (k * 4) (Or.inr rfl) v
              have rZ := HD5.out.ref.withRow kZ (HD5.out.ref.row.set k v)
              rw [hkk, ← hfv] at rZ
              rw [hkk, ← hfv] at kZ
              refine ⟨⟨d + 1, hd1, congrArg (Value.int IntKind.i64) ?_, congrArg (Value.int IntKind.i64) (by omega), ?_⟩, by simp [intOf]; omega⟩
              · have hdd := HDD.out
                rw [hnew.out]
                first
                  | (rw [if_pos (of_decide_eq_true hdd.symm)])
                  | (rw [if_neg (of_decide_eq_false hdd.symm), w64 (by omega) (by omega)]; rfl)
              · rw [hkk, ← hfv]
                exact (HD5.out.step rZ kZ htl).keep ((Kept.refl _ _).drew)
        · have HE : Hid (o ⟨yg, ya, true, ym⟩ = ⟨yg, ya, true, ym⟩) := by show _ = _; rw [HO.out]; rfl
          have hnew : Hid (cntT f o i (d + 1) = q) := by
            show _ = _
            rw [HC.out, HE.out, if_pos rfl]
            rfl
          go_wp2_with fail
          have hkk := HK.out
          have hfv : o (f (i + d)) = f (i + d) := by rw [← HY.out]; exact HE.out
          refine ⟨⟨d + 1, hd1, congrArg (Value.int IntKind.i64) ?_, congrArg (Value.int IntKind.i64) (by omega), ?_⟩, by simp [intOf]; omega⟩
          · rw [hnew.out]
          · exact HD3.out.same hfv
    · obtain rfl : d = m + 1 := by omega
      have hdl : decide (((i + (m + 1) : Nat) : Int) ≤ ((i + m : Nat) : Int)) = false := by simp; omega
      go_wp2_with fail
      go_ret2
      exact ⟨rfl, HD3.out.ref, HD3.out.kept⟩

set_option maxHeartbeats 1000000 in
set_option maxRecDepth 100000 in
theorem doR_bad (g t cap R C : Nat) (f : Nat → Cel) (r c r' c' : Int) (x : Cel) (how : Int) (b : Bool) (w : World) (hg : RefAt w g t cap R C f) (hE : ¬ wipeE R C r c r' c' = 0) :
    Calls Try.prog 27 #[.pointer (some ⟨g, 0, none⟩), .agg #[.int .i64 r, .int .i64 c, .int .i64 r', .int .i64 c'], x.v, .int .i64 how, .bool b] w fun e w' => e = .returned (.tuple #[.int .i64 0, .int .i64 (wipeE R C r c r' c')]) ∧ Kept0 w w' := by
  have HW : Hid (∀ w', Kept0 w w' → Calls Try.prog 41 #[.pointer (some ⟨g, 0, none⟩), .agg #[.int .i64 r, .int .i64 c], .agg #[.int .i64 r', .int .i64 c']] w' fun e w'' => e = .returned (.int .i64 (wipeE R C r c r' c')) ∧ Kept0 w' w'') := fun w' k => wrongR g t cap R C f r c r' c' w' (hg.kept k (fun e => e) (fun e => e))
  generalize wipeE R C r c r' c' = E at *
  clear hg
  go_enter Try.func27, Try.ntmps27
  go_wp2_with fail
  refine (HW.out _ (((Kept.refl _ w).alloc _).alloc _)).mono ?_
  rintro e w1 ⟨rfl, hk1⟩
  have kk : Kept0 w w1 := (((Kept.refl _ w).alloc _).alloc _).trans hk1
  clear hk1
  go_wp2_with fail
  go_ret2
  exact ⟨rfl, kk⟩

/-- What the document's answer leaves: cells that are turned in their row, nothing else. -/
abbrev TurnsR (g t cap R C : Nat) (f : Nat → Cel) (o : Cel → Cel) (r c r' c' : Int) (w : World) (e : Ending) (w' : World) : Prop :=
  e = .returned (.tuple #[.int .i64 (wipeN R C f o r c r' c' : Int), .int .i64 (wipeE R C r c r' c')]) ∧ RefAt w' g t cap R C (wipeF R C f o r c r' c') ∧ Kept (· = t) w w'

theorem doR (g t cap R C : Nat) (f : Nat → Cel) (r c r' c' : Int) (x : Cel) (how : Int) (b : Bool) (w : World) (hg : RefAt w g t cap R C f) :
    Calls Try.prog 27 #[.pointer (some ⟨g, 0, none⟩), .agg #[.int .i64 r, .int .i64 c, .int .i64 r', .int .i64 c'], x.v, .int .i64 how, .bool b] w (TurnsR g t cap R C f (one b (fun y => turnedC how y x)) r c r' c' w) := by
  by_cases hE : wipeE R C r c r' c' = 0
  · obtain ⟨h1, h2, h3⟩ := wipeE_zero hE
    obtain ⟨m, hm⟩ : ∃ m, idx C r' c' = idx C r c + m := ⟨idx C r' c' - idx C r c, by omega⟩
    have := doR_ok g t cap R C f r c r' c' x how b m w hg h1 h2 hm
    unfold TurnsR wipeN wipeF
    rw [if_pos hE, if_pos hE, hE, show idx C r' c' + 1 - idx C r c = m + 1 by omega]
    exact this
  · unfold TurnsR wipeN wipeF
    rw [if_neg hE, if_neg hE]
    refine (doR_bad g t cap R C f r c r' c' x how b w hg hE).mono ?_
    rintro e w' ⟨rfl, k⟩
    exact ⟨rfl, hg.kept k (fun e => e) (fun e => e), k.to⟩

set_option maxHeartbeats 1000000 in
theorem asked_any (g t cap R C : Nat) (f : Nat → Cel) (ask r c r' c' : Int) (x : Cel) (b : Bool) (w : World) (hg : RefAt w g t cap R C f) :
    Calls Try.prog 13 #[.pointer (some ⟨g, 0, none⟩), opV ask r c r' c' x b] w (TurnsR g t cap R C f (oOf ask x b) r c r' c' w) := by
  have H : Hid (∀ (how : Int) (b : Bool) (w' : World), Kept0 w w' → Calls Try.prog 27 #[.pointer (some ⟨g, 0, none⟩), .agg #[.int .i64 r, .int .i64 c, .int .i64 r', .int .i64 c'], x.v, .int .i64 how, .bool b] w' (TurnsR g t cap R C f (one b (fun y => turnedC how y x)) r c r' c' w')) := fun how b w' k => doR g t cap R C f r c r' c' x how b w' (hg.kept k (fun e => e) (fun e => e))
  have kk : Kept0 w (w.alloc (.cells #[.int .i64 ask, .int .i64 r, .int .i64 c, .int .i64 r', .int .i64 c', .int .i32 x.g, .int .i64 x.a, .bool x.b, .int .i64 x.m, .bool b] 40)) := (Kept.refl _ w).alloc _
  have KK := Lib.hid kk
  obtain ⟨o, ho⟩ : ∃ o, o = oOf ask x b := ⟨_, rfl⟩
  rw [← ho]
  have HO := Lib.hid ho
  clear kk hg ho
  by_cases a0 : ask = 0
  · have HE : Hid (one b (fun y => turnedC 0 y x) = o) := by show _ = _; rw [HO.out]; unfold oOf; rw [if_pos a0]; rfl
    subst a0
    clear HO
    go_enter Try.func13, Try.ntmps13
    go_wp2_with fail
    refine (H.out _ _ _ KK.out).mono ?_
    rw [HE.out]
    rintro e w1 ⟨rfl, hr, k1⟩
    have HR := Lib.hid hr
    have HK := Lib.hid (show Kept (· = t) w w1 from KK.out.to.trans k1)
    clear hr k1
    go_wp2_with fail
    go_ret2
    exact ⟨rfl, HR.out, HK.out⟩
  · by_cases a1 : ask = 1
    · have HE : Hid (one b (fun y => turnedC 1 y x) = o) := by show _ = _; rw [HO.out]; unfold oOf; rw [if_neg a0, if_pos a1]; rfl
      subst a1
      clear HO
      go_enter Try.func13, Try.ntmps13
      go_wp2_with fail
      refine (H.out _ _ _ KK.out).mono ?_
      rw [HE.out]
      rintro e w1 ⟨rfl, hr, k1⟩
      have HR := Lib.hid hr
      have HK := Lib.hid (show Kept (· = t) w w1 from KK.out.to.trans k1)
      clear hr k1
      go_wp2_with fail
      go_ret2
      exact ⟨rfl, HR.out, HK.out⟩
    · have HE : Hid (one false (fun y => turnedC 2 y x) = o) := by show _ = _; rw [HO.out]; unfold oOf; rw [if_neg a0, if_neg a1]; rfl
      have d0 : (ask != 0) = true := by simp [a0]
      have d1 : (ask != 1) = true := by simp [a1]
      clear HO
      go_enter Try.func13, Try.ntmps13
      go_wp2_with fail
      refine (H.out _ _ _ KK.out).mono ?_
      rw [HE.out]
      rintro e w1 ⟨rfl, hr, k1⟩
      have HR := Lib.hid hr
      have HK := Lib.hid (show Kept (· = t) w w1 from KK.out.to.trans k1)
      clear hr k1
      go_wp2_with fail
      go_ret2
      exact ⟨rfl, HR.out, HK.out⟩
end Go.Proofs.Ytedgnjideemfbaa
