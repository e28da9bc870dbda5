/-
  The answer of the document: There, At.
  The document's answer: Wrong, Turned, Do.
  The document's answer: Do, and the statements' own call of it.
-/
import Derived.Test.YtkpfhgfdfndliaaGreatDoorLvl
import Derived.Deep.AppendLies
namespace Go.Proofs.YtkpfhgfdfndliaaGreatDoor
namespace Wp
open Go.RowKit


namespace RefAt
variable {w : World} {g t cap R C : Nat} {f : Nat → Cel}
end RefAt

def thereB (R C : Nat) (r c : Int) : Bool := decide (0 ≤ r ∧ r < R ∧ 0 ≤ c ∧ c < C)
theorem thereB_yes {R C : Nat} {r c : Int} (h : There R C r c) : thereB R C r c = true := decide_eq_true h
theorem thereB_no {R C : Nat} {r c : Int} (h : ¬ There R C r c) : thereB R C r c = false := decide_eq_false h

set_option maxHeartbeats 400000 in
theorem thereR (g : Nat) (R C : Nat) (r c : Int) (w : World) (c0 : w.cell? ⟨g, 0, none⟩ = some (.int .i64 R)) (c1 : w.cell? ⟨g, 1, none⟩ = some (.int .i64 C)) :
    Calls Tryz.prog 52 #[.pointer (some ⟨g, 0, none⟩), .agg #[.int .i64 r, .int .i64 c]] w fun e w' => e = .returned (.bool (thereB R C r c)) ∧ Kept0 w w' := by
  have hg := World.block_lt_of_cell? w _ c0
  obtain ⟨B, hB⟩ : ∃ B, B = thereB R C r c := ⟨_, rfl⟩
  rw [← hB]
  have HB := Lib.hid hB
  clear hB
  by_cases h1 : 0 ≤ r
  rotate_left
  · have d1 : decide (0 ≤ r) = false := by simpa using h1
    go_enter Tryz.func52, Tryz.ntmps52
    go_wp2
    go_quiet (fail)
    go_wp2
    go_ret
    refine ⟨ret_bool ?_, ((Kept.refl _ w).alloc _).drewN _⟩
    rw [HB.out]; unfold thereB; simp [*]
  by_cases h2 : r < R
  rotate_left
  · have d2 : decide (r < R) = false := by simpa using h2
    go_enter Tryz.func52, Tryz.ntmps52
    go_wp2
    go_quiet (fail)
    go_wp2
    go_ret
    refine ⟨ret_bool ?_, ((Kept.refl _ w).alloc _).drewN _⟩
    rw [HB.out]; unfold thereB; simp [*]
  by_cases h3 : 0 ≤ c
  rotate_left
  · have d3 : decide (0 ≤ c) = false := by simpa using h3
    go_enter Tryz.func52, Tryz.ntmps52
    go_wp2
    go_quiet (fail)
    go_wp2
    go_ret
    refine ⟨ret_bool ?_, ((Kept.refl _ w).alloc _).drewN _⟩
    rw [HB.out]; unfold thereB; simp [*]
  by_cases h4 : c < C
  rotate_left
  · have d4 : decide (c < C) = false := by simpa using h4
    go_enter Tryz.func52, Tryz.ntmps52
    go_wp2
    go_quiet (fail)
    go_wp2
    go_ret
    refine ⟨ret_bool ?_, ((Kept.refl _ w).alloc _).drewN _⟩
    rw [HB.out]; unfold thereB; simp [*]
  go_enter Tryz.func52, Tryz.ntmps52
  go_wp2
  go_quiet (fail)
  go_wp2
  go_ret
  refine ⟨ret_bool ?_, ((Kept.refl _ w).alloc _).drewN _⟩
  rw [HB.out]; unfold thereB; simp [*]



end Wp
end Go.Proofs.YtkpfhgfdfndliaaGreatDoor

namespace Go.Proofs.YtkpfhgfdfndliaaGreatDoor
namespace Wp
open Go.RowKit

theorem wrap_idx64 {R C : Nat} {r c : Int} (h : There R C r c) (hR : R ≤ 255) (hC : C ≤ 255) : wrap64 (wrap64 (r * (C : Int)) + c) = (idx C r c : Int) := by
  have := wrap_idx h hR hC
  rwa [IntWalk.i64_left, IntWalk.i64_left] at this

set_option maxHeartbeats 1000000 in
theorem wrongR (g t cap R C : Nat) (f : Nat → Cel) (r c r' c' : Int) (w : World) (hg : RefAt w g t cap R C f) :
    Calls Tryz.prog 150 #[.pointer (some ⟨g, 0, none⟩), .agg #[.int .i64 r, .int .i64 c], .agg #[.int .i64 r', .int .i64 c']] w fun e w' => e = .returned (.int .i64 (wipeE R C r c r' c')) ∧ Kept0 w w' := by
  have hR2 := hg.R2
  have hC2 := hg.C2
  obtain ⟨V, hV⟩ : ∃ V, V = wipeE R C r c r' c' := ⟨_, rfl⟩
  rw [← hV]
  have HV := Lib.hid hV
  have HG := Lib.hid hg
  clear hV hg
  go_enter Tryz.func150, Tryz.ntmps150
  go_wp2_with fail
  refine (thereR g R C r c _ (kcell (((Kept.refl _ w).alloc _).alloc _) HG.out.c0) (kcell (((Kept.refl _ w).alloc _).alloc _) HG.out.c1)).mono ?_
  rintro e w1 ⟨rfl, hk1⟩
  have kk : Kept0 w w1 := (((Kept.refl _ w).alloc _).alloc _).trans hk1
  have a0 : w1.cell? ⟨w.heap.size, 0, none⟩ = some (.int .i64 r) := kcell hk1 (by simp [go_sem])
  have a1 : w1.cell? ⟨w.heap.size, 1, none⟩ = some (.int .i64 c) := kcell hk1 (by simp [go_sem])
  have b0 : w1.cell? ⟨w.heap.size + 1, 0, none⟩ = some (.int .i64 r') := kcell hk1 (by simp [go_sem])
  have b1 : w1.cell? ⟨w.heap.size + 1, 1, none⟩ = some (.int .i64 c') := kcell hk1 (by simp [go_sem])
  clear hk1
  by_cases h1 : There R C r c
  · rw [thereB_yes h1]
    go_wp2_with fail
    refine (thereR g R C r' c' w1 (kcell kk HG.out.c0) (kcell kk HG.out.c1)).mono ?_
    rintro e w2 ⟨rfl, hk2⟩
    replace a0 := kcell hk2 a0
    replace a1 := kcell hk2 a1
    replace b0 := kcell hk2 b0
    replace b1 := kcell hk2 b1
    replace kk := kk.trans hk2
    clear hk2
    by_cases h2 : There R C r' c'
    · rw [thereB_yes h2]
      have d1 := kcell kk HG.out.c1
      have e1 := wrap_idx64 h1 hR2 hC2
      have e2 := wrap_idx64 h2 hR2 hC2
      have HE : Hid (wipeE R C r c r' c' = if idx C r' c' < idx C r c then 1 else 0) := if_pos ⟨h1, h2⟩
      have HE1 := Lib.hid e1
      have HE2 := Lib.hid e2
      clear e1 e2 h1 h2
      go_wp2_with fail
      go_quiet (fail)
      rw [HE1.out, HE2.out]
      go_wp2_with fail
      all_goals
        go_ret
        refine ⟨ret_int ?_, kk.drewN _⟩
        rw [HV.out, HE.out]
        first | rw [if_pos (by omega)] | rw [if_neg (by omega)]
    · rw [thereB_no h2]
      have HE : Hid (wipeE R C r c r' c' = 11) := if_neg (fun e => h2 e.2)
      go_wp2_with fail
      go_ret
      exact ⟨ret_int (by rw [HV.out, HE.out]), kk⟩
  · rw [thereB_no h1]
    have HE : Hid (wipeE R C r c r' c' = 11) := if_neg (fun e => h1 e.1)
    go_wp2_with fail
    go_ret
    exact ⟨ret_int (by rw [HV.out, HE.out]), kk⟩

/-- A cell as it is turned. -/
def turnedC (how : Int) (x c : Cel) : Cel := if how = 1 then dyed c.a x else if how = 2 then shielded c.b x else c

set_option maxHeartbeats 1000000 in
theorem turnedR (x c : Cel) (how : Int) (w : World) :
    Calls Tryz.prog 151 #[x.v, c.v, .int .i64 how] w fun e w' => e = .returned (turnedC how x c).v ∧ Kept0 w w' := by
  by_cases h1 : how = 1
  · rw [show turnedC how x c = dyed c.a x from if_pos h1]
    subst h1
    go_enter Tryz.func151, Tryz.ntmps151
    go_wp2
    refine bodyPost_ret (v := (dyed c.a x).v) (by simp [results, Tryz.results151, go_sem, dyed]) rfl ⟨rfl, ?_⟩
    exact (((Kept.refl _ w).alloc _).alloc _).alloc _
  · by_cases h2 : how = 2
    · rw [show turnedC how x c = shielded c.b x by unfold turnedC; rw [if_neg h1, if_pos h2]]
      subst h2
      go_enter Tryz.func151, Tryz.ntmps151
      go_wp2
      refine bodyPost_ret (v := (shielded c.b x).v) (by simp [results, Tryz.results151, go_sem, shielded]) rfl ⟨rfl, ?_⟩
      exact (((Kept.refl _ w).alloc _).alloc _).alloc _
    · rw [show turnedC how x c = c by unfold turnedC; rw [if_neg h1, if_neg h2]]
      go_enter Tryz.func151, Tryz.ntmps151
      go_wp2
      refine bodyPost_ret (v := c.v) (by simp [results, Tryz.results151, go_sem]) rfl ⟨rfl, ?_⟩
      exact (((Kept.refl _ w).alloc _).alloc _).alloc _
end Wp
end Go.Proofs.YtkpfhgfdfndliaaGreatDoor

namespace Go.Proofs.YtkpfhgfdfndliaaGreatDoor
namespace Wp
open Go.RowKit

/-- What stands when d cells from the i-th on were turned. -/
structure Dos (w wr : World) (g t cap R C : Nat) (f : Nat → Cel) (o : Cel → Cel) (i d : Nat) (r c r' c' : Int) (x : Cel) : Prop where
  ref : RefAt wr g t cap R C (partT f o i d)
  b0 : wr.cell? ⟨w.heap.size, 0, none⟩ = some (.int .i64 r)
  b1 : wr.cell? ⟨w.heap.size, 1, none⟩ = some (.int .i64 c)
  b2 : wr.cell? ⟨w.heap.size, 2, none⟩ = some (.int .i64 r')
  b3 : wr.cell? ⟨w.heap.size, 3, none⟩ = some (.int .i64 c')
  cel : CelAt wr (w.heap.size + 1) x
  kept : Kept (· = t) w wr

theorem Dos.keep {w wr w' : World} {g t cap R C : Nat} {f : Nat → Cel} {o : Cel → Cel} {i d : Nat} {r c r' c' : Int} {x : Cel} (h : Dos w wr g t cap R C f o i d r c r' c' x) (k : Kept0 wr w') : Dos w w' g t cap R C f o i d r c r' c' x :=
  ⟨h.ref.kept k (fun e => e) (fun e => e), kcell k h.b0, kcell k h.b1, kcell k h.b2, kcell k h.b3, h.cel.kept k (fun e => e), h.kept.trans k.to⟩

theorem Dos.step {w wr w' : World} {g t cap R C : Nat} {f : Nat → Cel} {o : Cel → Cel} {i d : Nat} {r c r' c' : Int} {x : Cel} (h : Dos w wr g t cap R C f o i d r c r' c' x) (hr : RefAt w' g t cap R C (upd (partT f o i d) (i + d) (o (f (i + d))))) (k : Kept (· = t) wr w') (ht : t < w.heap.size) : Dos w w' g t cap R C f o i (d + 1) r c r' c' x :=
  ⟨hr.congr (fun q _ => partT_step f o i d q), kcellS k h.b0 (by omega), kcellS k h.b1 (by omega), kcellS k h.b2 (by omega), kcellS k h.b3 (by omega), h.cel.kept k (by omega), h.kept.trans k⟩

theorem Dos.same {w wr : World} {g t cap R C : Nat} {f : Nat → Cel} {o : Cel → Cel} {i d : Nat} {r c r' c' : Int} {x : Cel} (h : Dos w wr g t cap R C f o i d r c r' c' x) (e : o (f (i + d)) = f (i + d)) : Dos w wr g t cap R C f o i (d + 1) r c r' c' x :=
  ⟨h.ref.congr (fun q _ => by rw [← partT_step]; exact upd_self (by rw [e, partT_at]) q), h.b0, h.b1, h.b2, h.b3, h.cel, h.kept⟩

theorem kset4 {w : World} {b b' o : Nat} {u0 u1 u2 u3 v : Value} (hb : b' ≠ b) (h : w.cell? ⟨b', o, none⟩ = some v) : ((((w.setCell ⟨b, 0, none⟩ u0).setCell ⟨b, 1, none⟩ u1).setCell ⟨b, 2, none⟩ u2).setCell ⟨b, 3, none⟩ u3).cell? ⟨b', o, none⟩ = some v :=
  (((((Kept.set1 w b 0 u0).trans (Kept.set1 _ b 1 u1)).trans (Kept.set1 _ b 2 u2)).trans (Kept.set1 _ b 3 u3)).cell (World.block_lt_of_cell? w _ h) hb).trans h

set_option maxHeartbeats 4000000 in
set_option maxRecDepth 100000 in
theorem doR_ok (g t cap R C : Nat) (f : Nat → Cel) (r c r' c' : Int) (x : Cel) (how : Int) (b : Bool) (m : Nat) (w : World) (hg : RefAt w g t cap R C f) (h1 : There R C r c) (h2 : There R C r' c') (hm : idx C r' c' = idx C r c + m) :
    Calls Tryz.prog 117 #[.pointer (some ⟨g, 0, none⟩), .agg #[.int .i64 r, .int .i64 c, .int .i64 r', .int .i64 c'], x.v, .int .i64 how, .bool b] w fun e w' =>
      e = .returned (.tuple #[.int .i64 (cntT f (one b (fun y => turnedC how y x)) (idx C r c) (m + 1) : Int), .int .i64 0]) ∧ RefAt w' g t cap R C (partT f (one b (fun y => turnedC how y x)) (idx C r c) (m + 1)) ∧ Kept (· = t) w w' := by
  have hR2 := hg.R2
  have hC2 := hg.C2
  have hRC : R * C ≤ 65025 := Nat.mul_le_mul hR2 hC2
  have hlt2 := idx_lt h2
  have hE : Hid (wipeE R C r c r' c' = 0) := by
    show _ = _
    unfold wipeE
    rw [if_pos ⟨h1, h2⟩, if_neg (by omega)]
  have e1 := Lib.hid (wrap_idx64 h1 hR2 hC2)
  have e2 := Lib.hid (wrap_idx64 h2 hR2 hC2)
  have HG := Lib.hid hg
  have hgl := hg.lt
  have htl := hg.row.lt
  obtain ⟨i, hi⟩ : ∃ i, i = idx C r c := ⟨_, rfl⟩
  rw [← hi] at e1 hm
  rw [← hi]
  rw [hm] at e2 hlt2
  obtain ⟨o, ho⟩ : ∃ o, o = one b (fun y => turnedC how y x) := ⟨_, rfl⟩
  rw [← ho]
  have HO := Lib.hid ho
  have HT := Lib.hid (turnedR)
  clear hg h1 h2 hi hm ho
  go_enter Tryz.func117, Tryz.ntmps117
  go_wp2_with fail
  obtain ⟨w0, hw0⟩ : ∃ w0, w0 = (w.alloc (.cells #[.int .i64 r, .int .i64 c, .int .i64 r', .int .i64 c'] 163)).alloc (.cells #[.int .i32 x.g, .int .i64 x.a, .bool x.b, .int .i64 x.m] 36) := ⟨_, rfl⟩
  have k0 : Kept0 w w0 := by rw [hw0]; exact ((Kept.refl _ w).alloc _).alloc _
  have HD0 : Hid (Dos w w0 g t cap R C f o i 0 r c r' c' x) := ⟨(HG.out.kept k0 (fun e => e) (fun e => e)).congr (fun k _ => (if_neg (by omega)).symm), by rw [hw0]; simp [go_sem], by rw [hw0]; simp [go_sem], by rw [hw0]; simp [go_sem], by rw [hw0]; simp [go_sem], by
    rw [hw0]
    have := CelAt.new (w.alloc (.cells #[.int .i64 r, .int .i64 c, .int .i64 r', .int .i64 c'] 163)) x 36
    rwa [World.size_alloc] at this, k0.mono (fun _ _ e => e.elim)⟩
  rw [← hw0]
  clear hw0
  refine (wrongR g t cap R C f r c r' c' w0 (HG.out.kept k0 (fun e => e) (fun e => e))).mono ?_
  rw [hE.out]
  rintro e w1 ⟨rfl, hk1⟩
  have HD1 := Lib.hid (HD0.out.keep hk1)
  clear HD0 HG k0 hk1
  have a0 := HD1.out.b0
  have a1 := HD1.out.b1
  have a2 := HD1.out.ref.c1
  go_wp2_with fail
  go_quiet (fail)
  rw [e1.out]
  have HD2 := Lib.hid (HD1.out.keep (((Kept.refl (fun _ => False) w1)).drewN nq))
  generalize w1.drewN nq = w2 at *
  clear HD1 a0 a1 a2
  go_wp2_with fail
  go_loopw [13, 14, 15] (fun s13 s14 s15 wr => ∃ d : Nat, d ≤ m + 1 ∧ s13 = .int .i64 (cntT f o i d : Int) ∧ s14 = .int .i64 ((i + d : Nat) : Int) ∧ Hid (Dos w wr g t cap R C f o i d r c r' c' x)) (fun _ s14 _ _ => i + m + 1 - (intOf s14).toNat)
  case atStart => exact ⟨0, by omega, rfl, rfl, HD2⟩
  case round =>
    clear HD2
    obtain ⟨d, hd, rfl, rfl, HD⟩ := hrel
    have a0 := HD.out.b2
    have a1 := HD.out.b3
    have a2 := HD.out.ref.c1
    go_wp2_with fail
    go_quiet (fail)
    rw [e2.out]
    have HD3 := Lib.hid (HD.out.keep (((Kept.refl (fun _ => False) wr)).drewN nq))
    generalize wr.drewN nq = w3 at *
    clear HD a0 a1 a2
    by_cases hlt : d ≤ m
    · have hdl : decide (((i + d : Nat) : Int) ≤ ((i + m : Nat) : Int)) = true := by simp; omega
      have hcl := cntT_le f o i d
      have HC : Hid (cntT f o i (d + 1) = cntT f o i d + if o (f (i + d)) = f (i + d) then 0 else 1) := rfl
      have c2 := HD3.out.ref.c2
      have hkN : i + d < R * C := by omega
      obtain ⟨q0, q1, q2, q3⟩ := HD3.out.ref.row.cell hkN
      rw [partT_at] at q0 q1 q2 q3
      obtain ⟨y, hy⟩ : ∃ y, y = f (i + d) := ⟨_, rfl⟩
      rw [← hy] at q0 q1 q2 q3 HC
      have HY := Lib.hid hy
      clear hy
      obtain ⟨yg, ya, yb, ym⟩ := y
      simp only at q0 q1 q2 q3
      obtain ⟨z0, z1, z2, z3⟩ := HD3.out.cel
      generalize hq : cntT f o i d = q at *
      obtain ⟨k, hk⟩ : ∃ k, k = i + d := ⟨_, rfl⟩
      rw [← hk] at q0 q1 q2 q3 hkN hdl
      rw [← hk]
      have HQ := Lib.hid hq
      have HK := Lib.hid hk
      have hk2 : k ≤ 65025 := by omega
      have hd1 : d + 1 ≤ m + 1 := by omega
      obtain ⟨NN, hNN⟩ : ∃ NN, NN = R * C := ⟨_, rfl⟩
      rw [← hNN] at c2 hkN
      have HNN := Lib.hid hNN
      have l1 := Nat.ne_of_lt (World.block_lt_of_cell? w3 _ c2)
      have l2 := Nat.ne_of_lt (World.block_lt_of_cell? w3 _ q0)
      have l3 := Nat.ne_of_lt (World.block_lt_of_cell? w3 _ z0)
      have lt3 : t < w3.heap.size := World.block_lt_of_cell? w3 _ q0
      have lg3 : g < w3.heap.size := World.block_lt_of_cell? w3 _ c2
      have lgt : g ≠ t := HD3.out.ref.ne
      clear hq hk hlt hd hNN hlt2
      cases b
      · have HE : Hid (o ⟨yg, ya, yb, ym⟩ = turnedC how ⟨yg, ya, yb, ym⟩ x) := by show _ = _; rw [HO.out]; rfl
        obtain ⟨v, hv⟩ : ∃ v, v = turnedC how ⟨yg, ya, yb, ym⟩ x := ⟨_, rfl⟩
        have HT1 := Lib.hid (HT.out ⟨yg, ya, yb, ym⟩ x how)
        rw [← hv] at HT1 HE
        clear hv
        go_wp2_with fail
        go_region_held3 (fun w' => w'.cell? ⟨g, 2, none⟩ = some (.slice (some ⟨t, 0, none⟩) NN cap) ∧ w'.cell? ⟨t, k * 4, none⟩ = some (.int .i32 yg) ∧ w'.cell? ⟨t, k * 4 + 1, none⟩ = some (.int .i64 ya) ∧ w'.cell? ⟨t, k * 4 + 2, none⟩ = some (.bool yb) ∧ w'.cell? ⟨t, k * 4 + 3, none⟩ = some (.int .i64 ym) ∧ w'.cell? ⟨w.heap.size + 1, 0, none⟩ = some (.int .i32 x.g) ∧ w'.cell? ⟨w.heap.size + 1, 1, none⟩ = some (.int .i64 x.a) ∧ w'.cell? ⟨w.heap.size + 1, 2, none⟩ = some (.bool x.b) ∧ w'.cell? ⟨w.heap.size + 1, 3, none⟩ = some (.int .i64 x.m))
          (first
            | with_reducible exact ⟨kset4 (by assumption) (kcell kx c2), kset4 (by assumption) (kcell kx q0), kset4 (by assumption) (kcell kx q1), kset4 (by assumption) (kcell kx q2), kset4 (by assumption) (kcell kx q3), kset4 (by assumption) (kcell kx z0), kset4 (by assumption) (kcell kx z1), kset4 (by assumption) (kcell kx z2), kset4 (by assumption) (kcell kx z3)⟩
            | with_reducible exact ⟨kcell (kx.alloc _) c2, kcell (kx.alloc _) q0, kcell (kx.alloc _) q1, kcell (kx.alloc _) q2, kcell (kx.alloc _) q3, kcell (kx.alloc _) z0, kcell (kx.alloc _) z1, kcell (kx.alloc _) z2, kcell (kx.alloc _) z3⟩
            | with_reducible exact ⟨kcell kx c2, kcell kx q0, kcell kx q1, kcell kx q2, kcell kx q3, kcell kx z0, kcell kx z1, kcell kx z2, kcell kx z3⟩
            | with_reducible exact ⟨kcell ((Kept.refl _ w3).alloc _).drew c2, kcell ((Kept.refl _ w3).alloc _).drew q0, kcell ((Kept.refl _ w3).alloc _).drew q1, kcell ((Kept.refl _ w3).alloc _).drew q2, kcell ((Kept.refl _ w3).alloc _).drew q3, kcell ((Kept.refl _ w3).alloc _).drew z0, kcell ((Kept.refl _ w3).alloc _).drew z1, kcell ((Kept.refl _ w3).alloc _).drew z2, kcell ((Kept.refl _ w3).alloc _).drew z3⟩
            | with_reducible exact ⟨kcell (Kept.refl _ w3).drew c2, kcell (Kept.refl _ w3).drew q0, kcell (Kept.refl _ w3).drew q1, kcell (Kept.refl _ w3).drew q2, kcell (Kept.refl _ w3).drew q3, kcell (Kept.refl _ w3).drew z0, kcell (Kept.refl _ w3).drew z1, kcell (Kept.refl _ w3).drew z2, kcell (Kept.refl _ w3).drew z3⟩)
          (first
            | (go_at_call 151; refine (HT1.out _).mono ?_; rintro e w4 ⟨rfl, hk4⟩
               have kx : Kept0 w3 w4 := by first | exact (Kept.refl _ w3).drew.trans hk4 | exact ((Kept.refl _ w3).alloc _).drew.trans hk4
               have m1 := Nat.ne_of_lt (World.block_lt_of_cell? w4 _ (kcell kx c2))
               have m2 := Nat.ne_of_lt (World.block_lt_of_cell? w4 _ (kcell kx q0))
               have m3 := Nat.ne_of_lt (World.block_lt_of_cell? w4 _ (kcell kx z0))
               try have nn := CelW.kept (x := zc) (CelW.new w3 zc 36) (Kept.trans (Kept.refl _ _).drew hk4) (fun e => e)
               try (obtain ⟨⟨n0, n1, n2, n3⟩, n4, n5, n6, n7⟩ := nn)))
        · have hV : CelAt (w4.alloc (Obj.cells #[Value.int IntKind.i32 v.g, Value.int IntKind.i64 v.a, Value.bool v.b, Value.int IntKind.i64 v.m] 36)) w4.heap.size v := CelAt.new w4 v 36
          have kW : Kept0 w3 (w4.alloc (Obj.cells #[Value.int IntKind.i32 v.g, Value.int IntKind.i64 v.a, Value.bool v.b, Value.int IntKind.i64 v.m] 36)) := kx.alloc _
          have hge : w3.heap.size ≤ w4.heap.size := kx.size
          have hlt9 : w4.heap.size < (w4.alloc (Obj.cells #[Value.int IntKind.i32 v.g, Value.int IntKind.i64 v.a, Value.bool v.b, Value.int IntKind.i64 v.m] 36)).heap.size := by simp
          clear hk4 kx m1 m2 m3
          try clear hHeld
          generalize (w4.alloc (Obj.cells #[Value.int IntKind.i32 v.g, Value.int IntKind.i64 v.a, Value.bool v.b, Value.int IntKind.i64 v.m] 36)) = W at *
          generalize w4.heap.size = a0 at *
          have c2 := kcell kW c2
          have q0 := kcell kW q0
          have q1 := kcell kW q1
          have q2 := kcell kW q2
          have q3 := kcell kW q3
          obtain ⟨v0, v1, v2, v3⟩ := hV
          have HD4 := Lib.hid (HD3.out.keep kW)
          have b1 : ¬ t = a0 := by omega
          have b2 : ¬ a0 = t := by omega
          have b3 : ¬ t = g := by omega
          have b4 : ¬ g = t := by omega
          have heq := eq_cel v ⟨yg, ya, yb, ym⟩
          obtain ⟨D, hD⟩ : ∃ D, D = decide (v = ⟨yg, ya, yb, ym⟩) := ⟨_, rfl⟩
          rw [← hD] at heq
          have HDD := Lib.hid hD
          clear hD kW HD3
          go_wp2_with fail
          go_region_held3 (fun w' => w'.cell? ⟨g, 2, none⟩ = some (.slice (some ⟨t, 0, none⟩) NN cap) ∧ w'.cell? ⟨t, k * 4, none⟩ = some (.int .i32 yg) ∧ w'.cell? ⟨t, k * 4 + 1, none⟩ = some (.int .i64 ya) ∧ w'.cell? ⟨t, k * 4 + 2, none⟩ = some (.bool yb) ∧ w'.cell? ⟨t, k * 4 + 3, none⟩ = some (.int .i64 ym) ∧ w'.cell? ⟨a0, 0, none⟩ = some (.int .i32 v.g) ∧ w'.cell? ⟨a0, 1, none⟩ = some (.int .i64 v.a) ∧ w'.cell? ⟨a0, 2, none⟩ = some (.bool v.b) ∧ w'.cell? ⟨a0, 3, none⟩ = some (.int .i64 v.m)) (go_keep) (first | fail)
          have HD5 := Lib.hid (HD4.out.keep ((Kept.refl (fun _ => False) W).drew))
          have c2 : W.drew.cell? _ = _ := c2
          have q0 : W.drew.cell? _ = _ := q0
          have q1 : W.drew.cell? _ = _ := q1
          have q2 : W.drew.cell? _ = _ := q2
          have q3 : W.drew.cell? _ = _ := q3
          have v0 : W.drew.cell? _ = _ := v0
          have v1 : W.drew.cell? _ = _ := v1
          have v2 : W.drew.cell? _ = _ := v2
          have v3 : W.drew.cell? _ = _ := v3
          have f0 := HD5.out.ref.row.frozen (k * 4)
          have f1 := HD5.out.ref.row.frozen (k * 4 + 1)
          have f2 := HD5.out.ref.row.frozen (k * 4 + 2)
          have f3 := HD5.out.ref.row.frozen (k * 4 + 3)
          generalize W.drew = X at *
          have xt : t < X.heap.size := World.block_lt_of_cell? X _ q0
          have xg : g < X.heap.size := World.block_lt_of_cell? X _ c2
          have xa : a0 < X.heap.size := World.block_lt_of_cell? X _ v0
          clear HD4
          cases D
          all_goals
            have hnew : Hid (cntT f o i (d + 1) = if v = ⟨yg, ya, yb, ym⟩ then q else q + 1) := by
              show _ = _
              rw [HC.out, HE.out]
              split <;> rfl
            go_wp2_with fail
            go_region_held3 (fun w' => w'.cell? ⟨g, 2, none⟩ = some (.slice (some ⟨t, 0, none⟩) NN cap) ∧ w'.cell? ⟨a0, 0, none⟩ = some (.int .i32 v.g) ∧ w'.cell? ⟨a0, 1, none⟩ = some (.int .i64 v.a) ∧ w'.cell? ⟨a0, 2, none⟩ = some (.bool v.b) ∧ w'.cell? ⟨a0, 3, none⟩ = some (.int .i64 v.m)) (go_keep) (first | fail)
            go_wp2_with fail
            have hkk := HK.out
            have hfv : o (f (i + d)) = v := by rw [← HY.out]; exact HE.out
            have kZ := (Kept.refl (· = t) X).setCel t (k * 4) (Or.inr rfl) v
            have rZ := HD5.out.ref.withRow kZ (HD5.out.ref.row.set k v)
            rw [hkk, ← hfv] at rZ
            rw [hkk, ← hfv] at kZ
            refine ⟨⟨d + 1, hd1, congrArg (Value.int IntKind.i64) ?_, congrArg (Value.int IntKind.i64) (by omega), ?_⟩, by simp [intOf]; omega⟩
            · have hdd := HDD.out
              rw [hnew.out]
              first
                | (rw [if_pos (of_decide_eq_true hdd.symm)])
                | (rw [if_neg (of_decide_eq_false hdd.symm), w64 (by omega) (by omega)]; rfl)
            · rw [hkk, ← hfv]
              exact (HD5.out.step rZ kZ htl).keep ((Kept.refl _ _).drew)
        · have hV : CelAt ((((w4.setCell { block := w3.heap.size, off := 0 } (Value.int IntKind.i32 v.g)).setCell { block := w3.heap.size, off := 1 } (Value.int IntKind.i64 v.a)).setCell { block := w3.heap.size, off := 2 } (Value.bool v.b)).setCell { block := w3.heap.size, off := 3 } (Value.int IntKind.i64 v.m)) w3.heap.size v := (CelW.set (x := zc) ⟨⟨n0, n1, n2, n3⟩, n4, n5, n6, n7⟩ v).at0
          have kW : Kept0 w3 ((((w4.setCell { block := w3.heap.size, off := 0 } (Value.int IntKind.i32 v.g)).setCell { block := w3.heap.size, off := 1 } (Value.int IntKind.i64 v.a)).setCell { block := w3.heap.size, off := 2 } (Value.bool v.b)).setCell { block := w3.heap.size, off := 3 } (Value.int IntKind.i64 v.m)) := kx.setCel _ _ (Or.inl (Nat.le_refl _)) v
          have hge : w3.heap.size ≤ w3.heap.size := Nat.le_refl _
          clear hk4 kx m1 m2 m3 n0 n1 n2 n3 n4 n5 n6 n7
          generalize ((((w4.setCell { block := w3.heap.size, off := 0 } (Value.int IntKind.i32 v.g)).setCell { block := w3.heap.size, off := 1 } (Value.int IntKind.i64 v.a)).setCell { block := w3.heap.size, off := 2 } (Value.bool v.b)).setCell { block := w3.heap.size, off := 3 } (Value.int IntKind.i64 v.m)) = W at *
          have hge2 : Hid (w3.heap.size ≤ w3.heap.size) := Nat.le_refl _
          obtain ⟨a0, ha0⟩ : ∃ a0, a0 = w3.heap.size := ⟨_, rfl⟩
          rw [← ha0] at hV hge
          rw [← ha0]
          replace hge : w3.heap.size ≤ a0 := by omega
          clear ha0 hge2
          have c2 := kcell kW c2
          have q0 := kcell kW q0
          have q1 := kcell kW q1
          have q2 := kcell kW q2
          have q3 := kcell kW q3
          obtain ⟨v0, v1, v2, v3⟩ := hV
          have HD4 := Lib.hid (HD3.out.keep kW)
          have b1 : ¬ t = a0 := by omega
          have b2 : ¬ a0 = t := by omega
          have b3 : ¬ t = g := by omega
          have b4 : ¬ g = t := by omega
          have heq := eq_cel v ⟨yg, ya, yb, ym⟩
          obtain ⟨D, hD⟩ : ∃ D, D = decide (v = ⟨yg, ya, yb, ym⟩) := ⟨_, rfl⟩
          rw [← hD] at heq
          have HDD := Lib.hid hD
          clear hD kW HD3
          go_wp2_with fail
          go_region_held3 (fun w' => w'.cell? ⟨g, 2, none⟩ = some (.slice (some ⟨t, 0, none⟩) NN cap) ∧ w'.cell? ⟨t, k * 4, none⟩ = some (.int .i32 yg) ∧ w'.cell? ⟨t, k * 4 + 1, none⟩ = some (.int .i64 ya) ∧ w'.cell? ⟨t, k * 4 + 2, none⟩ = some (.bool yb) ∧ w'.cell? ⟨t, k * 4 + 3, none⟩ = some (.int .i64 ym) ∧ w'.cell? ⟨a0, 0, none⟩ = some (.int .i32 v.g) ∧ w'.cell? ⟨a0, 1, none⟩ = some (.int .i64 v.a) ∧ w'.cell? ⟨a0, 2, none⟩ = some (.bool v.b) ∧ w'.cell? ⟨a0, 3, none⟩ = some (.int .i64 v.m)) (go_keep) (first | fail)
          have HD5 := Lib.hid (HD4.out.keep ((Kept.refl (fun _ => False) W).drew))
          have c2 : W.drew.cell? _ = _ := c2
          have q0 : W.drew.cell? _ = _ := q0
          have q1 : W.drew.cell? _ = _ := q1
          have q2 : W.drew.cell? _ = _ := q2
          have q3 : W.drew.cell? _ = _ := q3
          have v0 : W.drew.cell? _ = _ := v0
          have v1 : W.drew.cell? _ = _ := v1
          have v2 : W.drew.cell? _ = _ := v2
          have v3 : W.drew.cell? _ = _ := v3
          have f0 := HD5.out.ref.row.frozen (k * 4)
          have f1 := HD5.out.ref.row.frozen (k * 4 + 1)
          have f2 := HD5.out.ref.row.frozen (k * 4 + 2)
          have f3 := HD5.out.ref.row.frozen (k * 4 + 3)
          generalize W.drew = X at *
          have xt : t < X.heap.size := World.block_lt_of_cell? X _ q0
          have xg : g < X.heap.size := World.block_lt_of_cell? X _ c2
          have xa : a0 < X.heap.size := World.block_lt_of_cell? X _ v0
          clear HD4
          cases D
          all_goals
            have hnew : Hid (cntT f o i (d + 1) = if v = ⟨yg, ya, yb, ym⟩ then q else q + 1) := by
              show _ = _
              rw [HC.out, HE.out]
              split <;> rfl
            go_wp2_with fail
            go_region_held3 (fun w' => w'.cell? ⟨g, 2, none⟩ = some (.slice (some ⟨t, 0, none⟩) NN cap) ∧ w'.cell? ⟨a0, 0, none⟩ = some (.int .i32 v.g) ∧ w'.cell? ⟨a0, 1, none⟩ = some (.int .i64 v.a) ∧ w'.cell? ⟨a0, 2, none⟩ = some (.bool v.b) ∧ w'.cell? ⟨a0, 3, none⟩ = some (.int .i64 v.m)) (go_keep) (first | fail)
            go_wp2_with fail
            have hkk := HK.out
            have hfv : o (f (i + d)) = v := by rw [← HY.out]; exact HE.out
            have kZ := (Kept.refl (· = t) X).setCel t (k * 4) (Or.inr rfl) v
            have rZ := HD5.out.ref.withRow kZ (HD5.out.ref.row.set k v)
            rw [hkk, ← hfv] at rZ
            rw [hkk, ← hfv] at kZ
            refine ⟨⟨d + 1, hd1, congrArg (Value.int IntKind.i64) ?_, congrArg (Value.int IntKind.i64) (by omega), ?_⟩, by simp [intOf]; omega⟩
            · have hdd := HDD.out
              rw [hnew.out]
              first
                | (rw [if_pos (of_decide_eq_true hdd.symm)])
                | (rw [if_neg (of_decide_eq_false hdd.symm), w64 (by omega) (by omega)]; rfl)
            · rw [hkk, ← hfv]
              exact (HD5.out.step rZ kZ htl).keep ((Kept.refl _ _).drew)
      · cases yb
        · have HE : Hid (o ⟨yg, ya, false, ym⟩ = turnedC how ⟨yg, ya, false, ym⟩ x) := by show _ = _; rw [HO.out]; rfl
          obtain ⟨v, hv⟩ : ∃ v, v = turnedC how ⟨yg, ya, false, ym⟩ x := ⟨_, rfl⟩
          have HT1 := Lib.hid (HT.out ⟨yg, ya, false, ym⟩ x how)
          rw [← hv] at HT1 HE
          clear hv
          go_wp2_with fail
          go_region_held3 (fun w' => w'.cell? ⟨g, 2, none⟩ = some (.slice (some ⟨t, 0, none⟩) NN cap) ∧ w'.cell? ⟨t, k * 4, none⟩ = some (.int .i32 yg) ∧ w'.cell? ⟨t, k * 4 + 1, none⟩ = some (.int .i64 ya) ∧ w'.cell? ⟨t, k * 4 + 2, none⟩ = some (.bool false) ∧ w'.cell? ⟨t, k * 4 + 3, none⟩ = some (.int .i64 ym) ∧ w'.cell? ⟨w.heap.size + 1, 0, none⟩ = some (.int .i32 x.g) ∧ w'.cell? ⟨w.heap.size + 1, 1, none⟩ = some (.int .i64 x.a) ∧ w'.cell? ⟨w.heap.size + 1, 2, none⟩ = some (.bool x.b) ∧ w'.cell? ⟨w.heap.size + 1, 3, none⟩ = some (.int .i64 x.m))
            (first
              | with_reducible exact ⟨kset4 (by assumption) (kcell kx c2), kset4 (by assumption) (kcell kx q0), kset4 (by assumption) (kcell kx q1), kset4 (by assumption) (kcell kx q2), kset4 (by assumption) (kcell kx q3), kset4 (by assumption) (kcell kx z0), kset4 (by assumption) (kcell kx z1), kset4 (by assumption) (kcell kx z2), kset4 (by assumption) (kcell kx z3)⟩
              | with_reducible exact ⟨kcell (kx.alloc _) c2, kcell (kx.alloc _) q0, kcell (kx.alloc _) q1, kcell (kx.alloc _) q2, kcell (kx.alloc _) q3, kcell (kx.alloc _) z0, kcell (kx.alloc _) z1, kcell (kx.alloc _) z2, kcell (kx.alloc _) z3⟩
              | with_reducible exact ⟨kcell kx c2, kcell kx q0, kcell kx q1, kcell kx q2, kcell kx q3, kcell kx z0, kcell kx z1, kcell kx z2, kcell kx z3⟩
              | with_reducible exact ⟨kcell ((Kept.refl _ w3).alloc _).drew c2, kcell ((Kept.refl _ w3).alloc _).drew q0, kcell ((Kept.refl _ w3).alloc _).drew q1, kcell ((Kept.refl _ w3).alloc _).drew q2, kcell ((Kept.refl _ w3).alloc _).drew q3, kcell ((Kept.refl _ w3).alloc _).drew z0, kcell ((Kept.refl _ w3).alloc _).drew z1, kcell ((Kept.refl _ w3).alloc _).drew z2, kcell ((Kept.refl _ w3).alloc _).drew z3⟩
              | with_reducible exact ⟨kcell (Kept.refl _ w3).drew c2, kcell (Kept.refl _ w3).drew q0, kcell (Kept.refl _ w3).drew q1, kcell (Kept.refl _ w3).drew q2, kcell (Kept.refl _ w3).drew q3, kcell (Kept.refl _ w3).drew z0, kcell (Kept.refl _ w3).drew z1, kcell (Kept.refl _ w3).drew z2, kcell (Kept.refl _ w3).drew z3⟩)
            (first
              | (go_at_call 151; refine (HT1.out _).mono ?_; rintro e w4 ⟨rfl, hk4⟩
                 have kx : Kept0 w3 w4 := by first | exact (Kept.refl _ w3).drew.trans hk4 | exact ((Kept.refl _ w3).alloc _).drew.trans hk4
                 have m1 := Nat.ne_of_lt (World.block_lt_of_cell? w4 _ (kcell kx c2))
                 have m2 := Nat.ne_of_lt (World.block_lt_of_cell? w4 _ (kcell kx q0))
                 have m3 := Nat.ne_of_lt (World.block_lt_of_cell? w4 _ (kcell kx z0))
                 try have nn := CelW.kept (x := zc) (CelW.new w3 zc 36) (Kept.trans (Kept.refl _ _).drew hk4) (fun e => e)
                 try (obtain ⟨⟨n0, n1, n2, n3⟩, n4, n5, n6, n7⟩ := nn)))
          · have hV : CelAt (w4.alloc (Obj.cells #[Value.int IntKind.i32 v.g, Value.int IntKind.i64 v.a, Value.bool v.b, Value.int IntKind.i64 v.m] 36)) w4.heap.size v := CelAt.new w4 v 36
            have kW : Kept0 w3 (w4.alloc (Obj.cells #[Value.int IntKind.i32 v.g, Value.int IntKind.i64 v.a, Value.bool v.b, Value.int IntKind.i64 v.m] 36)) := kx.alloc _
            have hge : w3.heap.size ≤ w4.heap.size := kx.size
            have hlt9 : w4.heap.size < (w4.alloc (Obj.cells #[Value.int IntKind.i32 v.g, Value.int IntKind.i64 v.a, Value.bool v.b, Value.int IntKind.i64 v.m] 36)).heap.size := by simp
            clear hk4 kx m1 m2 m3
            try clear hHeld
            generalize (w4.alloc (Obj.cells #[Value.int IntKind.i32 v.g, Value.int IntKind.i64 v.a, Value.bool v.b, Value.int IntKind.i64 v.m] 36)) = W at *
            generalize w4.heap.size = a0 at *
            have c2 := kcell kW c2
            have q0 := kcell kW q0
            have q1 := kcell kW q1
            have q2 := kcell kW q2
            have q3 := kcell kW q3
            obtain ⟨v0, v1, v2, v3⟩ := hV
            have HD4 := Lib.hid (HD3.out.keep kW)
            have b1 : ¬ t = a0 := by omega
            have b2 : ¬ a0 = t := by omega
            have b3 : ¬ t = g := by omega
            have b4 : ¬ g = t := by omega
            have heq := eq_cel v ⟨yg, ya, false, ym⟩
            obtain ⟨D, hD⟩ : ∃ D, D = decide (v = ⟨yg, ya, false, ym⟩) := ⟨_, rfl⟩
            rw [← hD] at heq
            have HDD := Lib.hid hD
            clear hD kW HD3
            go_wp2_with fail
            go_region_held3 (fun w' => w'.cell? ⟨g, 2, none⟩ = some (.slice (some ⟨t, 0, none⟩) NN cap) ∧ w'.cell? ⟨t, k * 4, none⟩ = some (.int .i32 yg) ∧ w'.cell? ⟨t, k * 4 + 1, none⟩ = some (.int .i64 ya) ∧ w'.cell? ⟨t, k * 4 + 2, none⟩ = some (.bool false) ∧ w'.cell? ⟨t, k * 4 + 3, none⟩ = some (.int .i64 ym) ∧ w'.cell? ⟨a0, 0, none⟩ = some (.int .i32 v.g) ∧ w'.cell? ⟨a0, 1, none⟩ = some (.int .i64 v.a) ∧ w'.cell? ⟨a0, 2, none⟩ = some (.bool v.b) ∧ w'.cell? ⟨a0, 3, none⟩ = some (.int .i64 v.m)) (go_keep) (first | fail)
            have HD5 := Lib.hid (HD4.out.keep ((Kept.refl (fun _ => False) W).drew))
            have c2 : W.drew.cell? _ = _ := c2
            have q0 : W.drew.cell? _ = _ := q0
            have q1 : W.drew.cell? _ = _ := q1
            have q2 : W.drew.cell? _ = _ := q2
            have q3 : W.drew.cell? _ = _ := q3
            have v0 : W.drew.cell? _ = _ := v0
            have v1 : W.drew.cell? _ = _ := v1
            have v2 : W.drew.cell? _ = _ := v2
            have v3 : W.drew.cell? _ = _ := v3
            have f0 := HD5.out.ref.row.frozen (k * 4)
            have f1 := HD5.out.ref.row.frozen (k * 4 + 1)
            have f2 := HD5.out.ref.row.frozen (k * 4 + 2)
            have f3 := HD5.out.ref.row.frozen (k * 4 + 3)
            generalize W.drew = X at *
            have xt : t < X.heap.size := World.block_lt_of_cell? X _ q0
            have xg : g < X.heap.size := World.block_lt_of_cell? X _ c2
            have xa : a0 < X.heap.size := World.block_lt_of_cell? X _ v0
            clear HD4
            cases D
            all_goals
              have hnew : Hid (cntT f o i (d + 1) = if v = ⟨yg, ya, false, ym⟩ then q else q + 1) := by
                show _ = _
                rw [HC.out, HE.out]
                split <;> rfl
              go_wp2_with fail
              go_region_held3 (fun w' => w'.cell? ⟨g, 2, none⟩ = some (.slice (some ⟨t, 0, none⟩) NN cap) ∧ w'.cell? ⟨a0, 0, none⟩ = some (.int .i32 v.g) ∧ w'.cell? ⟨a0, 1, none⟩ = some (.int .i64 v.a) ∧ w'.cell? ⟨a0, 2, none⟩ = some (.bool v.b) ∧ w'.cell? ⟨a0, 3, none⟩ = some (.int .i64 v.m)) (go_keep) (first | fail)
              go_wp2_with fail
              have hkk := HK.out
              have hfv : o (f (i + d)) = v := by rw [← HY.out]; exact HE.out
              have kZ := (Kept.refl (· = t) X).setCel t (k * 4) (Or.inr rfl) v
              have rZ := HD5.out.ref.withRow kZ (HD5.out.ref.row.set k v)
              rw [hkk, ← hfv] at rZ
              rw [hkk, ← hfv] at kZ
              refine ⟨⟨d + 1, hd1, congrArg (Value.int IntKind.i64) ?_, congrArg (Value.int IntKind.i64) (by omega), ?_⟩, by simp [intOf]; omega⟩
              · have hdd := HDD.out
                rw [hnew.out]
                first
                  | (rw [if_pos (of_decide_eq_true hdd.symm)])
                  | (rw [if_neg (of_decide_eq_false hdd.symm), w64 (by omega) (by omega)]; rfl)
              · rw [hkk, ← hfv]
                exact (HD5.out.step rZ kZ htl).keep ((Kept.refl _ _).drew)
          · have hV : CelAt ((((w4.setCell { block := w3.heap.size, off := 0 } (Value.int IntKind.i32 v.g)).setCell { block := w3.heap.size, off := 1 } (Value.int IntKind.i64 v.a)).setCell { block := w3.heap.size, off := 2 } (Value.bool v.b)).setCell { block := w3.heap.size, off := 3 } (Value.int IntKind.i64 v.m)) w3.heap.size v := (CelW.set (x := zc) ⟨⟨n0, n1, n2, n3⟩, n4, n5, n6, n7⟩ v).at0
            have kW : Kept0 w3 ((((w4.setCell { block := w3.heap.size, off := 0 } (Value.int IntKind.i32 v.g)).setCell { block := w3.heap.size, off := 1 } (Value.int IntKind.i64 v.a)).setCell { block := w3.heap.size, off := 2 } (Value.bool v.b)).setCell { block := w3.heap.size, off := 3 } (Value.int IntKind.i64 v.m)) := kx.setCel _ _ (Or.inl (Nat.le_refl _)) v
            have hge : w3.heap.size ≤ w3.heap.size := Nat.le_refl _
            clear hk4 kx m1 m2 m3 n0 n1 n2 n3 n4 n5 n6 n7
            generalize ((((w4.setCell { block := w3.heap.size, off := 0 } (Value.int IntKind.i32 v.g)).setCell { block := w3.heap.size, off := 1 } (Value.int IntKind.i64 v.a)).setCell { block := w3.heap.size, off := 2 } (Value.bool v.b)).setCell { block := w3.heap.size, off := 3 } (Value.int IntKind.i64 v.m)) = W at *
            have hge2 : Hid (w3.heap.size ≤ w3.heap.size) := Nat.le_refl _
            obtain ⟨a0, ha0⟩ : ∃ a0, a0 = w3.heap.size := ⟨_, rfl⟩
            rw [← ha0] at hV hge
            rw [← ha0]
            replace hge : w3.heap.size ≤ a0 := by omega
            clear ha0 hge2
            have c2 := kcell kW c2
            have q0 := kcell kW q0
            have q1 := kcell kW q1
            have q2 := kcell kW q2
            have q3 := kcell kW q3
            obtain ⟨v0, v1, v2, v3⟩ := hV
            have HD4 := Lib.hid (HD3.out.keep kW)
            have b1 : ¬ t = a0 := by omega
            have b2 : ¬ a0 = t := by omega
            have b3 : ¬ t = g := by omega
            have b4 : ¬ g = t := by omega
            have heq := eq_cel v ⟨yg, ya, false, ym⟩
            obtain ⟨D, hD⟩ : ∃ D, D = decide (v = ⟨yg, ya, false, ym⟩) := ⟨_, rfl⟩
            rw [← hD] at heq
            have HDD := Lib.hid hD
            clear hD kW HD3
            go_wp2_with fail
            go_region_held3 (fun w' => w'.cell? ⟨g, 2, none⟩ = some (.slice (some ⟨t, 0, none⟩) NN cap) ∧ w'.cell? ⟨t, k * 4, none⟩ = some (.int .i32 yg) ∧ w'.cell? ⟨t, k * 4 + 1, none⟩ = some (.int .i64 ya) ∧ w'.cell? ⟨t, k * 4 + 2, none⟩ = some (.bool false) ∧ w'.cell? ⟨t, k * 4 + 3, none⟩ = some (.int .i64 ym) ∧ w'.cell? ⟨a0, 0, none⟩ = some (.int .i32 v.g) ∧ w'.cell? ⟨a0, 1, none⟩ = some (.int .i64 v.a) ∧ w'.cell? ⟨a0, 2, none⟩ = some (.bool v.b) ∧ w'.cell? ⟨a0, 3, none⟩ = some (.int .i64 v.m)) (go_keep) (first | fail)
            have HD5 := Lib.hid (HD4.out.keep ((Kept.refl (fun _ => False) W).drew))
            have c2 : W.drew.cell? _ = _ := c2
            have q0 : W.drew.cell? _ = _ := q0
            have q1 : W.drew.cell? _ = _ := q1
            have q2 : W.drew.cell? _ = _ := q2
            have q3 : W.drew.cell? _ = _ := q3
            have v0 : W.drew.cell? _ = _ := v0
            have v1 : W.drew.cell? _ = _ := v1
            have v2 : W.drew.cell? _ = _ := v2
            have v3 : W.drew.cell? _ = _ := v3
            have f0 := HD5.out.ref.row.frozen (k * 4)
            have f1 := HD5.out.ref.row.frozen (k * 4 + 1)
            have f2 := HD5.out.ref.row.frozen (k * 4 + 2)
            have f3 := HD5.out.ref.row.frozen (k * 4 + 3)
            generalize W.drew = X at *
            have xt : t < X.heap.size := World.block_lt_of_cell? X _ q0
            have xg : g < X.heap.size := World.block_lt_of_cell? X _ c2
            have xa : a0 < X.heap.size := World.block_lt_of_cell? X _ v0
            clear HD4
            cases D
            all_goals
              have hnew : Hid (cntT f o i (d + 1) = if v = ⟨yg, ya, false, ym⟩ then q else q + 1) := by
                show _ = _
                rw [HC.out, HE.out]
                split <;> rfl
              go_wp2_with fail
              go_region_held3 (fun w' => w'.cell? ⟨g, 2, none⟩ = some (.slice (some ⟨t, 0, none⟩) NN cap) ∧ w'.cell? ⟨a0, 0, none⟩ = some (.int .i32 v.g) ∧ w'.cell? ⟨a0, 1, none⟩ = some (.int .i64 v.a) ∧ w'.cell? ⟨a0, 2, none⟩ = some (.bool v.b) ∧ w'.cell? ⟨a0, 3, none⟩ = some (.int .i64 v.m)) (go_keep) (first | fail)
              go_wp2_with fail
              have hkk := HK.out
              have hfv : o (f (i + d)) = v := by rw [← HY.out]; exact HE.out
              have kZ := (Kept.refl (· = t) X).setCel t (k * 4) (Or.inr rfl) v
              have rZ := HD5.out.ref.withRow kZ (HD5.out.ref.row.set k v)
              rw [hkk, ← hfv] at rZ
              rw [hkk, ← hfv] at kZ
              refine ⟨⟨d + 1, hd1, congrArg (Value.int IntKind.i64) ?_, congrArg (Value.int IntKind.i64) (by omega), ?_⟩, by simp [intOf]; omega⟩
              · have hdd := HDD.out
                rw [hnew.out]
                first
                  | (rw [if_pos (of_decide_eq_true hdd.symm)])
                  | (rw [if_neg (of_decide_eq_false hdd.symm), w64 (by omega) (by omega)]; rfl)
              · rw [hkk, ← hfv]
                exact (HD5.out.step rZ kZ htl).keep ((Kept.refl _ _).drew)
        · have HE : Hid (o ⟨yg, ya, true, ym⟩ = ⟨yg, ya, true, ym⟩) := by show _ = _; rw [HO.out]; rfl
          have hnew : Hid (cntT f o i (d + 1) = q) := by
            show _ = _
            rw [HC.out, HE.out, if_pos rfl]
            rfl
          go_wp2_with fail
          have hkk := HK.out
          have hfv : o (f (i + d)) = f (i + d) := by rw [← HY.out]; exact HE.out
          refine ⟨⟨d + 1, hd1, congrArg (Value.int IntKind.i64) ?_, congrArg (Value.int IntKind.i64) (by omega), ?_⟩, by simp [intOf]; omega⟩
          · rw [hnew.out]
          · exact HD3.out.same hfv
    · obtain rfl : d = m + 1 := by omega
      have hdl : decide (((i + (m + 1) : Nat) : Int) ≤ ((i + m : Nat) : Int)) = false := by simp; omega
      go_wp2_with fail
      go_ret2
      exact ⟨rfl, HD3.out.ref, HD3.out.kept⟩

set_option maxHeartbeats 1000000 in
set_option maxRecDepth 100000 in
theorem doR_bad (g t cap R C : Nat) (f : Nat → Cel) (r c r' c' : Int) (x : Cel) (how : Int) (b : Bool) (w : World) (hg : RefAt w g t cap R C f) (hE : ¬ wipeE R C r c r' c' = 0) :
    Calls Tryz.prog 117 #[.pointer (some ⟨g, 0, none⟩), .agg #[.int .i64 r, .int .i64 c, .int .i64 r', .int .i64 c'], x.v, .int .i64 how, .bool b] w fun e w' => e = .returned (.tuple #[.int .i64 0, .int .i64 (wipeE R C r c r' c')]) ∧ Kept0 w w' := by
  have HW : Hid (∀ w', Kept0 w w' → Calls Tryz.prog 150 #[.pointer (some ⟨g, 0, none⟩), .agg #[.int .i64 r, .int .i64 c], .agg #[.int .i64 r', .int .i64 c']] w' fun e w'' => e = .returned (.int .i64 (wipeE R C r c r' c')) ∧ Kept0 w' w'') := fun w' k => wrongR g t cap R C f r c r' c' w' (hg.kept k (fun e => e) (fun e => e))
  generalize wipeE R C r c r' c' = E at *
  clear hg
  go_enter Tryz.func117, Tryz.ntmps117
  go_wp2_with fail
  refine (HW.out _ (((Kept.refl _ w).alloc _).alloc _)).mono ?_
  rintro e w1 ⟨rfl, hk1⟩
  have kk : Kept0 w w1 := (((Kept.refl _ w).alloc _).alloc _).trans hk1
  clear hk1
  go_wp2_with fail
  go_ret2
  exact ⟨rfl, kk⟩

/-- What the document's answer leaves: cells that are turned in their row, nothing else. -/
abbrev TurnsR (g t cap R C : Nat) (f : Nat → Cel) (o : Cel → Cel) (r c r' c' : Int) (w : World) (e : Ending) (w' : World) : Prop :=
  e = .returned (.tuple #[.int .i64 (wipeN R C f o r c r' c' : Int), .int .i64 (wipeE R C r c r' c')]) ∧ RefAt w' g t cap R C (wipeF R C f o r c r' c') ∧ Kept (· = t) w w'

theorem doR (g t cap R C : Nat) (f : Nat → Cel) (r c r' c' : Int) (x : Cel) (how : Int) (b : Bool) (w : World) (hg : RefAt w g t cap R C f) :
    Calls Tryz.prog 117 #[.pointer (some ⟨g, 0, none⟩), .agg #[.int .i64 r, .int .i64 c, .int .i64 r', .int .i64 c'], x.v, .int .i64 how, .bool b] w (TurnsR g t cap R C f (one b (fun y => turnedC how y x)) r c r' c' w) := by
  by_cases hE : wipeE R C r c r' c' = 0
  · obtain ⟨h1, h2, h3⟩ := wipeE_zero hE
    obtain ⟨m, hm⟩ : ∃ m, idx C r' c' = idx C r c + m := ⟨idx C r' c' - idx C r c, by omega⟩
    have := doR_ok g t cap R C f r c r' c' x how b m w hg h1 h2 hm
    unfold TurnsR wipeN wipeF
    rw [if_pos hE, if_pos hE, hE, show idx C r' c' + 1 - idx C r c = m + 1 by omega]
    exact this
  · unfold TurnsR wipeN wipeF
    rw [if_neg hE, if_neg hE]
    refine (doR_bad g t cap R C f r c r' c' x how b w hg hE).mono ?_
    rintro e w' ⟨rfl, k⟩
    exact ⟨rfl, hg.kept k (fun e => e) (fun e => e), k.to⟩

end Wp
end Go.Proofs.YtkpfhgfdfndliaaGreatDoor
