/-
  The law's same: is a world the document's terminal?
-/
import Derived.Test.YtlhajbcabpfbkaaGreatDoorVwC
namespace Go.Proofs.YtlhajbcabpfbkaaGreatDoor
open Go.RowKit
attribute [local go_sem] Oper.semAt_some

structure SmAt (w : World) (b : Nat) (a : Bl) (x lb n p1 p2 : Nat) (v : Vt) : Prop where
  wo : WoIn w b a v
  rf : RefIn w x lb n v
  p : Two w p1 v.z.r v.z.c
  q : w.heap[p2]? = some (.cells #[.bool v.g, .bool v.k, .bool v.h] 64 (0, 0))
namespace SmAt
variable {w w' : World} {b x lb n p1 p2 : Nat} {a : Bl} {v : Vt}
theorem kept0 (h : SmAt w b a x lb n p1 p2 v) (k : Kept0 w w') : SmAt w' b a x lb n p1 p2 v :=
  ⟨h.wo.kept0 k, h.rf.kept0 k, h.p.kept0 k, (k.block p2 (Array.getElem?_eq_some_iff.1 h.q).1 (fun e => e)).trans h.q⟩
theorem cells (h : SmAt w b a x lb n p1 p2 v) : w.cell? ⟨p1, 0, none⟩ = some (.int .i64 v.z.r) ∧ w.cell? ⟨p1, 1, none⟩ = some (.int .i64 v.z.c) ∧ w.cell? ⟨x, 3, none⟩ = some (.int .i64 v.z.r) ∧ w.cell? ⟨x, 4, none⟩ = some (.int .i64 v.z.c) ∧
    w.cell? ⟨p2, 0, none⟩ = some (.bool v.g) ∧ w.cell? ⟨p2, 1, none⟩ = some (.bool v.k) ∧ w.cell? ⟨p2, 2, none⟩ = some (.bool v.h) ∧ w.cell? ⟨x, 8, none⟩ = some (.string (Qu.str v.pre)) ∧ w.cell? ⟨b, 0, none⟩ = some (ptr a.s) ∧ w.cell? ⟨b, 2, none⟩ = some (ptr a.tm) := by
  obtain ⟨h1, h2, _, _⟩ := h.p
  exact ⟨h1, h2, h.rf.cr, h.rf.cc, by simp [World.cell?, h.q], by simp [World.cell?, h.q], by simp [World.cell?, h.q], h.rf.cP, h.wo.c0, h.wo.c2⟩
end SmAt

set_option maxRecDepth 100000 in
set_option maxHeartbeats 8000000 in
theorem worlds_same {w : World} {b x lb n : Nat} {a : Bl} {v : Vt} (hW : WoIn w b a v) (h : RefIn w x lb n v) (hF : Flat v) : Calls Tryz.prog 13 #[ptr b, ptr x] w fun e w' => e = .returned (.bool true) ∧ Kept0 w w' := by
  have HW := Lib.hid hW
  have H := Lib.hid h
  have HF := Lib.hid hF
  have b0 := hW.c0
  clear hW h hF
  go_enter Tryz.func13, Tryz.ntmps13
  go_wp2_with fail
  refine (vcur HW.out.vt).mono ?_
  rintro e w1 ⟨rfl, k1⟩
  obtain ⟨p1, hp1⟩ : ∃ p1, p1 = w1.heap.size := ⟨_, rfl⟩
  obtain ⟨W1, hW1⟩ : ∃ W1, W1 = w1.alloc (.cells #[.int .i64 v.z.r, .int .i64 v.z.c] 45) := ⟨_, rfl⟩
  have P1 : Two W1 p1 v.z.r v.z.c := by rw [hW1, hp1]; exact Two.of (heap_new _ _)
  have K1 : Kept0 w W1 := by rw [hW1]; exact k1.alloc _
  have HP1 := Lib.hid P1
  have HK1 := Lib.hid K1
  have x5 := (H.out.kept0 K1).cG
  have x6 := (H.out.kept0 K1).cK
  have x7 := (H.out.kept0 K1).cH
  clear P1 K1 k1 b0
  go_wp2_with fail
  rw [← hW1, ← hp1]
  clear hW1 hp1
  go_region_held3 (fun w' => w'.cell? ⟨x, 5, none⟩ = some (.bool v.g) ∧ w'.cell? ⟨x, 6, none⟩ = some (.bool v.k) ∧ w'.cell? ⟨x, 7, none⟩ = some (.bool v.h)) (go_keep) (first | fail)
  obtain ⟨p2, hp2⟩ : ∃ p2, p2 = W1.heap.size := ⟨_, rfl⟩
  obtain ⟨W2, hW2⟩ : ∃ W2, W2 = (W1.alloc (.cells #[.bool v.g, .bool v.k, .bool v.h] 64)).drew := ⟨_, rfl⟩
  have k2 : Kept0 W1 W2 := by rw [hW2]; exact ((Kept.refl _ W1).alloc _).drew
  have S2 : Hid (SmAt W2 b a x lb n p1 p2 v) := ⟨(HW.out.kept0 HK1.out).kept0 k2, (H.out.kept0 HK1.out).kept0 k2, HP1.out.kept0 k2, by rw [hW2, hp2]; exact heap_new W1 _⟩
  have K2 : Hid (Kept0 w W2) := HK1.out.trans k2
  rw [← hW2, ← hp2]
  rename_i hHeld
  clear hHeld
  clear hW2 hp2 k2 x5 x6 x7 HW H HP1 HK1
  obtain ⟨m1, m2, m3, m4, m5, m6, m7, m8, m9, m10⟩ := S2.out.cells
  go_wp2_with fail
  go_region_held3 (fun w' => w'.cell? ⟨p1, 0, none⟩ = some (.int .i64 v.z.r) ∧ w'.cell? ⟨p1, 1, none⟩ = some (.int .i64 v.z.c) ∧ w'.cell? ⟨x, 3, none⟩ = some (.int .i64 v.z.r) ∧ w'.cell? ⟨x, 4, none⟩ = some (.int .i64 v.z.c) ∧ w'.cell? ⟨p2, 0, none⟩ = some (.bool v.g) ∧ w'.cell? ⟨p2, 1, none⟩ = some (.bool v.k) ∧ w'.cell? ⟨p2, 2, none⟩ = some (.bool v.h) ∧ w'.cell? ⟨x, 8, none⟩ = some (.string (Qu.str v.pre)) ∧ w'.cell? ⟨b, 0, none⟩ = some (ptr a.s) ∧ w'.cell? ⟨b, 2, none⟩ = some (ptr a.tm)) (go_keep)
    (first
      | (go_at_call 17; refine (pending_vt S30.out.wo.vt).mono ?_; rintro e w17 ⟨rfl, k17⟩; have S17 := Lib.hid (S30.out.kept0 k17); have K17 : Hid (Kept0 w w17) := K30.out.trans k17; obtain ⟨u1, u2, u3, u4, u5, u6, u7, u8, u9, u10⟩ := S17.out.cells; clear k17)
      | (go_at_call 30; refine (modes_vt S29.out.wo.vt).mono ?_; rintro e w30 ⟨rfl, k30⟩; have S30 := Lib.hid (S29.out.kept0 k30); have K30 : Hid (Kept0 w w30) := K29.out.trans k30; obtain ⟨t1, t2, t3, t4, t5, t6, t7, t8, t9, t10⟩ := S30.out.cells; clear k30)
      | (go_at_call 29; refine (rsame_any S18.out.rf HF.out rfl rfl HRo.out).mono ?_; rintro e w29 ⟨rfl, k29⟩; have S29 := Lib.hid (S18.out.kept0 k29); have K29 : Hid (Kept0 w w29) := K18.out.trans k29; obtain ⟨s1, s2, s3, s4, s5, s6, s7, s8, s9, s10⟩ := S29.out.cells; clear k29)
      | (go_at_call 18; refine (srows_any _ ((S2.out.kept0 (Kept.refl _ W2).drew).wo.vt.scr)).mono ?_; rintro e w18 ⟨l, rfl, hl18, hro, k18⟩; have HRo := Lib.hid hro; have S18 := Lib.hid ((S2.out.kept0 (Kept.refl _ W2).drew).kept0 k18); have K18 : Hid (Kept0 w w18) := (K2.out.drew).trans k18; obtain ⟨r1, r2, r3, r4, r5, r6, r7, r8, r9, r10⟩ := S18.out.cells; clear k18 hro hl18))
  go_wp2_with fail
  go_ret
  exact ⟨rfl, K17.out⟩

end Go.Proofs.YtlhajbcabpfbkaaGreatDoor
