/-
  The chapter's example.
-/
import Derived.Test.YtlhajbcabpfbkaaGreatDoorVtK
namespace Go.Proofs.YtlhajbcabpfbkaaGreatDoor
open Go.RowKit

section
variable {w : World} {a : Bl} {v : Vt}
theorem vat (h : VtIn w a v) (p q : Int) : Calls Tryz.prog 20 #[ptr a.s, pos p q] w fun e w' => e = .returned (.tuple #[(atX v.z.R v.z.C v.z.F p q).v, .int .i64 (atE v.z.R v.z.C p q)]) ∧ Kept0 w w' :=
  sat_core (some ⟨a.g, 0, none⟩) a.s p q _ _ w h.scr.c3 (fun w' k => at_any a.g a.t a.cap v.z.R v.z.C v.z.F p q w' (h.scr.kept0 k).grid)
theorem vcur (h : VtIn w a v) : Calls Tryz.prog 16 #[ptr a.s] w fun e w' => e = .returned (.tuple #[pos v.z.r v.z.c, .bool v.z.b]) ∧ Kept0 w w' := cursor_any w h.scr
end

def exV : Vt := feedV [27, 89, 35, 37, 120] (newV 10 20 10)
theorem ex_at : atX exV.z.R exV.z.C exV.z.F 3 5 = ⟨120, 0, false, 0⟩ ∧ atE exV.z.R exV.z.C 3 5 = 0 ∧ exV.z.r = 3 ∧ exV.z.c = 6 := by decide +kernel

set_option maxRecDepth 100000 in
set_option maxHeartbeats 4000000 in
theorem awake_any (w : World) (hb : Blank w) : Calls Tryz.prog 6 #[] w fun e w' => e = .returned (.bool true) ∧ Kept0 w w' := by
  have HB := Lib.hid hb
  obtain ⟨e1, e2, e3, e4⟩ := ex_at
  have E1 := Lib.hid e1
  have E2 := Lib.hid e2
  have E3 := Lib.hid e3
  have E4 := Lib.hid e4
  clear hb e1 e2 e3 e4
  go_enter Tryz.func6, Tryz.ntmps6
  go_wp2_with fail
  refine (made_any 10 20 10 w HB.out (by omega) (by omega)).mono ?_
  rintro e w1 ⟨b, a, rfl, hW, hO, k1⟩
  have c0 := hW.c0
  have c2 := hW.c2
  have HW := Lib.hid hW
  have HO := Lib.hid hO
  have K1 := Lib.hid k1
  clear hW hO k1
  go_wp2_with fail
  refine (feed_vt [27, 89, 35, 37, 120] (by decide) HW.out.vt (by decide)).mono ?_
  rintro e w2 ⟨rfl, h2, k2⟩
  have HW2 : Hid (WoIn w2 b a exV) := HW.out.turn k2 h2
  have K2 : Hid (Kept0 w w2) := K1.out.later k2 (fun i hi e => by have := HO.out i (Or.inl e); omega)
  replace c0 := HW2.out.c0
  clear c2 h2 k2 HW K1
  go_wp2_with fail
  refine (vat HW2.out.vt 3 5).mono ?_
  rintro e w3 ⟨rfl, k3⟩
  rw [E1.out, E2.out]
  have K3 : Hid (Kept0 w w3) := K2.out.trans k3
  have HW3 := Lib.hid (HW2.out.kept0 k3)
  replace c0 := HW3.out.c0
  have hl3 := HW3.out.lt
  clear k3 HW2 K2
  go_wp2_with fail
  refine (vcur ((HW3.out.kept0 ((Kept.refl (fun _ => False) w3).alloc _)).vt)).mono ?_
  rintro e w4 ⟨rfl, k4⟩
  rw [E3.out, E4.out]
  have x0 : Hid (CelAt w4 w3.heap.size ⟨120, 0, false, 0⟩) := (CelAt.new w3 ⟨120, 0, false, 0⟩ 52).kept k4 (fun e => e)
  obtain ⟨g0, g1, g2, g3⟩ := x0.out
  have K4 : Hid (Kept0 w w4) := K3.out.trans (((Kept.refl _ w3).alloc _).trans k4)
  have hs4 : w3.heap.size < w4.heap.size := by have := k4.size; simp at this; omega
  have hne : ¬ w3.heap.size = w4.heap.size := by omega
  clear k4 c0
  go_wp2_with fail
  go_ret
  exact ⟨rfl, K4.out.alloc _⟩
end Go.Proofs.YtlhajbcabpfbkaaGreatDoor
