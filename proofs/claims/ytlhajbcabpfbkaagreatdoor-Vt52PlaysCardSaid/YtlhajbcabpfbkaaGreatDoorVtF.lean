/-
  What each thing that a byte may do comes to.
-/
import Derived.Test.YtlhajbcabpfbkaaGreatDoorVtS
import Derived.Laws.Rows
namespace Go.Proofs.YtlhajbcabpfbkaaGreatDoor
open Go.RowKit

/-- It answers nothing, and the terminal is v behind it. -/
abbrev Ends (a : Bl) (v : Vt) (w : World) (e : Ending) (w' : World) : Prop := e = .returned (.tuple #[]) ∧ VtIn w' a v ∧ Kept a.O w w'

theorem field45_0 (x y : Int) (w : World) : (Instr.field 45 (pos x y) 0).run Tryz.prog w = .ok (.int .i64 x) w := by kernel_rfl
theorem field45_1 (x y : Int) (w : World) : (Instr.field 45 (pos x y) 1).run Tryz.prog w = .ok (.int .i64 y) w := by kernel_rfl
theorem end_two {fn : Func} {Q : Ending → World → Prop} {c : Act} {W : World} {b p : Nat} {x y : Int} (h : fn.results = #[.cell p 45]) (hp : c.tmps.getD p undef = ptr b) (hd : c.defers = []) (hT : Two W b x y) (hQ : Q (.returned (pos x y)) W) : bodyPost Tryz.prog fn Q .ret c W := by
  have hp' : c.tmps[p]?.getD undef = ptr b := by simpa using hp
  exact bodyPost_ret (v := pos x y) (by simp [results, h, hp', go_sem, hT.c0, hT.c1]) hd hQ

section
variable {w : World} {a : Bl} {v : Vt}

theorem vmove (h : VtIn w a v) (p q : Int) : Calls Tryz.prog 24 #[ptr a.s, pos p q] w (Ends a { v with z := moveZ v.z p q } w) :=
  (smove_any p q w h.scr).mono fun _ _ ⟨h1, h2, h3⟩ => ⟨h1, h.onScr h3 (fun _ e => by subst e; exact Or.inl rfl) h2, toO h3 (fun _ e => by subst e; exact Or.inl (Or.inl rfl))⟩
theorem vstep (h : VtIn w a v) (p q : Int) : Calls Tryz.prog 94 #[ptr a.s, .int .i64 p, .int .i64 q] w (Ends a { v with z := stepZ v.z p q } w) :=
  (sstep_any p q w h.scr).mono fun _ _ ⟨h1, h2, h3⟩ => ⟨h1, h.onScr h3 (fun _ e => by subst e; exact Or.inl rfl) h2, toO h3 (fun _ e => by subst e; exact Or.inl (Or.inl rfl))⟩
theorem vfeed (h : VtIn w a v) (n : Int) (hn : -9223372036854775808 ≤ n ∧ n ≤ 9223372036854775807) : Calls Tryz.prog 96 #[ptr a.s, .int .i64 n] w (Ends a { v with z := feedZ v.z n } w) :=
  (sfeed_any n w h.scr h.blank (fun e => h.apart.2.2.2.2.2 (Or.inl (by rw [← e]; simp [Bl.scr, Own]))) hn).mono fun _ _ ⟨h1, h2, h3⟩ =>
    ⟨h1, h.onScr h3 (fun i e => by rcases e with rfl | rfl <;> simp [Bl.scr, Own]) h2, toO h3 (fun i e => by rcases e with rfl | rfl <;> simp [Bl.O, Bl.scr, Own])⟩
theorem vput (h : VtIn w a v) (x : Cel) : Calls Tryz.prog 100 #[ptr a.s, x.v, .int .i64 1, .bool false] w (Ends a { v with z := putZ v.z x 1 false } w) :=
  (sput_any x 1 false w h.scr h.blank (fun e => h.apart.2.2.2.2.2 (Or.inl (by rw [← e]; simp [Bl.scr, Own])))).mono fun _ _ ⟨h1, h2, h3⟩ =>
    ⟨h1, h.onScr h3 (fun i e => by rcases e with rfl | rfl <;> simp [Bl.scr, Own]) h2, toO h3 (fun i e => by rcases e with rfl | rfl <;> simp [Bl.O, Bl.scr, Own])⟩
theorem vwipe (h : VtIn w a v) (p q p' q' : Int) : Calls Tryz.prog 40 #[ptr a.s, pos p q, pos p' q', blk.v, .bool false] w (Ends a { v with z := wipeZ v.z p q p' q' } w) :=
  (swipe_any p q p' q' blk false w h.scr).mono fun _ _ ⟨h1, h2, h3⟩ => ⟨h1, h.onScr h3 (fun _ e => by subst e; simp [Bl.scr, Own]) h2, toO h3 (fun _ e => by subst e; simp [Bl.O, Bl.scr, Own])⟩

set_option maxRecDepth 100000 in
set_option maxHeartbeats 400000 in
theorem home_vt (h : VtIn w a v) (s : ByteArray) : Calls Tryz.prog 77 #[ptr a.tm, .string s] w (Ends a { v with z := moveZ v.z 0 0 } w) := by
  have c := h.cS
  have H := Lib.hid h
  clear h
  go_enter Tryz.func77, Tryz.ntmps77
  go_wp2_with fail
  refine (vmove H.out 0 0).mono ?_
  rintro e w1 ⟨rfl, h1⟩
  have H1 := Lib.hid h1
  clear h1
  go_wp2_with fail
  go_end0
  exact ⟨rfl, H1.out⟩

set_option maxRecDepth 100000 in
set_option maxHeartbeats 400000 in
theorem at_vt (h : VtIn w a v) : Calls Tryz.prog 41 #[ptr a.tm] w fun e w' => e = .returned (pos v.z.r v.z.c) ∧ Kept0 w w' := by
  have c := h.cS
  have hl := h.ltm
  have H := Lib.hid h
  clear h
  go_enter Tryz.func41, Tryz.ntmps41
  go_wp2_with fail
  refine (cursor_any _ (H.out.kept0 ((Kept.refl (fun _ => False) w).alloc _)).scr).mono ?_
  rintro e w1 ⟨rfl, k1⟩
  have o := (Two.of (heap_new w (.cells #[.int .i64 0, .int .i64 0] 45))).kept0 k1
  have o9 := Lib.hid o
  obtain ⟨o0, o1, o2, o3⟩ := o
  have hs := k1.size
  rw [World.size_alloc] at hs
  replace hs : w.heap.size < w1.heap.size := hs
  have hne : ¬ w.heap.size = w1.heap.size := by omega
  have hen : ¬ w1.heap.size = w.heap.size := by omega
  have kk : Hid (Kept0 w w1) := ((Kept.refl _ w).alloc _).trans k1
  clear k1
  go_wp2_with fail
  refine end_two (b := w.heap.size) rfl rfl rfl ((o9.out.set _ _).kept0 ((Kept.refl _ _).alloc _)) ⟨rfl, ((kk.out.setCell _ (Or.inl (Nat.le_refl _)) _).setCell _ (Or.inl (Nat.le_refl _)) _).alloc _⟩

set_option maxRecDepth 100000 in
set_option maxHeartbeats 400000 in
theorem last_vt (h : VtIn w a v) : Calls Tryz.prog 26 #[ptr a.tm] w fun e w' => e = .returned (pos ((v.z.R : Int) - 1) ((v.z.C : Int) - 1)) ∧ Kept0 w w' := by
  have c := h.cS
  have hl := h.ltm
  have hR : Hid (wrap64 ((v.z.R : Int) - 1) = (v.z.R : Int) - 1 ∧ wrap64 ((v.z.C : Int) - 1) = (v.z.C : Int) - 1) := ⟨w64 (by have := h.scr.grid.R1; omega) (by have := h.scr.grid.R2; omega), w64 (by have := h.scr.grid.C1; omega) (by have := h.scr.grid.C2; omega)⟩
  have H := Lib.hid h
  clear h
  go_enter Tryz.func26, Tryz.ntmps26
  go_wp2_with fail
  refine (ssize_any _ (H.out.kept0 ((Kept.refl (fun _ => False) w).alloc _)).scr).mono ?_
  rintro e w1 ⟨rfl, k1⟩
  have o := (Two.of (heap_new w (.cells #[.int .i64 0, .int .i64 0] 45))).kept0 k1
  have o9 := Lib.hid o
  obtain ⟨o0, o1, o2, o3⟩ := o
  have hs := k1.size
  rw [World.size_alloc] at hs
  replace hs : w.heap.size < w1.heap.size := hs
  have hne : ¬ w.heap.size = w1.heap.size := by omega
  have hen : ¬ w1.heap.size = w.heap.size := by omega
  have kk : Hid (Kept0 w w1) := ((Kept.refl _ w).alloc _).trans k1
  clear k1
  go_wp2_with fail
  rw [hR.out.1, hR.out.2]
  refine end_two (b := w.heap.size) rfl rfl rfl ((o9.out.set _ _).kept0 ((Kept.refl _ _).alloc _)) ⟨rfl, ((kk.out.setCell _ (Or.inl (Nat.le_refl _)) _).setCell _ (Or.inl (Nat.le_refl _)) _).alloc _⟩

set_option maxRecDepth 100000 in
set_option maxHeartbeats 400000 in
theorem drop_vt (h : VtIn w a v) : Calls Tryz.prog 19 #[ptr a.tm] w (Ends a { v with pre := [] } w) := by
  have c := h.cP
  have f := h.fz 5
  have H := Lib.hid h
  clear h
  go_enter Tryz.func19, Tryz.ntmps19
  go_wp2_with fail
  go_end0
  exact ⟨rfl, H.out.setPre [], setTm w a 5 _⟩

set_option maxRecDepth 100000 in
set_option maxHeartbeats 400000 in
theorem wait_vt (h : VtIn w a v) (s : List UInt8) : Calls Tryz.prog 61 #[ptr a.tm, .string (Qu.str s)] w (Ends a { v with pre := s } w) := by
  have c := h.cP
  have f := h.fz 5
  have H := Lib.hid h
  clear h
  go_enter Tryz.func61, Tryz.ntmps61
  go_wp2_with fail
  go_end0
  exact ⟨rfl, H.out.setPre s, setTm w a 5 _⟩

set_option maxRecDepth 100000 in
set_option maxHeartbeats 400000 in
theorem begin_vt (h : VtIn w a v) (s : ByteArray) : Calls Tryz.prog 63 #[ptr a.tm, .string s] w (Ends a { v with pre := [27] } w) := by
  have c := h.cP
  have f := h.fz 5
  have H := Lib.hid h
  clear h
  go_enter Tryz.func63, Tryz.ntmps63
  go_wp2_with fail
  go_end0
  exact ⟨rfl, H.out.setPre [27], setTm w a 5 _⟩

set_option maxRecDepth 100000 in
set_option maxHeartbeats 400000 in
theorem graph_vt (h : VtIn w a v) (s : ByteArray) (b : Bool) (p : Nat) (hp : w.cell? ⟨p, 0, none⟩ = some (.bool b)) : Calls Tryz.prog 102 #[ptr a.tm, .string s, ptr p] w (Ends a { v with g := b } w) := by
  have c := h.cG
  have f := h.fz 2
  have H := Lib.hid h
  clear h
  go_enter Tryz.func102, Tryz.ntmps102
  go_wp2_with fail
  go_end0
  exact ⟨rfl, H.out.setG b, setTm w a 2 _⟩
set_option maxRecDepth 100000 in
set_option maxHeartbeats 400000 in
theorem keypad_vt (h : VtIn w a v) (s : ByteArray) (b : Bool) (p : Nat) (hp : w.cell? ⟨p, 0, none⟩ = some (.bool b)) : Calls Tryz.prog 103 #[ptr a.tm, .string s, ptr p] w (Ends a { v with k := b } w) := by
  have c := h.cK
  have f := h.fz 3
  have H := Lib.hid h
  clear h
  go_enter Tryz.func103, Tryz.ntmps103
  go_wp2_with fail
  go_end0
  exact ⟨rfl, H.out.setK b, setTm w a 3 _⟩
set_option maxRecDepth 100000 in
set_option maxHeartbeats 400000 in
theorem hold_vt (h : VtIn w a v) (s : ByteArray) (b : Bool) (p : Nat) (hp : w.cell? ⟨p, 0, none⟩ = some (.bool b)) : Calls Tryz.prog 104 #[ptr a.tm, .string s, ptr p] w (Ends a { v with h := b } w) := by
  have c := h.cH
  have f := h.fz 4
  have H := Lib.hid h
  clear h
  go_enter Tryz.func104, Tryz.ntmps104
  go_wp2_with fail
  go_end0
  exact ⟨rfl, H.out.setH b, setTm w a 4 _⟩

set_option maxRecDepth 100000 in
set_option maxHeartbeats 400000 in
theorem step_vt (h : VtIn w a v) (s : ByteArray) (r c : Int) (p q : Nat) (hp : w.cell? ⟨p, 0, none⟩ = some (.int .i64 r)) (hq : w.cell? ⟨q, 0, none⟩ = some (.int .i64 c)) : Calls Tryz.prog 93 #[ptr a.tm, .string s, ptr p, ptr q] w (Ends a { v with z := stepZ v.z r c } w) := by
  have c0 := h.cS
  have H := Lib.hid h
  clear h
  go_enter Tryz.func93, Tryz.ntmps93
  go_wp2_with fail
  go_still_tail 6, (by kernel_rfl)
  repeat still_step
  change wpList _ _ _ _ _ w.drew
  go_wp2_with fail
  refine (vstep (H.out.kept0 (Kept.refl _ w).drew) r c).mono ?_
  rintro e w1 ⟨rfl, h1, k1⟩
  have H1 : Hid (VtIn w1 a { v with z := stepZ v.z r c } ∧ Kept a.O w w1) := ⟨h1, ((Kept.refl _ w).drew).trans k1⟩
  clear h1 k1
  go_wp2_with fail
  go_end0
  exact ⟨rfl, H1.out⟩

set_option maxRecDepth 100000 in
set_option maxHeartbeats 400000 in
theorem line_vt (h : VtIn w a v) (s : ByteArray) (n : Int) (hn : -9223372036854775808 ≤ n ∧ n ≤ 9223372036854775807) (p : Nat) (hp : w.cell? ⟨p, 0, none⟩ = some (.int .i64 n)) : Calls Tryz.prog 95 #[ptr a.tm, .string s, ptr p] w (Ends a { v with z := feedZ v.z n } w) := by
  have c0 := h.cS
  have H := Lib.hid h
  have HN := Lib.hid hn
  clear h hn
  go_enter Tryz.func95, Tryz.ntmps95
  go_wp2_with fail
  go_still_tail 5, (by kernel_rfl)
  repeat still_step
  change wpList _ _ _ _ _ w.drew
  go_wp2_with fail
  refine (vfeed (H.out.kept0 (Kept.refl _ w).drew) n HN.out).mono ?_
  rintro e w1 ⟨rfl, h1, k1⟩
  have H1 : Hid (VtIn w1 a { v with z := feedZ v.z n } ∧ Kept a.O w w1) := ⟨h1, ((Kept.refl _ w).drew).trans k1⟩
  clear h1 k1
  go_wp2_with fail
  go_end0
  exact ⟨rfl, H1.out⟩

set_option maxRecDepth 100000 in
set_option maxHeartbeats 400000 in
theorem first_vt (h : VtIn w a v) (s : ByteArray) : Calls Tryz.prog 74 #[ptr a.tm, .string s] w (Ends a { v with z := moveZ v.z v.z.r 0 } w) := by
  have c := h.cS
  have hl := h.ltm
  have hf := field45_0 v.z.r v.z.c
  have H := Lib.hid h
  clear h
  go_enter Tryz.func74, Tryz.ntmps74
  go_wp2_with fail
  go_region_held3 (fun w' => w'.cell? ⟨a.tm, 0, none⟩ = some (ptr a.s)) (go_keep)
    (first
      | (go_at_call 24; refine (vmove (HK.out.1) v.z.r 0).mono ?_; rintro e w3 ⟨rfl, h3, k3⟩; have H3 : Hid (VtIn w3 a { v with z := moveZ v.z v.z.r 0 } ∧ Kept a.O w w3) := ⟨h3, HK.out.2.trans k3⟩; have y := h3.cS; clear h3 k3)
      | (go_at_call 41; refine (at_vt (H.out.kept0 (Kept.refl _ w).drew)).mono ?_; rintro e w2 ⟨rfl, k2⟩; have HK : Hid (VtIn w2 a v ∧ Kept a.O w w2) := ⟨H.out.kept0 ((Kept.refl _ w).drew.trans k2), (Kept0.to ((Kept.refl (fun _ => False) w).drew.trans k2))⟩; have z := HK.out.1.cS; clear k2))
  all_goals
    go_wp2_with fail
    go_end0
    exact ⟨rfl, H3.out⟩

set_option maxRecDepth 100000 in
set_option maxHeartbeats 400000 in
theorem wipe_vt (h : VtIn w a v) (p q : Int) : Calls Tryz.prog 25 #[ptr a.tm, pos p q] w (Ends a { v with z := wipeZ v.z v.z.r v.z.c p q } w) := by
  have c := h.cS
  have hl := h.ltm
  have H := Lib.hid h
  clear h
  go_enter Tryz.func25, Tryz.ntmps25
  go_wp2_with fail
  obtain ⟨W, hW⟩ : ∃ W, W = w.alloc (.cells #[.int .i64 p, .int .i64 q] 45) := ⟨_, rfl⟩
  have k0 : Kept0 w W := by rw [hW]; exact (Kept.refl _ w).alloc _
  have hp : Two W w.heap.size p q := by rw [hW]; exact Two.of (heap_new _ _)
  rw [← hW]
  clear hW
  have HW := Lib.hid (H.out.kept0 k0)
  have K0 := Lib.hid k0
  have hbl := H.out.blank.kept0 k0
  obtain ⟨g0, g1, g2, g3⟩ := hbl.cel
  replace c := kcell k0 c
  clear k0 hbl
  have nO : ¬ a.O w.heap.size := fun e => Nat.lt_irrefl _ (H.out.lt _ e)
  obtain ⟨p0, p1, p2, p3⟩ := hp
  go_region_held3 (fun w' => w'.cell? ⟨a.tm, 0, none⟩ = some (ptr a.s) ∧ w'.cell? ⟨w.heap.size, 0, none⟩ = some (.int .i64 p) ∧ w'.cell? ⟨w.heap.size, 1, none⟩ = some (.int .i64 q) ∧ w'.cell? ⟨0, 0, none⟩ = some (.int .i32 blk.g) ∧ w'.cell? ⟨0, 1, none⟩ = some (.int .i64 blk.a) ∧ w'.cell? ⟨0, 2, none⟩ = some (.bool blk.b) ∧ w'.cell? ⟨0, 3, none⟩ = some (.int .i64 blk.m)) (go_keep)
    (first
      | (go_at_call 40; refine (vwipe HK.out.1 v.z.r v.z.c p q).mono ?_; rintro e w3 ⟨rfl, h3, k3⟩; have H3 : Hid (VtIn w3 a { v with z := wipeZ v.z v.z.r v.z.c p q } ∧ Kept a.O w w3) := ⟨h3, HK.out.2.trans k3⟩; have y := h3.cS; have y0 := kcellS k3 p4 nO; have y1 := kcellS k3 p5 nO; have b5 := h3.blank.cel; obtain ⟨x0, x1, x2, x3⟩ := b5; clear h3 k3)
      | (go_at_call 41; refine (at_vt (HW.out.kept0 (Kept.refl _ W).drew)).mono ?_; rintro e w2 ⟨rfl, k2⟩; have HK : Hid (VtIn w2 a v ∧ Kept a.O w w2) := ⟨HW.out.kept0 ((Kept.refl _ W).drew.trans k2), (Kept0.to (K0.out.trans ((Kept.refl (fun _ => False) W).drew.trans k2)))⟩; have z := HK.out.1.cS; have b4 := HK.out.1.blank.cel; obtain ⟨z0, z1, z2, z3⟩ := b4; have p4 := kcell k2 (show W.drew.cell? _ = _ from p0); have p5 := kcell k2 (show W.drew.cell? _ = _ from p1); clear k2))
  all_goals
    go_wp2_with fail
    go_end0
    exact ⟨rfl, H3.out⟩
end
end Go.Proofs.YtlhajbcabpfbkaaGreatDoor
