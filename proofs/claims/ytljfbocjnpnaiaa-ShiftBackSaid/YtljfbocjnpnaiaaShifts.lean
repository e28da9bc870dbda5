/-
  What Up, Lines and Chars of package shift do.
-/
import Derived.Test.YtljfbocjnpnaiaaTurn
namespace Go.Proofs.Ytljfbocjnpnaiaa
open Go.RowKit

/-- A cell as a value. -/
abbrev Cel.v (x : Cel) : Value := .agg #[.int .i32 x.g, .int .i64 x.a, .bool x.b, .int .i64 x.m]

set_option maxHeartbeats 1000000 in
theorem up_core (T : Nat → Prop) (P : World → Prop) (g : Value) (R C n E : Int) (x : Cel) (w : World) (hT : ∀ k, T k → k < w.heap.size) (hR : 0 ≤ R ∧ R ≤ 255)
    (hsize : ∀ w', Kept0 w w' → Calls Try.prog 32 #[g] w' fun e w'' => e = .returned (.agg #[.int .i64 R, .int .i64 C]) ∧ Kept0 w' w'')
    (hroll : ∀ w', Kept0 w w' → Calls Try.prog 34 #[g, .int .i64 0, .int .i64 (R - 1), .int .i64 n, x.v] w' fun e w'' => e = .returned (.int .i64 E) ∧ P w'' ∧ Kept T w' w'') :
    Calls Try.prog 18 #[g, .int .i64 n, x.v] w fun e w' => e = .returned (.int .i64 E) ∧ P w' := by
  have HS := Lib.hid hsize
  have HRL := Lib.hid hroll
  have Hs : Hid (IntKind.i64.wrap (R - 1) = R - 1) := by
    show _ = _
    rw [IntWalk.i64_left, w64 (by omega) (by omega)]
  have hfld : ∀ w, (Instr.field 72 (.agg #[.int .i64 R, .int .i64 C]) 0).run Try.prog w = .ok (.int .i64 R) w := fun _ => by kernel_rfl
  have HT := Lib.hid hT
  clear hsize hroll hT hR
  have hx := CelAt.new w x 44
  go_enter Try.func18, Try.ntmps18
  go_wp2_with fail
  obtain ⟨W, hW⟩ : ∃ W, W = w.alloc (.cells #[.int .i32 x.g, .int .i64 x.a, .bool x.b, .int .i64 x.m] 44) := ⟨_, rfl⟩
  have k0 : Kept0 w W := by rw [hW]; exact (Kept.refl _ w).alloc _
  rw [← hW] at hx ⊢
  clear hW
  have KK := Lib.hid k0
  obtain ⟨z0, z1, z2, z3⟩ := hx
  have hx2 : Hid (CelAt W w.heap.size x) := ⟨z0, z1, z2, z3⟩
  go_region_held3 (fun w' => w'.cell? ⟨w.heap.size, 0, none⟩ = some (.int .i32 x.g) ∧ w'.cell? ⟨w.heap.size, 1, none⟩ = some (.int .i64 x.a) ∧ w'.cell? ⟨w.heap.size, 2, none⟩ = some (.bool x.b) ∧ w'.cell? ⟨w.heap.size, 3, none⟩ = some (.int .i64 x.m)) (go_keep)
    (first
      | (go_at_call 32; refine (HS.out _ (Kept.drew KK.out)).mono ?_; rintro e w3 ⟨rfl, hk3⟩; have kn : Hid (Kept0 W w3) := (Kept.refl _ W).drew.trans hk3; obtain ⟨v0, v1, v2, v3⟩ := hx2.out.kept kn.out (fun e => e))
      | (go_at_call 34; rw [Hs.out]; refine (HRL.out _ (KK.out.trans kn.out)).mono ?_; rintro e w4 ⟨rfl, hP, hk4⟩; obtain ⟨v0, v1, v2, v3⟩ := (hx2.out.kept kn.out (fun e => e)).kept hk4 (fun e => Nat.lt_irrefl _ (HT.out _ e))))
  all_goals
    go_wp2
    go_ret
    exact ⟨rfl, hP⟩

set_option maxHeartbeats 1000000 in
theorem lines_core (T : Nat → Prop) (P : World → Prop) (gp : Option Addr) (R C r n E : Int) (x : Cel) (b : Bool) (w : World) (hT : ∀ k, T k → k < w.heap.size) (hR : 0 ≤ R ∧ R ≤ 255) (hn : n ≤ 9223372036854775807)
    (hgd : b = true → ∀ w', Kept0 w w' → Calls Try.prog 12 #[.pointer gp, .int .i64 r] w' fun e w'' => e = .returned (.tuple #[.int .i64 0, .int .i64 0]) ∧ Kept0 w' w'')
    (hsize : ∀ w', Kept0 w w' → Calls Try.prog 32 #[.pointer gp] w' fun e w'' => e = .returned (.agg #[.int .i64 R, .int .i64 C]) ∧ Kept0 w' w'')
    (hroll : ∀ w', Kept0 w w' → Calls Try.prog 34 #[.pointer gp, .int .i64 r, .int .i64 (R - 1), .int .i64 (opp n), x.v] w' fun e w'' => e = .returned (.int .i64 E) ∧ P w'' ∧ Kept T w' w'') :
    Calls Try.prog 14 #[.pointer gp, .int .i64 r, .int .i64 n, x.v, .bool b] w fun e w' => e = .returned (.int .i64 E) ∧ P w' := by
  have HS := Lib.hid hsize
  have HRL := Lib.hid hroll
  have HGD := Lib.hid hgd
  have Hs : Hid (IntKind.i64.wrap (R - 1) = R - 1) := by
    show _ = _
    rw [IntWalk.i64_left, w64 (by omega) (by omega)]
  have hfld : ∀ w, (Instr.field 72 (.agg #[.int .i64 R, .int .i64 C]) 0).run Try.prog w = .ok (.int .i64 R) w := fun _ => by kernel_rfl
  have HT := Lib.hid hT
  have Hn := Lib.hid hn
  clear hsize hroll hT hR hgd hn
  have hx := CelAt.new w x 44
  have FIN : ∀ (W : World), Hid (Kept0 w W) → CelAt W w.heap.size x → True := fun _ _ _ => trivial
  cases b
  · go_enter Try.func14, Try.ntmps14
    go_wp2_with fail
    obtain ⟨W, hW⟩ : ∃ W, W = w.alloc (.cells #[.int .i32 x.g, .int .i64 x.a, .bool x.b, .int .i64 x.m] 44) := ⟨_, rfl⟩
    have k0 : Kept0 w W := by rw [hW]; exact (Kept.refl _ w).alloc _
    rw [← hW] at hx ⊢
    clear hW FIN
    have KK := Lib.hid k0
    obtain ⟨z0, z1, z2, z3⟩ := hx
    have hx2 : Hid (CelAt W w.heap.size x) := ⟨z0, z1, z2, z3⟩
    clear k0
    go_region_held3 (fun w' => w'.cell? ⟨w.heap.size, 0, none⟩ = some (.int .i32 x.g) ∧ w'.cell? ⟨w.heap.size, 1, none⟩ = some (.int .i64 x.a) ∧ w'.cell? ⟨w.heap.size, 2, none⟩ = some (.bool x.b) ∧ w'.cell? ⟨w.heap.size, 3, none⟩ = some (.int .i64 x.m)) (go_keep)
      (first
        | (go_at_call 35; refine (opposite_any _ _ Hn.out).mono ?_; rintro e w5 ⟨rfl, rfl⟩)
        | (go_at_call 32; refine (HS.out _ (Kept.drew KK.out)).mono ?_; rintro e w3 ⟨rfl, hk3⟩; have kn : Hid (Kept0 W w3) := (Kept.refl _ W).drew.trans hk3; obtain ⟨v0, v1, v2, v3⟩ := hx2.out.kept kn.out (fun e => e))
        | (go_at_call 34; rw [Hs.out]; refine (HRL.out _ (KK.out.trans kn.out)).mono ?_; rintro e w4 ⟨rfl, hP, hk4⟩; obtain ⟨v0, v1, v2, v3⟩ := (hx2.out.kept kn.out (fun e => e)).kept hk4 (fun e => Nat.lt_irrefl _ (HT.out _ e))))
    all_goals
      go_wp2
      go_ret
      exact ⟨rfl, hP⟩
  · have HG1 := Lib.hid (HGD.out rfl)
    clear HGD
    go_enter Try.func14, Try.ntmps14
    go_wp2_with fail
    obtain ⟨V, hV⟩ : ∃ V, V = w.alloc (.cells #[.int .i32 x.g, .int .i64 x.a, .bool x.b, .int .i64 x.m] 44) := ⟨_, rfl⟩
    have k0 : Kept0 w V := by rw [hV]; exact (Kept.refl _ w).alloc _
    rw [← hV] at hx ⊢
    clear hV FIN
    refine (HG1.out _ k0).mono ?_
    rintro e W ⟨rfl, hk1⟩
    have KK := Lib.hid (k0.trans hk1)
    obtain ⟨z0, z1, z2, z3⟩ := hx.kept hk1 (fun e => e)
    have hx2 : Hid (CelAt W w.heap.size x) := ⟨z0, z1, z2, z3⟩
    clear k0 hk1 hx
    go_wp2_with fail
    go_region_held3 (fun w' => w'.cell? ⟨w.heap.size, 0, none⟩ = some (.int .i32 x.g) ∧ w'.cell? ⟨w.heap.size, 1, none⟩ = some (.int .i64 x.a) ∧ w'.cell? ⟨w.heap.size, 2, none⟩ = some (.bool x.b) ∧ w'.cell? ⟨w.heap.size, 3, none⟩ = some (.int .i64 x.m)) (go_keep)
      (first
        | (go_at_call 35; refine (opposite_any _ _ Hn.out).mono ?_; rintro e w5 ⟨rfl, rfl⟩)
        | (go_at_call 32; refine (HS.out _ (Kept.drew KK.out)).mono ?_; rintro e w3 ⟨rfl, hk3⟩; have kn : Hid (Kept0 W w3) := (Kept.refl _ W).drew.trans hk3; obtain ⟨v0, v1, v2, v3⟩ := hx2.out.kept kn.out (fun e => e))
        | (go_at_call 34; rw [Hs.out]; refine (HRL.out _ (KK.out.trans kn.out)).mono ?_; rintro e w4 ⟨rfl, hP, hk4⟩; obtain ⟨v0, v1, v2, v3⟩ := (hx2.out.kept kn.out (fun e => e)).kept hk4 (fun e => Nat.lt_irrefl _ (HT.out _ e))))
    all_goals
      go_wp2
      go_ret
      exact ⟨rfl, hP⟩

set_option maxHeartbeats 400000 in
theorem lines_stop (gp : Option Addr) (r n E : Int) (k : Int) (x : Cel) (w : World) (hE : ¬ E = 0 ∨ 0 < k)
    (hgd : ∀ w', Kept0 w w' → Calls Try.prog 12 #[.pointer gp, .int .i64 r] w' fun e w'' => e = .returned (.tuple #[.int .i64 k, .int .i64 E]) ∧ Kept0 w' w'') :
    Calls Try.prog 14 #[.pointer gp, .int .i64 r, .int .i64 n, x.v, .bool true] w fun e w' => e = .returned (.int .i64 E) ∧ Kept0 w w' := by
  have HGD := Lib.hid hgd
  clear hgd
  rcases hE with hE | hE
  · go_enter Try.func14, Try.ntmps14
    go_wp2_with fail
    refine (HGD.out _ ((Kept.refl _ w).alloc _)).mono ?_
    rintro e W ⟨rfl, hk1⟩
    go_wp2_with fail
    go_ret
    exact ⟨rfl, ((Kept.refl _ w).alloc _).trans hk1⟩
  · by_cases h0 : E = 0
    · subst h0
      go_enter Try.func14, Try.ntmps14
      go_wp2_with fail
      refine (HGD.out _ ((Kept.refl _ w).alloc _)).mono ?_
      rintro e W ⟨rfl, hk1⟩
      go_wp2_with fail
      go_ret
      exact ⟨rfl, ((Kept.refl _ w).alloc _).trans hk1⟩
    · go_enter Try.func14, Try.ntmps14
      go_wp2_with fail
      refine (HGD.out _ ((Kept.refl _ w).alloc _)).mono ?_
      rintro e W ⟨rfl, hk1⟩
      go_wp2_with fail
      go_ret
      exact ⟨rfl, ((Kept.refl _ w).alloc _).trans hk1⟩

set_option maxHeartbeats 1000000 in
theorem chars_core (T : Nat → Prop) (P : World → Prop) (gp : Option Addr) (R C r c n E L fr : Int) (x : Cel) (b : Bool) (w : World) (hT : ∀ k, T k → k < w.heap.size) (hC : 0 ≤ C ∧ C ≤ 255) (hn : n ≤ 9223372036854775807)
    (hL : b = false → L = C - 1)
    (hgd : b = true → ∀ w', Kept0 w w' → Calls Try.prog 20 #[.pointer gp, .agg #[.int .i64 r, .int .i64 c]] w' fun e w'' => e = .returned (.tuple #[.int .i64 fr, .int .i64 L, .int .i64 0]) ∧ Kept0 w' w'')
    (hsize : ∀ w', Kept0 w w' → Calls Try.prog 32 #[.pointer gp] w' fun e w'' => e = .returned (.agg #[.int .i64 R, .int .i64 C]) ∧ Kept0 w' w'')
    (hslide : ∀ w', Kept0 w w' → Calls Try.prog 39 #[.pointer gp, .int .i64 r, .int .i64 c, .int .i64 L, .int .i64 (opp n), x.v] w' fun e w'' => e = .returned (.int .i64 E) ∧ P w'' ∧ Kept T w' w'') :
    Calls Try.prog 24 #[.pointer gp, .agg #[.int .i64 r, .int .i64 c], .int .i64 n, x.v, .bool b] w fun e w' => e = .returned (.int .i64 E) ∧ P w' := by
  have HS := Lib.hid hsize
  have HRL := Lib.hid hslide
  have HGD := Lib.hid hgd
  have HL := Lib.hid hL
  have Hs : wrap64 (C - 1) = C - 1 := w64 (by omega) (by omega)
  have Hs2 : IntKind.i64.wrap (C - 1) = C - 1 := by rw [IntWalk.i64_left]; exact Hs
  have hfld : ∀ w, (Instr.field 72 (.agg #[.int .i64 R, .int .i64 C]) 1).run Try.prog w = .ok (.int .i64 C) w := fun _ => by kernel_rfl
  have HT := Lib.hid hT
  have Hn := Lib.hid hn
  clear hsize hslide hT hgd hn hL
  have hp0 : ∀ o, ((w.alloc (.cells #[.int .i64 r, .int .i64 c] 26)).alloc o).cell? ⟨w.heap.size, 0, none⟩ = some (.int .i64 r) := fun o => by simp [go_sem]
  have hp1 : ∀ o, ((w.alloc (.cells #[.int .i64 r, .int .i64 c] 26)).alloc o).cell? ⟨w.heap.size, 1, none⟩ = some (.int .i64 c) := fun o => by simp [go_sem]
  have hx := CelAt.new (w.alloc (.cells #[.int .i64 r, .int .i64 c] 26)) x 44
  rw [World.size_alloc] at hx
  go_enter Try.func24, Try.ntmps24
  go_wp2_with fail
  obtain ⟨V, hV⟩ : ∃ V, V = (w.alloc (.cells #[.int .i64 r, .int .i64 c] 26)).alloc (.cells #[.int .i32 x.g, .int .i64 x.a, .bool x.b, .int .i64 x.m] 44) := ⟨_, rfl⟩
  have k0 : Kept0 w V := by rw [hV]; exact ((Kept.refl _ w).alloc _).alloc _
  replace hp0 : V.cell? ⟨w.heap.size, 0, none⟩ = some (.int .i64 r) := by rw [hV]; exact hp0 _
  replace hp1 : V.cell? ⟨w.heap.size, 1, none⟩ = some (.int .i64 c) := by rw [hV]; exact hp1 _
  rw [← hV] at hx ⊢
  clear hV
  refine (HS.out _ k0).mono ?_
  rintro e V1 ⟨rfl, hk1⟩
  replace hp0 := kcell hk1 hp0
  replace hp1 := kcell hk1 hp1
  replace hx := hx.kept hk1 (fun e => e)
  replace k0 := k0.trans hk1
  clear hk1
  cases b
  · have hL2 := HL.out rfl
    clear HL
    subst hL2
    go_wp2_with fail
    have KK := Lib.hid k0
    obtain ⟨z0, z1, z2, z3⟩ := hx
    have hx2 : Hid (CelAt V1 (w.heap.size + 1) x) := ⟨z0, z1, z2, z3⟩
    clear k0
    go_region_held3 (fun w' => w'.cell? ⟨w.heap.size, 0, none⟩ = some (.int .i64 r) ∧ w'.cell? ⟨w.heap.size, 1, none⟩ = some (.int .i64 c) ∧ w'.cell? ⟨w.heap.size + 1, 0, none⟩ = some (.int .i32 x.g) ∧ w'.cell? ⟨w.heap.size + 1, 1, none⟩ = some (.int .i64 x.a) ∧ w'.cell? ⟨w.heap.size + 1, 2, none⟩ = some (.bool x.b) ∧ w'.cell? ⟨w.heap.size + 1, 3, none⟩ = some (.int .i64 x.m)) (go_keep)
      (first
        | (go_at_call 35; refine (opposite_any _ _ Hn.out).mono ?_; rintro e w5 ⟨rfl, rfl⟩)
        | (go_at_call 39; refine (HRL.out _ (Kept.drew KK.out)).mono ?_; rintro e w4 ⟨rfl, hP, hk4⟩; obtain ⟨v0, v1, v2, v3⟩ := (CelAt.drew hx2.out).kept hk4 (fun e => by have := HT.out _ e; omega); have u0 := kcellS hk4 (show V1.drew.cell? _ = _ from hp0) (fun e => Nat.lt_irrefl _ (HT.out _ e)); have u1 := kcellS hk4 (show V1.drew.cell? _ = _ from hp1) (fun e => Nat.lt_irrefl _ (HT.out _ e))))
    all_goals
      go_wp2
      go_ret
      exact ⟨rfl, hP⟩
  · clear HL
    have HG1 := Lib.hid (HGD.out rfl)
    clear HGD
    go_wp2_with fail
    refine (HG1.out _ k0).mono ?_
    rintro e V2 ⟨rfl, hk1⟩
    have KK := Lib.hid (k0.trans hk1)
    obtain ⟨z0, z1, z2, z3⟩ := hx.kept hk1 (fun e => e)
    replace hp0 := kcell hk1 hp0
    replace hp1 := kcell hk1 hp1
    have hx2 : Hid (CelAt V2 (w.heap.size + 1) x) := ⟨z0, z1, z2, z3⟩
    clear k0 hk1 hx
    go_wp2_with fail
    go_region_held3 (fun w' => w'.cell? ⟨w.heap.size, 0, none⟩ = some (.int .i64 r) ∧ w'.cell? ⟨w.heap.size, 1, none⟩ = some (.int .i64 c) ∧ w'.cell? ⟨w.heap.size + 1, 0, none⟩ = some (.int .i32 x.g) ∧ w'.cell? ⟨w.heap.size + 1, 1, none⟩ = some (.int .i64 x.a) ∧ w'.cell? ⟨w.heap.size + 1, 2, none⟩ = some (.bool x.b) ∧ w'.cell? ⟨w.heap.size + 1, 3, none⟩ = some (.int .i64 x.m)) (go_keep)
      (first
        | (go_at_call 35; refine (opposite_any _ _ Hn.out).mono ?_; rintro e w5 ⟨rfl, rfl⟩)
        | (go_at_call 39; refine (HRL.out _ (Kept.drew KK.out)).mono ?_; rintro e w4 ⟨rfl, hP, hk4⟩; obtain ⟨v0, v1, v2, v3⟩ := (CelAt.drew hx2.out).kept hk4 (fun e => by have := HT.out _ e; omega); have u0 := kcellS hk4 (show V2.drew.cell? _ = _ from hp0) (fun e => Nat.lt_irrefl _ (HT.out _ e)); have u1 := kcellS hk4 (show V2.drew.cell? _ = _ from hp1) (fun e => Nat.lt_irrefl _ (HT.out _ e))))
    all_goals
      go_wp2
      go_ret
      exact ⟨rfl, hP⟩

set_option maxHeartbeats 400000 in
theorem chars_stop (gp : Option Addr) (R C r c n E fr to : Int) (x : Cel) (w : World) (hE : ¬ E = 0)
    (hgd : ∀ w', Kept0 w w' → Calls Try.prog 20 #[.pointer gp, .agg #[.int .i64 r, .int .i64 c]] w' fun e w'' => e = .returned (.tuple #[.int .i64 fr, .int .i64 to, .int .i64 E]) ∧ Kept0 w' w'')
    (hsize : ∀ w', Kept0 w w' → Calls Try.prog 32 #[.pointer gp] w' fun e w'' => e = .returned (.agg #[.int .i64 R, .int .i64 C]) ∧ Kept0 w' w'') :
    Calls Try.prog 24 #[.pointer gp, .agg #[.int .i64 r, .int .i64 c], .int .i64 n, x.v, .bool true] w fun e w' => e = .returned (.int .i64 (if E = 15 then 0 else E)) ∧ Kept0 w w' := by
  have HS := Lib.hid hsize
  have HGD := Lib.hid hgd
  have hfld : ∀ w, (Instr.field 72 (.agg #[.int .i64 R, .int .i64 C]) 1).run Try.prog w = .ok (.int .i64 C) w := fun _ => by kernel_rfl
  clear hsize hgd
  obtain ⟨D, hD⟩ : ∃ D, D = if E = 15 then 0 else E := ⟨_, rfl⟩
  rw [← hD]
  have HD := Lib.hid hD
  clear hD
  have hp0 : ∀ o, ((w.alloc (.cells #[.int .i64 r, .int .i64 c] 26)).alloc o).cell? ⟨w.heap.size, 0, none⟩ = some (.int .i64 r) := fun o => by simp [go_sem]
  have hp1 : ∀ o, ((w.alloc (.cells #[.int .i64 r, .int .i64 c] 26)).alloc o).cell? ⟨w.heap.size, 1, none⟩ = some (.int .i64 c) := fun o => by simp [go_sem]
  go_enter Try.func24, Try.ntmps24
  go_wp2_with fail
  obtain ⟨V, hV⟩ : ∃ V, V = (w.alloc (.cells #[.int .i64 r, .int .i64 c] 26)).alloc (.cells #[.int .i32 x.g, .int .i64 x.a, .bool x.b, .int .i64 x.m] 44) := ⟨_, rfl⟩
  have k0 : Kept0 w V := by rw [hV]; exact ((Kept.refl _ w).alloc _).alloc _
  replace hp0 : V.cell? ⟨w.heap.size, 0, none⟩ = some (.int .i64 r) := by rw [hV]; exact hp0 _
  replace hp1 : V.cell? ⟨w.heap.size, 1, none⟩ = some (.int .i64 c) := by rw [hV]; exact hp1 _
  rw [← hV]
  clear hV
  refine (HS.out _ k0).mono ?_
  rintro e V1 ⟨rfl, hk1⟩
  replace hp0 := kcell hk1 hp0
  replace hp1 := kcell hk1 hp1
  replace k0 := k0.trans hk1
  clear hk1
  by_cases h15 : E = 15
  · subst h15
    go_wp2_with fail
    refine (HGD.out _ k0).mono ?_
    rintro e V2 ⟨rfl, hk1⟩
    go_wp2_with fail
    go_ret
    exact ⟨ret_int HD.out.symm, k0.trans hk1⟩
  · go_wp2_with fail
    refine (HGD.out _ k0).mono ?_
    rintro e V2 ⟨rfl, hk1⟩
    go_wp2_with fail
    go_ret
    exact ⟨ret_int (by rw [HD.out, if_neg h15]), k0.trans hk1⟩
end Go.Proofs.Ytljfbocjnpnaiaa
