/-
  The statements' own calls, draws and does, a case each.
-/
import Derived.Test.YtkpfhgfdfndliaaGreatDoorMSh2
import Derived.Test.YtkpfhgfdfndliaaGreatDoorScrT
import Derived.Test.YtkpfhgfdfndliaaGreatDoorScrC
import Derived.Test.YtkpfhgfdfndliaaGreatDoorScrD
namespace Go.Proofs.YtkpfhgfdfndliaaGreatDoor
open Go.RowKit

/-- A call of the statements'. -/
structure Op where
  ask : Int
  a1 : Int
  a2 : Int
  b1 : Int
  b2 : Int
  n : Int
  x : Cel
  wr : Int
  gd : Bool
abbrev opV (ask a1 a2 b1 b2 n : Int) (x : Cel) (wr : Int) (gd : Bool) : Value := .agg #[.int .i64 ask, .int .i64 a1, .int .i64 a2, .int .i64 b1, .int .i64 b2, .int .i64 n, .int .i32 x.g, .int .i64 x.a, .bool x.b, .int .i64 x.m, .int .i64 wr, .bool gd]
abbrev Op.v (o : Op) : Value := opV o.ask o.a1 o.a2 o.b1 o.b2 o.n o.x o.wr o.gd

/-- What a call leaves may be said of worlds in which new blocks alone are other ones. -/
structure Later (w : World) (P : World → World → Prop) : Prop where
  later : ∀ w1 w2 w3, Kept0 w w1 → P w1 w2 → Kept (fun i => w.heap.size ≤ i ∧ i < w1.heap.size) w2 w3 → P w w3
  old : ∀ w1 w2, P w1 w2 → Kept (fun i => i < w.heap.size) w1 w2


set_option maxRecDepth 100000 in
set_option maxHeartbeats 1000000 in
theorem draws_c0 (sp : Option Addr) (a1 a2 b1 b2 n wr : Int) (x : Cel) (gd : Bool) (w : World) (P : World → World → Prop) (V : Value) (hL : Later w P) 
    (hc : ∀ w', Kept0 w w' → Calls Tryz.prog 27 #[.pointer sp, x.v, .int .i64 wr, .bool gd] w' fun e w'' => e = .returned V ∧ P w' w'') :
    Calls Tryz.prog 36 #[.pointer sp, opV 0 a1 a2 b1 b2 n x wr gd] w fun e w' => e = .returned (.tuple #[]) ∧ P w w' := by
  have HC := Lib.hid hc
  have HL := Lib.hid hL
  clear hc hL
  go_enter Tryz.func36, Tryz.ntmps36
  go_wp2_with fail
  have kk : Kept0 w (w.alloc (.cells #[.int .i64 0, .int .i64 a1, .int .i64 a2, .int .i64 b1, .int .i64 b2, .int .i64 n, .int .i32 x.g, .int .i64 x.a, .bool x.b, .int .i64 x.m, .int .i64 wr, .bool gd] 42)) := (Kept.refl _ w).alloc _
  refine (HC.out _ kk).mono ?_
  rintro e w2 ⟨rfl, hp⟩
  have HP := Lib.hid (HL.out.later _ _ w2 kk hp (Kept.refl _ _))
  clear hp kk
  go_wp2_with fail
  go_end0
  exact ⟨rfl, HP.out⟩

set_option maxRecDepth 100000 in
set_option maxHeartbeats 1000000 in
theorem draws_c7 (sp : Option Addr) (a1 a2 b1 b2 n wr : Int) (x : Cel) (gd : Bool) (w : World) (P : World → World → Prop) (V : Value) (hL : Later w P) 
    (hc : ∀ w', Kept0 w w' → Calls Tryz.prog 71 #[.pointer sp, pos a1 a2, pos b1 b2, x.v, .bool gd] w' fun e w'' => e = .returned V ∧ P w' w'') :
    Calls Tryz.prog 36 #[.pointer sp, opV 7 a1 a2 b1 b2 n x wr gd] w fun e w' => e = .returned (.tuple #[]) ∧ P w w' := by
  have HC := Lib.hid hc
  have HL := Lib.hid hL
  clear hc hL
  go_enter Tryz.func36, Tryz.ntmps36
  go_wp2_with fail
  have kk : Kept0 w (w.alloc (.cells #[.int .i64 7, .int .i64 a1, .int .i64 a2, .int .i64 b1, .int .i64 b2, .int .i64 n, .int .i32 x.g, .int .i64 x.a, .bool x.b, .int .i64 x.m, .int .i64 wr, .bool gd] 42)) := (Kept.refl _ w).alloc _
  refine (HC.out _ kk).mono ?_
  rintro e w2 ⟨rfl, hp⟩
  have HP := Lib.hid (HL.out.later _ _ w2 kk hp (Kept.refl _ _))
  clear hp kk
  go_wp2_with fail
  go_end0
  exact ⟨rfl, HP.out⟩

set_option maxRecDepth 100000 in
set_option maxHeartbeats 1000000 in
theorem draws_c8 (sp : Option Addr) (a1 a2 b1 b2 n wr : Int) (x : Cel) (gd : Bool) (w : World) (P : World → World → Prop) (V : Value) (hL : Later w P) 
    (hc : ∀ w', Kept0 w w' → Calls Tryz.prog 72 #[.pointer sp, .int .i64 n, x.v, .bool gd] w' fun e w'' => e = .returned V ∧ P w' w'') :
    Calls Tryz.prog 36 #[.pointer sp, opV 8 a1 a2 b1 b2 n x wr gd] w fun e w' => e = .returned (.tuple #[]) ∧ P w w' := by
  have HC := Lib.hid hc
  have HL := Lib.hid hL
  clear hc hL
  go_enter Tryz.func36, Tryz.ntmps36
  go_wp2_with fail
  have kk : Kept0 w (w.alloc (.cells #[.int .i64 8, .int .i64 a1, .int .i64 a2, .int .i64 b1, .int .i64 b2, .int .i64 n, .int .i32 x.g, .int .i64 x.a, .bool x.b, .int .i64 x.m, .int .i64 wr, .bool gd] 42)) := (Kept.refl _ w).alloc _
  refine (HC.out _ kk).mono ?_
  rintro e w2 ⟨rfl, hp⟩
  have HP := Lib.hid (HL.out.later _ _ w2 kk hp (Kept.refl _ _))
  clear hp kk
  go_wp2_with fail
  go_end0
  exact ⟨rfl, HP.out⟩

set_option maxRecDepth 100000 in
set_option maxHeartbeats 1000000 in
theorem draws_c9 (sp : Option Addr) (a1 a2 b1 b2 n wr : Int) (x : Cel) (gd : Bool) (w : World) (P : World → World → Prop) (V : Value) (hL : Later w P) 
    (hc : ∀ w', Kept0 w w' → Calls Tryz.prog 73 #[.pointer sp, .int .i64 n, x.v, .bool gd] w' fun e w'' => e = .returned V ∧ P w' w'') :
    Calls Tryz.prog 36 #[.pointer sp, opV 9 a1 a2 b1 b2 n x wr gd] w fun e w' => e = .returned (.tuple #[]) ∧ P w w' := by
  have HC := Lib.hid hc
  have HL := Lib.hid hL
  clear hc hL
  go_enter Tryz.func36, Tryz.ntmps36
  go_wp2_with fail
  have kk : Kept0 w (w.alloc (.cells #[.int .i64 9, .int .i64 a1, .int .i64 a2, .int .i64 b1, .int .i64 b2, .int .i64 n, .int .i32 x.g, .int .i64 x.a, .bool x.b, .int .i64 x.m, .int .i64 wr, .bool gd] 42)) := (Kept.refl _ w).alloc _
  refine (HC.out _ kk).mono ?_
  rintro e w2 ⟨rfl, hp⟩
  have HP := Lib.hid (HL.out.later _ _ w2 kk hp (Kept.refl _ _))
  clear hp kk
  go_wp2_with fail
  go_end0
  exact ⟨rfl, HP.out⟩

set_option maxRecDepth 100000 in
set_option maxHeartbeats 1000000 in
theorem draws_c10 (sp : Option Addr) (a1 a2 b1 b2 n wr : Int) (x : Cel) (gd : Bool) (w : World) (P : World → World → Prop) (V : Value) (hL : Later w P) 
    (hc : ∀ w', Kept0 w w' → Calls Tryz.prog 74 #[.pointer sp, .int .i64 n, x.v, .bool gd] w' fun e w'' => e = .returned V ∧ P w' w'') :
    Calls Tryz.prog 36 #[.pointer sp, opV 10 a1 a2 b1 b2 n x wr gd] w fun e w' => e = .returned (.tuple #[]) ∧ P w w' := by
  have HC := Lib.hid hc
  have HL := Lib.hid hL
  clear hc hL
  go_enter Tryz.func36, Tryz.ntmps36
  go_wp2_with fail
  have kk : Kept0 w (w.alloc (.cells #[.int .i64 10, .int .i64 a1, .int .i64 a2, .int .i64 b1, .int .i64 b2, .int .i64 n, .int .i32 x.g, .int .i64 x.a, .bool x.b, .int .i64 x.m, .int .i64 wr, .bool gd] 42)) := (Kept.refl _ w).alloc _
  refine (HC.out _ kk).mono ?_
  rintro e w2 ⟨rfl, hp⟩
  have HP := Lib.hid (HL.out.later _ _ w2 kk hp (Kept.refl _ _))
  clear hp kk
  go_wp2_with fail
  go_end0
  exact ⟨rfl, HP.out⟩

set_option maxRecDepth 100000 in
set_option maxHeartbeats 1000000 in
theorem draws_none (sp : Option Addr) (ask a1 a2 b1 b2 n wr : Int) (x : Cel) (gd : Bool) (w : World) (n0 : ¬ ask = 0) (n7 : ¬ ask = 7) (n8 : ¬ ask = 8) (n9 : ¬ ask = 9) (n10 : ¬ ask = 10) :
    Calls Tryz.prog 36 #[.pointer sp, opV ask a1 a2 b1 b2 n x wr gd] w fun e w' => e = .returned (.tuple #[]) ∧ Kept0 w w' := by
  go_enter Tryz.func36, Tryz.ntmps36
  go_wp2_with fail
  go_end0
  exact ⟨rfl, (Kept.refl _ w).alloc _⟩

set_option maxRecDepth 100000 in
set_option maxHeartbeats 1000000 in
theorem does_d0 (sp : Option Addr) (a1 a2 b1 b2 n wr : Int) (x : Cel) (gd : Bool) (w : World) (P : World → World → Prop) (V : Value) (hL : Later w P) 
    (hc : ∀ w', Kept0 w w' → Calls Tryz.prog 36 #[.pointer sp, opV 0 a1 a2 b1 b2 n x wr gd] w' fun e w'' => e = .returned V ∧ P w' w'') :
    Calls Tryz.prog 14 #[.pointer sp, opV 0 a1 a2 b1 b2 n x wr gd] w fun e w' => e = .returned (.tuple #[zc.v, .int .i64 0]) ∧ P w w' := by
  have HC := Lib.hid hc
  have HL := Lib.hid hL
  clear hc hL
  go_enter Tryz.func14, Tryz.ntmps14
  go_wp2_with fail
  obtain ⟨W, hW⟩ : ∃ W, W = (w.alloc (.cells #[.int .i64 0, .int .i64 a1, .int .i64 a2, .int .i64 b1, .int .i64 b2, .int .i64 n, .int .i32 x.g, .int .i64 x.a, .bool x.b, .int .i64 x.m, .int .i64 wr, .bool gd] 42)).alloc (.cells #[.int .i32 0, .int .i64 0, .bool false, .int .i64 0] 36) := ⟨_, rfl⟩
  have kW : Kept0 w W := by rw [hW]; exact ((Kept.refl _ w).alloc _).alloc _
  have ho : CelW W (w.heap.size + 1) zc := by rw [hW]; have := CelW.new (w.alloc (.cells #[.int .i64 0, .int .i64 a1, .int .i64 a2, .int .i64 b1, .int .i64 b2, .int .i64 n, .int .i32 x.g, .int .i64 x.a, .bool x.b, .int .i64 x.m, .int .i64 wr, .bool gd] 42)) zc 36; rwa [World.size_alloc] at this
  rw [← hW]
  clear hW
  have lo := ho.lt
  refine (HC.out _ kW).mono ?_
  rintro e w2 ⟨rfl, hp⟩
  have ho2 := ho.kept (HL.out.old _ _ hp) (by omega)
  have HPP := Lib.hid hp
  have KW := Lib.hid kW
  clear hp kW ho
  obtain ⟨⟨o0, o1, o2, o3⟩, f0, f1, f2, f3⟩ := ho2
  go_wp2_with fail
  refine bodyPost_ret (v := .tuple #[zc.v, .int .i64 0]) (by simp [results, Tryz.results14, go_sem, o0, o1, o2, o3, zc]) rfl ⟨rfl, HL.out.later _ _ _ KW.out HPP.out ?_⟩
  first
    | exact Kept.refl _ _
    | exact ((((Kept.refl _ w2).setCell _ (Or.inr ⟨Nat.le_add_right _ 1, lo⟩) _).setCell _ (Or.inr ⟨Nat.le_add_right _ 1, lo⟩) _).setCell _ (Or.inr ⟨Nat.le_add_right _ 1, lo⟩) _).setCell _ (Or.inr ⟨Nat.le_add_right _ 1, lo⟩) _

set_option maxRecDepth 100000 in
set_option maxHeartbeats 1000000 in
theorem does_d7 (sp : Option Addr) (a1 a2 b1 b2 n wr : Int) (x : Cel) (gd : Bool) (w : World) (P : World → World → Prop) (V : Value) (hL : Later w P) 
    (hc : ∀ w', Kept0 w w' → Calls Tryz.prog 36 #[.pointer sp, opV 7 a1 a2 b1 b2 n x wr gd] w' fun e w'' => e = .returned V ∧ P w' w'') :
    Calls Tryz.prog 14 #[.pointer sp, opV 7 a1 a2 b1 b2 n x wr gd] w fun e w' => e = .returned (.tuple #[zc.v, .int .i64 0]) ∧ P w w' := by
  have HC := Lib.hid hc
  have HL := Lib.hid hL
  clear hc hL
  go_enter Tryz.func14, Tryz.ntmps14
  go_wp2_with fail
  obtain ⟨W, hW⟩ : ∃ W, W = (w.alloc (.cells #[.int .i64 7, .int .i64 a1, .int .i64 a2, .int .i64 b1, .int .i64 b2, .int .i64 n, .int .i32 x.g, .int .i64 x.a, .bool x.b, .int .i64 x.m, .int .i64 wr, .bool gd] 42)).alloc (.cells #[.int .i32 0, .int .i64 0, .bool false, .int .i64 0] 36) := ⟨_, rfl⟩
  have kW : Kept0 w W := by rw [hW]; exact ((Kept.refl _ w).alloc _).alloc _
  have ho : CelW W (w.heap.size + 1) zc := by rw [hW]; have := CelW.new (w.alloc (.cells #[.int .i64 7, .int .i64 a1, .int .i64 a2, .int .i64 b1, .int .i64 b2, .int .i64 n, .int .i32 x.g, .int .i64 x.a, .bool x.b, .int .i64 x.m, .int .i64 wr, .bool gd] 42)) zc 36; rwa [World.size_alloc] at this
  rw [← hW]
  clear hW
  have lo := ho.lt
  refine (HC.out _ kW).mono ?_
  rintro e w2 ⟨rfl, hp⟩
  have ho2 := ho.kept (HL.out.old _ _ hp) (by omega)
  have HPP := Lib.hid hp
  have KW := Lib.hid kW
  clear hp kW ho
  obtain ⟨⟨o0, o1, o2, o3⟩, f0, f1, f2, f3⟩ := ho2
  go_wp2_with fail
  refine bodyPost_ret (v := .tuple #[zc.v, .int .i64 0]) (by simp [results, Tryz.results14, go_sem, o0, o1, o2, o3, zc]) rfl ⟨rfl, HL.out.later _ _ _ KW.out HPP.out ?_⟩
  first
    | exact Kept.refl _ _
    | exact ((((Kept.refl _ w2).setCell _ (Or.inr ⟨Nat.le_add_right _ 1, lo⟩) _).setCell _ (Or.inr ⟨Nat.le_add_right _ 1, lo⟩) _).setCell _ (Or.inr ⟨Nat.le_add_right _ 1, lo⟩) _).setCell _ (Or.inr ⟨Nat.le_add_right _ 1, lo⟩) _

set_option maxRecDepth 100000 in
set_option maxHeartbeats 1000000 in
theorem does_d8 (sp : Option Addr) (a1 a2 b1 b2 n wr : Int) (x : Cel) (gd : Bool) (w : World) (P : World → World → Prop) (V : Value) (hL : Later w P) 
    (hc : ∀ w', Kept0 w w' → Calls Tryz.prog 36 #[.pointer sp, opV 8 a1 a2 b1 b2 n x wr gd] w' fun e w'' => e = .returned V ∧ P w' w'') :
    Calls Tryz.prog 14 #[.pointer sp, opV 8 a1 a2 b1 b2 n x wr gd] w fun e w' => e = .returned (.tuple #[zc.v, .int .i64 0]) ∧ P w w' := by
  have HC := Lib.hid hc
  have HL := Lib.hid hL
  clear hc hL
  go_enter Tryz.func14, Tryz.ntmps14
  go_wp2_with fail
  obtain ⟨W, hW⟩ : ∃ W, W = (w.alloc (.cells #[.int .i64 8, .int .i64 a1, .int .i64 a2, .int .i64 b1, .int .i64 b2, .int .i64 n, .int .i32 x.g, .int .i64 x.a, .bool x.b, .int .i64 x.m, .int .i64 wr, .bool gd] 42)).alloc (.cells #[.int .i32 0, .int .i64 0, .bool false, .int .i64 0] 36) := ⟨_, rfl⟩
  have kW : Kept0 w W := by rw [hW]; exact ((Kept.refl _ w).alloc _).alloc _
  have ho : CelW W (w.heap.size + 1) zc := by rw [hW]; have := CelW.new (w.alloc (.cells #[.int .i64 8, .int .i64 a1, .int .i64 a2, .int .i64 b1, .int .i64 b2, .int .i64 n, .int .i32 x.g, .int .i64 x.a, .bool x.b, .int .i64 x.m, .int .i64 wr, .bool gd] 42)) zc 36; rwa [World.size_alloc] at this
  rw [← hW]
  clear hW
  have lo := ho.lt
  refine (HC.out _ kW).mono ?_
  rintro e w2 ⟨rfl, hp⟩
  have ho2 := ho.kept (HL.out.old _ _ hp) (by omega)
  have HPP := Lib.hid hp
  have KW := Lib.hid kW
  clear hp kW ho
  obtain ⟨⟨o0, o1, o2, o3⟩, f0, f1, f2, f3⟩ := ho2
  go_wp2_with fail
  refine bodyPost_ret (v := .tuple #[zc.v, .int .i64 0]) (by simp [results, Tryz.results14, go_sem, o0, o1, o2, o3, zc]) rfl ⟨rfl, HL.out.later _ _ _ KW.out HPP.out ?_⟩
  first
    | exact Kept.refl _ _
    | exact ((((Kept.refl _ w2).setCell _ (Or.inr ⟨Nat.le_add_right _ 1, lo⟩) _).setCell _ (Or.inr ⟨Nat.le_add_right _ 1, lo⟩) _).setCell _ (Or.inr ⟨Nat.le_add_right _ 1, lo⟩) _).setCell _ (Or.inr ⟨Nat.le_add_right _ 1, lo⟩) _

set_option maxRecDepth 100000 in
set_option maxHeartbeats 1000000 in
theorem does_d9 (sp : Option Addr) (a1 a2 b1 b2 n wr : Int) (x : Cel) (gd : Bool) (w : World) (P : World → World → Prop) (V : Value) (hL : Later w P) 
    (hc : ∀ w', Kept0 w w' → Calls Tryz.prog 36 #[.pointer sp, opV 9 a1 a2 b1 b2 n x wr gd] w' fun e w'' => e = .returned V ∧ P w' w'') :
    Calls Tryz.prog 14 #[.pointer sp, opV 9 a1 a2 b1 b2 n x wr gd] w fun e w' => e = .returned (.tuple #[zc.v, .int .i64 0]) ∧ P w w' := by
  have HC := Lib.hid hc
  have HL := Lib.hid hL
  clear hc hL
  go_enter Tryz.func14, Tryz.ntmps14
  go_wp2_with fail
  obtain ⟨W, hW⟩ : ∃ W, W = (w.alloc (.cells #[.int .i64 9, .int .i64 a1, .int .i64 a2, .int .i64 b1, .int .i64 b2, .int .i64 n, .int .i32 x.g, .int .i64 x.a, .bool x.b, .int .i64 x.m, .int .i64 wr, .bool gd] 42)).alloc (.cells #[.int .i32 0, .int .i64 0, .bool false, .int .i64 0] 36) := ⟨_, rfl⟩
  have kW : Kept0 w W := by rw [hW]; exact ((Kept.refl _ w).alloc _).alloc _
  have ho : CelW W (w.heap.size + 1) zc := by rw [hW]; have := CelW.new (w.alloc (.cells #[.int .i64 9, .int .i64 a1, .int .i64 a2, .int .i64 b1, .int .i64 b2, .int .i64 n, .int .i32 x.g, .int .i64 x.a, .bool x.b, .int .i64 x.m, .int .i64 wr, .bool gd] 42)) zc 36; rwa [World.size_alloc] at this
  rw [← hW]
  clear hW
  have lo := ho.lt
  refine (HC.out _ kW).mono ?_
  rintro e w2 ⟨rfl, hp⟩
  have ho2 := ho.kept (HL.out.old _ _ hp) (by omega)
  have HPP := Lib.hid hp
  have KW := Lib.hid kW
  clear hp kW ho
  obtain ⟨⟨o0, o1, o2, o3⟩, f0, f1, f2, f3⟩ := ho2
  go_wp2_with fail
  refine bodyPost_ret (v := .tuple #[zc.v, .int .i64 0]) (by simp [results, Tryz.results14, go_sem, o0, o1, o2, o3, zc]) rfl ⟨rfl, HL.out.later _ _ _ KW.out HPP.out ?_⟩
  first
    | exact Kept.refl _ _
    | exact ((((Kept.refl _ w2).setCell _ (Or.inr ⟨Nat.le_add_right _ 1, lo⟩) _).setCell _ (Or.inr ⟨Nat.le_add_right _ 1, lo⟩) _).setCell _ (Or.inr ⟨Nat.le_add_right _ 1, lo⟩) _).setCell _ (Or.inr ⟨Nat.le_add_right _ 1, lo⟩) _

set_option maxRecDepth 100000 in
set_option maxHeartbeats 1000000 in
theorem does_d10 (sp : Option Addr) (a1 a2 b1 b2 n wr : Int) (x : Cel) (gd : Bool) (w : World) (P : World → World → Prop) (V : Value) (hL : Later w P) 
    (hc : ∀ w', Kept0 w w' → Calls Tryz.prog 36 #[.pointer sp, opV 10 a1 a2 b1 b2 n x wr gd] w' fun e w'' => e = .returned V ∧ P w' w'') :
    Calls Tryz.prog 14 #[.pointer sp, opV 10 a1 a2 b1 b2 n x wr gd] w fun e w' => e = .returned (.tuple #[zc.v, .int .i64 0]) ∧ P w w' := by
  have HC := Lib.hid hc
  have HL := Lib.hid hL
  clear hc hL
  go_enter Tryz.func14, Tryz.ntmps14
  go_wp2_with fail
  obtain ⟨W, hW⟩ : ∃ W, W = (w.alloc (.cells #[.int .i64 10, .int .i64 a1, .int .i64 a2, .int .i64 b1, .int .i64 b2, .int .i64 n, .int .i32 x.g, .int .i64 x.a, .bool x.b, .int .i64 x.m, .int .i64 wr, .bool gd] 42)).alloc (.cells #[.int .i32 0, .int .i64 0, .bool false, .int .i64 0] 36) := ⟨_, rfl⟩
  have kW : Kept0 w W := by rw [hW]; exact ((Kept.refl _ w).alloc _).alloc _
  have ho : CelW W (w.heap.size + 1) zc := by rw [hW]; have := CelW.new (w.alloc (.cells #[.int .i64 10, .int .i64 a1, .int .i64 a2, .int .i64 b1, .int .i64 b2, .int .i64 n, .int .i32 x.g, .int .i64 x.a, .bool x.b, .int .i64 x.m, .int .i64 wr, .bool gd] 42)) zc 36; rwa [World.size_alloc] at this
  rw [← hW]
  clear hW
  have lo := ho.lt
  refine (HC.out _ kW).mono ?_
  rintro e w2 ⟨rfl, hp⟩
  have ho2 := ho.kept (HL.out.old _ _ hp) (by omega)
  have HPP := Lib.hid hp
  have KW := Lib.hid kW
  clear hp kW ho
  obtain ⟨⟨o0, o1, o2, o3⟩, f0, f1, f2, f3⟩ := ho2
  go_wp2_with fail
  refine bodyPost_ret (v := .tuple #[zc.v, .int .i64 0]) (by simp [results, Tryz.results14, go_sem, o0, o1, o2, o3, zc]) rfl ⟨rfl, HL.out.later _ _ _ KW.out HPP.out ?_⟩
  first
    | exact Kept.refl _ _
    | exact ((((Kept.refl _ w2).setCell _ (Or.inr ⟨Nat.le_add_right _ 1, lo⟩) _).setCell _ (Or.inr ⟨Nat.le_add_right _ 1, lo⟩) _).setCell _ (Or.inr ⟨Nat.le_add_right _ 1, lo⟩) _).setCell _ (Or.inr ⟨Nat.le_add_right _ 1, lo⟩) _

set_option maxRecDepth 100000 in
set_option maxHeartbeats 1000000 in
theorem does_c1 (sp : Option Addr) (a1 a2 b1 b2 n wr : Int) (x : Cel) (gd : Bool) (w : World) (P : World → World → Prop) (V : Value) (hL : Later w P) 
    (hc : ∀ w', Kept0 w w' → Calls Tryz.prog 23 #[.pointer sp, pos a1 a2] w' fun e w'' => e = .returned V ∧ P w' w'') :
    Calls Tryz.prog 14 #[.pointer sp, opV 1 a1 a2 b1 b2 n x wr gd] w fun e w' => e = .returned (.tuple #[zc.v, .int .i64 0]) ∧ P w w' := by
  have HC := Lib.hid hc
  have HL := Lib.hid hL
  clear hc hL
  go_enter Tryz.func14, Tryz.ntmps14
  go_wp2_with fail
  obtain ⟨W, hW⟩ : ∃ W, W = (w.alloc (.cells #[.int .i64 1, .int .i64 a1, .int .i64 a2, .int .i64 b1, .int .i64 b2, .int .i64 n, .int .i32 x.g, .int .i64 x.a, .bool x.b, .int .i64 x.m, .int .i64 wr, .bool gd] 42)).alloc (.cells #[.int .i32 0, .int .i64 0, .bool false, .int .i64 0] 36) := ⟨_, rfl⟩
  have kW : Kept0 w W := by rw [hW]; exact ((Kept.refl _ w).alloc _).alloc _
  have ho : CelW W (w.heap.size + 1) zc := by rw [hW]; have := CelW.new (w.alloc (.cells #[.int .i64 1, .int .i64 a1, .int .i64 a2, .int .i64 b1, .int .i64 b2, .int .i64 n, .int .i32 x.g, .int .i64 x.a, .bool x.b, .int .i64 x.m, .int .i64 wr, .bool gd] 42)) zc 36; rwa [World.size_alloc] at this
  rw [← hW]
  clear hW
  have lo := ho.lt
  refine (HC.out _ kW).mono ?_
  rintro e w2 ⟨rfl, hp⟩
  have ho2 := ho.kept (HL.out.old _ _ hp) (by omega)
  have HPP := Lib.hid hp
  have KW := Lib.hid kW
  clear hp kW ho
  obtain ⟨⟨o0, o1, o2, o3⟩, f0, f1, f2, f3⟩ := ho2
  go_wp2_with fail
  refine bodyPost_ret (v := .tuple #[zc.v, .int .i64 0]) (by simp [results, Tryz.results14, go_sem, o0, o1, o2, o3, zc]) rfl ⟨rfl, HL.out.later _ _ _ KW.out HPP.out ?_⟩
  first
    | exact Kept.refl _ _
    | exact ((((Kept.refl _ w2).setCell _ (Or.inr ⟨Nat.le_add_right _ 1, lo⟩) _).setCell _ (Or.inr ⟨Nat.le_add_right _ 1, lo⟩) _).setCell _ (Or.inr ⟨Nat.le_add_right _ 1, lo⟩) _).setCell _ (Or.inr ⟨Nat.le_add_right _ 1, lo⟩) _

set_option maxRecDepth 100000 in
set_option maxHeartbeats 1000000 in
theorem does_c2 (sp : Option Addr) (a1 a2 b1 b2 n wr : Int) (x : Cel) (gd : Bool) (w : World) (P : World → World → Prop) (V : Value) (hL : Later w P) 
    (hc : ∀ w', Kept0 w w' → Calls Tryz.prog 37 #[.pointer sp, .int .i64 a1, .int .i64 a2] w' fun e w'' => e = .returned V ∧ P w' w'') :
    Calls Tryz.prog 14 #[.pointer sp, opV 2 a1 a2 b1 b2 n x wr gd] w fun e w' => e = .returned (.tuple #[zc.v, .int .i64 0]) ∧ P w w' := by
  have HC := Lib.hid hc
  have HL := Lib.hid hL
  clear hc hL
  go_enter Tryz.func14, Tryz.ntmps14
  go_wp2_with fail
  obtain ⟨W, hW⟩ : ∃ W, W = (w.alloc (.cells #[.int .i64 2, .int .i64 a1, .int .i64 a2, .int .i64 b1, .int .i64 b2, .int .i64 n, .int .i32 x.g, .int .i64 x.a, .bool x.b, .int .i64 x.m, .int .i64 wr, .bool gd] 42)).alloc (.cells #[.int .i32 0, .int .i64 0, .bool false, .int .i64 0] 36) := ⟨_, rfl⟩
  have kW : Kept0 w W := by rw [hW]; exact ((Kept.refl _ w).alloc _).alloc _
  have ho : CelW W (w.heap.size + 1) zc := by rw [hW]; have := CelW.new (w.alloc (.cells #[.int .i64 2, .int .i64 a1, .int .i64 a2, .int .i64 b1, .int .i64 b2, .int .i64 n, .int .i32 x.g, .int .i64 x.a, .bool x.b, .int .i64 x.m, .int .i64 wr, .bool gd] 42)) zc 36; rwa [World.size_alloc] at this
  rw [← hW]
  clear hW
  have lo := ho.lt
  refine (HC.out _ kW).mono ?_
  rintro e w2 ⟨rfl, hp⟩
  have ho2 := ho.kept (HL.out.old _ _ hp) (by omega)
  have HPP := Lib.hid hp
  have KW := Lib.hid kW
  clear hp kW ho
  obtain ⟨⟨o0, o1, o2, o3⟩, f0, f1, f2, f3⟩ := ho2
  go_wp2_with fail
  refine bodyPost_ret (v := .tuple #[zc.v, .int .i64 0]) (by simp [results, Tryz.results14, go_sem, o0, o1, o2, o3, zc]) rfl ⟨rfl, HL.out.later _ _ _ KW.out HPP.out ?_⟩
  first
    | exact Kept.refl _ _
    | exact ((((Kept.refl _ w2).setCell _ (Or.inr ⟨Nat.le_add_right _ 1, lo⟩) _).setCell _ (Or.inr ⟨Nat.le_add_right _ 1, lo⟩) _).setCell _ (Or.inr ⟨Nat.le_add_right _ 1, lo⟩) _).setCell _ (Or.inr ⟨Nat.le_add_right _ 1, lo⟩) _

set_option maxRecDepth 100000 in
set_option maxHeartbeats 1000000 in
theorem does_c3 (sp : Option Addr) (a1 a2 b1 b2 n wr : Int) (x : Cel) (gd : Bool) (w : World) (P : World → World → Prop) (V : Value) (hL : Later w P) 
    (hc : ∀ w', Kept0 w w' → Calls Tryz.prog 21 #[.pointer sp, .int .i64 n] w' fun e w'' => e = .returned V ∧ P w' w'') :
    Calls Tryz.prog 14 #[.pointer sp, opV 3 a1 a2 b1 b2 n x wr gd] w fun e w' => e = .returned (.tuple #[zc.v, .int .i64 0]) ∧ P w w' := by
  have HC := Lib.hid hc
  have HL := Lib.hid hL
  clear hc hL
  go_enter Tryz.func14, Tryz.ntmps14
  go_wp2_with fail
  obtain ⟨W, hW⟩ : ∃ W, W = (w.alloc (.cells #[.int .i64 3, .int .i64 a1, .int .i64 a2, .int .i64 b1, .int .i64 b2, .int .i64 n, .int .i32 x.g, .int .i64 x.a, .bool x.b, .int .i64 x.m, .int .i64 wr, .bool gd] 42)).alloc (.cells #[.int .i32 0, .int .i64 0, .bool false, .int .i64 0] 36) := ⟨_, rfl⟩
  have kW : Kept0 w W := by rw [hW]; exact ((Kept.refl _ w).alloc _).alloc _
  have ho : CelW W (w.heap.size + 1) zc := by rw [hW]; have := CelW.new (w.alloc (.cells #[.int .i64 3, .int .i64 a1, .int .i64 a2, .int .i64 b1, .int .i64 b2, .int .i64 n, .int .i32 x.g, .int .i64 x.a, .bool x.b, .int .i64 x.m, .int .i64 wr, .bool gd] 42)) zc 36; rwa [World.size_alloc] at this
  rw [← hW]
  clear hW
  have lo := ho.lt
  refine (HC.out _ kW).mono ?_
  rintro e w2 ⟨rfl, hp⟩
  have ho2 := ho.kept (HL.out.old _ _ hp) (by omega)
  have HPP := Lib.hid hp
  have KW := Lib.hid kW
  clear hp kW ho
  obtain ⟨⟨o0, o1, o2, o3⟩, f0, f1, f2, f3⟩ := ho2
  go_wp2_with fail
  refine bodyPost_ret (v := .tuple #[zc.v, .int .i64 0]) (by simp [results, Tryz.results14, go_sem, o0, o1, o2, o3, zc]) rfl ⟨rfl, HL.out.later _ _ _ KW.out HPP.out ?_⟩
  first
    | exact Kept.refl _ _
    | exact ((((Kept.refl _ w2).setCell _ (Or.inr ⟨Nat.le_add_right _ 1, lo⟩) _).setCell _ (Or.inr ⟨Nat.le_add_right _ 1, lo⟩) _).setCell _ (Or.inr ⟨Nat.le_add_right _ 1, lo⟩) _).setCell _ (Or.inr ⟨Nat.le_add_right _ 1, lo⟩) _

set_option maxRecDepth 100000 in
set_option maxHeartbeats 1000000 in
theorem does_c4 (sp : Option Addr) (a1 a2 b1 b2 n wr : Int) (x : Cel) (gd : Bool) (w : World) (P : World → World → Prop) (V : Value) (hL : Later w P) 
    (hc : ∀ w', Kept0 w w' → Calls Tryz.prog 38 #[.pointer sp, .int .i64 n] w' fun e w'' => e = .returned V ∧ P w' w'') :
    Calls Tryz.prog 14 #[.pointer sp, opV 4 a1 a2 b1 b2 n x wr gd] w fun e w' => e = .returned (.tuple #[zc.v, .int .i64 0]) ∧ P w w' := by
  have HC := Lib.hid hc
  have HL := Lib.hid hL
  clear hc hL
  go_enter Tryz.func14, Tryz.ntmps14
  go_wp2_with fail
  obtain ⟨W, hW⟩ : ∃ W, W = (w.alloc (.cells #[.int .i64 4, .int .i64 a1, .int .i64 a2, .int .i64 b1, .int .i64 b2, .int .i64 n, .int .i32 x.g, .int .i64 x.a, .bool x.b, .int .i64 x.m, .int .i64 wr, .bool gd] 42)).alloc (.cells #[.int .i32 0, .int .i64 0, .bool false, .int .i64 0] 36) := ⟨_, rfl⟩
  have kW : Kept0 w W := by rw [hW]; exact ((Kept.refl _ w).alloc _).alloc _
  have ho : CelW W (w.heap.size + 1) zc := by rw [hW]; have := CelW.new (w.alloc (.cells #[.int .i64 4, .int .i64 a1, .int .i64 a2, .int .i64 b1, .int .i64 b2, .int .i64 n, .int .i32 x.g, .int .i64 x.a, .bool x.b, .int .i64 x.m, .int .i64 wr, .bool gd] 42)) zc 36; rwa [World.size_alloc] at this
  rw [← hW]
  clear hW
  have lo := ho.lt
  refine (HC.out _ kW).mono ?_
  rintro e w2 ⟨rfl, hp⟩
  have ho2 := ho.kept (HL.out.old _ _ hp) (by omega)
  have HPP := Lib.hid hp
  have KW := Lib.hid kW
  clear hp kW ho
  obtain ⟨⟨o0, o1, o2, o3⟩, f0, f1, f2, f3⟩ := ho2
  go_wp2_with fail
  refine bodyPost_ret (v := .tuple #[zc.v, .int .i64 0]) (by simp [results, Tryz.results14, go_sem, o0, o1, o2, o3, zc]) rfl ⟨rfl, HL.out.later _ _ _ KW.out HPP.out ?_⟩
  first
    | exact Kept.refl _ _
    | exact ((((Kept.refl _ w2).setCell _ (Or.inr ⟨Nat.le_add_right _ 1, lo⟩) _).setCell _ (Or.inr ⟨Nat.le_add_right _ 1, lo⟩) _).setCell _ (Or.inr ⟨Nat.le_add_right _ 1, lo⟩) _).setCell _ (Or.inr ⟨Nat.le_add_right _ 1, lo⟩) _

set_option maxRecDepth 100000 in
set_option maxHeartbeats 1000000 in
theorem does_c5 (sp : Option Addr) (a1 a2 b1 b2 n wr : Int) (x : Cel) (gd : Bool) (w : World) (P : World → World → Prop) (V : Value) (hL : Later w P) 
    (hc : ∀ w', Kept0 w w' → Calls Tryz.prog 39 #[.pointer sp, .int .i64 n, .bool (!gd)] w' fun e w'' => e = .returned V ∧ P w' w'') :
    Calls Tryz.prog 14 #[.pointer sp, opV 5 a1 a2 b1 b2 n x wr gd] w fun e w' => e = .returned (.tuple #[zc.v, .int .i64 0]) ∧ P w w' := by
  have HC := Lib.hid hc
  have HL := Lib.hid hL
  clear hc hL
  go_enter Tryz.func14, Tryz.ntmps14
  go_wp2_with fail
  obtain ⟨W, hW⟩ : ∃ W, W = (w.alloc (.cells #[.int .i64 5, .int .i64 a1, .int .i64 a2, .int .i64 b1, .int .i64 b2, .int .i64 n, .int .i32 x.g, .int .i64 x.a, .bool x.b, .int .i64 x.m, .int .i64 wr, .bool gd] 42)).alloc (.cells #[.int .i32 0, .int .i64 0, .bool false, .int .i64 0] 36) := ⟨_, rfl⟩
  have kW : Kept0 w W := by rw [hW]; exact ((Kept.refl _ w).alloc _).alloc _
  have ho : CelW W (w.heap.size + 1) zc := by rw [hW]; have := CelW.new (w.alloc (.cells #[.int .i64 5, .int .i64 a1, .int .i64 a2, .int .i64 b1, .int .i64 b2, .int .i64 n, .int .i32 x.g, .int .i64 x.a, .bool x.b, .int .i64 x.m, .int .i64 wr, .bool gd] 42)) zc 36; rwa [World.size_alloc] at this
  rw [← hW]
  clear hW
  have lo := ho.lt
  refine (HC.out _ kW).mono ?_
  rintro e w2 ⟨rfl, hp⟩
  have ho2 := ho.kept (HL.out.old _ _ hp) (by omega)
  have HPP := Lib.hid hp
  have KW := Lib.hid kW
  clear hp kW ho
  obtain ⟨⟨o0, o1, o2, o3⟩, f0, f1, f2, f3⟩ := ho2
  go_wp2_with fail
  refine bodyPost_ret (v := .tuple #[zc.v, .int .i64 0]) (by simp [results, Tryz.results14, go_sem, o0, o1, o2, o3, zc]) rfl ⟨rfl, HL.out.later _ _ _ KW.out HPP.out ?_⟩
  first
    | exact Kept.refl _ _
    | exact ((((Kept.refl _ w2).setCell _ (Or.inr ⟨Nat.le_add_right _ 1, lo⟩) _).setCell _ (Or.inr ⟨Nat.le_add_right _ 1, lo⟩) _).setCell _ (Or.inr ⟨Nat.le_add_right _ 1, lo⟩) _).setCell _ (Or.inr ⟨Nat.le_add_right _ 1, lo⟩) _

set_option maxRecDepth 100000 in
set_option maxHeartbeats 1000000 in
theorem does_c6 (sp : Option Addr) (a1 a2 b1 b2 n wr : Int) (x : Cel) (gd : Bool) (w : World) (P : World → World → Prop) (V : Value) (hL : Later w P) 
    (hc : ∀ w', Kept0 w w' → Calls Tryz.prog 40 #[.pointer sp, .int .i64 n] w' fun e w'' => e = .returned V ∧ P w' w'') :
    Calls Tryz.prog 14 #[.pointer sp, opV 6 a1 a2 b1 b2 n x wr gd] w fun e w' => e = .returned (.tuple #[zc.v, .int .i64 0]) ∧ P w w' := by
  have HC := Lib.hid hc
  have HL := Lib.hid hL
  clear hc hL
  go_enter Tryz.func14, Tryz.ntmps14
  go_wp2_with fail
  obtain ⟨W, hW⟩ : ∃ W, W = (w.alloc (.cells #[.int .i64 6, .int .i64 a1, .int .i64 a2, .int .i64 b1, .int .i64 b2, .int .i64 n, .int .i32 x.g, .int .i64 x.a, .bool x.b, .int .i64 x.m, .int .i64 wr, .bool gd] 42)).alloc (.cells #[.int .i32 0, .int .i64 0, .bool false, .int .i64 0] 36) := ⟨_, rfl⟩
  have kW : Kept0 w W := by rw [hW]; exact ((Kept.refl _ w).alloc _).alloc _
  have ho : CelW W (w.heap.size + 1) zc := by rw [hW]; have := CelW.new (w.alloc (.cells #[.int .i64 6, .int .i64 a1, .int .i64 a2, .int .i64 b1, .int .i64 b2, .int .i64 n, .int .i32 x.g, .int .i64 x.a, .bool x.b, .int .i64 x.m, .int .i64 wr, .bool gd] 42)) zc 36; rwa [World.size_alloc] at this
  rw [← hW]
  clear hW
  have lo := ho.lt
  refine (HC.out _ kW).mono ?_
  rintro e w2 ⟨rfl, hp⟩
  have ho2 := ho.kept (HL.out.old _ _ hp) (by omega)
  have HPP := Lib.hid hp
  have KW := Lib.hid kW
  clear hp kW ho
  obtain ⟨⟨o0, o1, o2, o3⟩, f0, f1, f2, f3⟩ := ho2
  go_wp2_with fail
  refine bodyPost_ret (v := .tuple #[zc.v, .int .i64 0]) (by simp [results, Tryz.results14, go_sem, o0, o1, o2, o3, zc]) rfl ⟨rfl, HL.out.later _ _ _ KW.out HPP.out ?_⟩
  first
    | exact Kept.refl _ _
    | exact ((((Kept.refl _ w2).setCell _ (Or.inr ⟨Nat.le_add_right _ 1, lo⟩) _).setCell _ (Or.inr ⟨Nat.le_add_right _ 1, lo⟩) _).setCell _ (Or.inr ⟨Nat.le_add_right _ 1, lo⟩) _).setCell _ (Or.inr ⟨Nat.le_add_right _ 1, lo⟩) _

set_option maxRecDepth 100000 in
set_option maxHeartbeats 1000000 in
theorem does_c11f (sp : Option Addr) (a1 a2 b1 b2 n wr : Int) (x : Cel) (gd : Bool) (w : World) (P : World → World → Prop)  (hL : Later w P) 
    (hc : ∀ w', Kept0 w w' → Calls Tryz.prog 41 #[.pointer sp, .bool gd] w' fun e w'' => e = .returned (.bool false) ∧ P w' w'') :
    Calls Tryz.prog 14 #[.pointer sp, opV 11 a1 a2 b1 b2 n x wr gd] w fun e w' => e = .returned (.tuple #[zc.v, .int .i64 0]) ∧ P w w' := by
  have HC := Lib.hid hc
  have HL := Lib.hid hL
  clear hc hL
  go_enter Tryz.func14, Tryz.ntmps14
  go_wp2_with fail
  obtain ⟨W, hW⟩ : ∃ W, W = (w.alloc (.cells #[.int .i64 11, .int .i64 a1, .int .i64 a2, .int .i64 b1, .int .i64 b2, .int .i64 n, .int .i32 x.g, .int .i64 x.a, .bool x.b, .int .i64 x.m, .int .i64 wr, .bool gd] 42)).alloc (.cells #[.int .i32 0, .int .i64 0, .bool false, .int .i64 0] 36) := ⟨_, rfl⟩
  have kW : Kept0 w W := by rw [hW]; exact ((Kept.refl _ w).alloc _).alloc _
  have ho : CelW W (w.heap.size + 1) zc := by rw [hW]; have := CelW.new (w.alloc (.cells #[.int .i64 11, .int .i64 a1, .int .i64 a2, .int .i64 b1, .int .i64 b2, .int .i64 n, .int .i32 x.g, .int .i64 x.a, .bool x.b, .int .i64 x.m, .int .i64 wr, .bool gd] 42)) zc 36; rwa [World.size_alloc] at this
  rw [← hW]
  clear hW
  have lo := ho.lt
  refine (HC.out _ kW).mono ?_
  rintro e w2 ⟨rfl, hp⟩
  have ho2 := ho.kept (HL.out.old _ _ hp) (by omega)
  have HPP := Lib.hid hp
  have KW := Lib.hid kW
  clear hp kW ho
  obtain ⟨⟨o0, o1, o2, o3⟩, f0, f1, f2, f3⟩ := ho2
  go_wp2_with fail
  refine bodyPost_ret (v := .tuple #[zc.v, .int .i64 0]) (by simp [results, Tryz.results14, go_sem, o0, o1, o2, o3, zc]) rfl ⟨rfl, HL.out.later _ _ _ KW.out HPP.out ?_⟩
  first
    | exact Kept.refl _ _
    | exact ((((Kept.refl _ w2).setCell _ (Or.inr ⟨Nat.le_add_right _ 1, lo⟩) _).setCell _ (Or.inr ⟨Nat.le_add_right _ 1, lo⟩) _).setCell _ (Or.inr ⟨Nat.le_add_right _ 1, lo⟩) _).setCell _ (Or.inr ⟨Nat.le_add_right _ 1, lo⟩) _

set_option maxRecDepth 100000 in
set_option maxHeartbeats 1000000 in
theorem does_c11t (sp : Option Addr) (a1 a2 b1 b2 n wr : Int) (x : Cel) (gd : Bool) (w : World) (P : World → World → Prop)  (hL : Later w P) 
    (hc : ∀ w', Kept0 w w' → Calls Tryz.prog 41 #[.pointer sp, .bool gd] w' fun e w'' => e = .returned (.bool true) ∧ P w' w'') :
    Calls Tryz.prog 14 #[.pointer sp, opV 11 a1 a2 b1 b2 n x wr gd] w fun e w' => e = .returned (.tuple #[Cel.v ⟨0, 0, false, 1⟩, .int .i64 0]) ∧ P w w' := by
  have HC := Lib.hid hc
  have HL := Lib.hid hL
  clear hc hL
  go_enter Tryz.func14, Tryz.ntmps14
  go_wp2_with fail
  obtain ⟨W, hW⟩ : ∃ W, W = (w.alloc (.cells #[.int .i64 11, .int .i64 a1, .int .i64 a2, .int .i64 b1, .int .i64 b2, .int .i64 n, .int .i32 x.g, .int .i64 x.a, .bool x.b, .int .i64 x.m, .int .i64 wr, .bool gd] 42)).alloc (.cells #[.int .i32 0, .int .i64 0, .bool false, .int .i64 0] 36) := ⟨_, rfl⟩
  have kW : Kept0 w W := by rw [hW]; exact ((Kept.refl _ w).alloc _).alloc _
  have ho : CelW W (w.heap.size + 1) zc := by rw [hW]; have := CelW.new (w.alloc (.cells #[.int .i64 11, .int .i64 a1, .int .i64 a2, .int .i64 b1, .int .i64 b2, .int .i64 n, .int .i32 x.g, .int .i64 x.a, .bool x.b, .int .i64 x.m, .int .i64 wr, .bool gd] 42)) zc 36; rwa [World.size_alloc] at this
  rw [← hW]
  clear hW
  have lo := ho.lt
  refine (HC.out _ kW).mono ?_
  rintro e w2 ⟨rfl, hp⟩
  have ho2 := ho.kept (HL.out.old _ _ hp) (by omega)
  have HPP := Lib.hid hp
  have KW := Lib.hid kW
  clear hp kW ho
  obtain ⟨⟨o0, o1, o2, o3⟩, f0, f1, f2, f3⟩ := ho2
  go_wp2_with fail
  refine bodyPost_ret (v := .tuple #[Cel.v ⟨0, 0, false, 1⟩, .int .i64 0]) (by simp [results, Tryz.results14, go_sem, o0, o1, o2, o3]) rfl ⟨rfl, HL.out.later _ _ _ KW.out HPP.out ?_⟩
  first
    | exact Kept.refl _ _
    | exact ((((Kept.refl _ w2).setCell _ (Or.inr ⟨Nat.le_add_right _ 1, lo⟩) _).setCell _ (Or.inr ⟨Nat.le_add_right _ 1, lo⟩) _).setCell _ (Or.inr ⟨Nat.le_add_right _ 1, lo⟩) _).setCell _ (Or.inr ⟨Nat.le_add_right _ 1, lo⟩) _

set_option maxRecDepth 100000 in
set_option maxHeartbeats 1000000 in
theorem does_c12 (sp : Option Addr) (a1 a2 b1 b2 n wr : Int) (x : Cel) (gd : Bool) (w : World) (P : World → World → Prop) (E : Int) (hL : Later w P) 
    (hc : ∀ w', Kept0 w w' → Calls Tryz.prog 26 #[.pointer sp, pos a1 a2] w' fun e w'' => e = .returned (.int .i64 E) ∧ P w' w'') :
    Calls Tryz.prog 14 #[.pointer sp, opV 12 a1 a2 b1 b2 n x wr gd] w fun e w' => e = .returned (.tuple #[zc.v, .int .i64 E]) ∧ P w w' := by
  have HC := Lib.hid hc
  have HL := Lib.hid hL
  clear hc hL
  go_enter Tryz.func14, Tryz.ntmps14
  go_wp2_with fail
  obtain ⟨W, hW⟩ : ∃ W, W = (w.alloc (.cells #[.int .i64 12, .int .i64 a1, .int .i64 a2, .int .i64 b1, .int .i64 b2, .int .i64 n, .int .i32 x.g, .int .i64 x.a, .bool x.b, .int .i64 x.m, .int .i64 wr, .bool gd] 42)).alloc (.cells #[.int .i32 0, .int .i64 0, .bool false, .int .i64 0] 36) := ⟨_, rfl⟩
  have kW : Kept0 w W := by rw [hW]; exact ((Kept.refl _ w).alloc _).alloc _
  have ho : CelW W (w.heap.size + 1) zc := by rw [hW]; have := CelW.new (w.alloc (.cells #[.int .i64 12, .int .i64 a1, .int .i64 a2, .int .i64 b1, .int .i64 b2, .int .i64 n, .int .i32 x.g, .int .i64 x.a, .bool x.b, .int .i64 x.m, .int .i64 wr, .bool gd] 42)) zc 36; rwa [World.size_alloc] at this
  rw [← hW]
  clear hW
  have lo := ho.lt
  refine (HC.out _ kW).mono ?_
  rintro e w2 ⟨rfl, hp⟩
  have ho2 := ho.kept (HL.out.old _ _ hp) (by omega)
  have HPP := Lib.hid hp
  have KW := Lib.hid kW
  clear hp kW ho
  obtain ⟨⟨o0, o1, o2, o3⟩, f0, f1, f2, f3⟩ := ho2
  go_wp2_with fail
  refine bodyPost_ret (v := .tuple #[zc.v, .int .i64 E]) (by simp [results, Tryz.results14, go_sem, o0, o1, o2, o3, zc]) rfl ⟨rfl, HL.out.later _ _ _ KW.out HPP.out ?_⟩
  first
    | exact Kept.refl _ _
    | exact ((((Kept.refl _ w2).setCell _ (Or.inr ⟨Nat.le_add_right _ 1, lo⟩) _).setCell _ (Or.inr ⟨Nat.le_add_right _ 1, lo⟩) _).setCell _ (Or.inr ⟨Nat.le_add_right _ 1, lo⟩) _).setCell _ (Or.inr ⟨Nat.le_add_right _ 1, lo⟩) _

set_option maxRecDepth 100000 in
set_option maxHeartbeats 1000000 in
theorem does_c13 (sp : Option Addr) (a1 a2 b1 b2 n wr : Int) (x : Cel) (gd : Bool) (w : World) (P : World → World → Prop) (E : Int) (hL : Later w P) 
    (hc : ∀ w', Kept0 w w' → Calls Tryz.prog 42 #[.pointer sp, pos a1 a2, x.v] w' fun e w'' => e = .returned (.int .i64 E) ∧ P w' w'') :
    Calls Tryz.prog 14 #[.pointer sp, opV 13 a1 a2 b1 b2 n x wr gd] w fun e w' => e = .returned (.tuple #[zc.v, .int .i64 E]) ∧ P w w' := by
  have HC := Lib.hid hc
  have HL := Lib.hid hL
  clear hc hL
  go_enter Tryz.func14, Tryz.ntmps14
  go_wp2_with fail
  obtain ⟨W, hW⟩ : ∃ W, W = (w.alloc (.cells #[.int .i64 13, .int .i64 a1, .int .i64 a2, .int .i64 b1, .int .i64 b2, .int .i64 n, .int .i32 x.g, .int .i64 x.a, .bool x.b, .int .i64 x.m, .int .i64 wr, .bool gd] 42)).alloc (.cells #[.int .i32 0, .int .i64 0, .bool false, .int .i64 0] 36) := ⟨_, rfl⟩
  have kW : Kept0 w W := by rw [hW]; exact ((Kept.refl _ w).alloc _).alloc _
  have ho : CelW W (w.heap.size + 1) zc := by rw [hW]; have := CelW.new (w.alloc (.cells #[.int .i64 13, .int .i64 a1, .int .i64 a2, .int .i64 b1, .int .i64 b2, .int .i64 n, .int .i32 x.g, .int .i64 x.a, .bool x.b, .int .i64 x.m, .int .i64 wr, .bool gd] 42)) zc 36; rwa [World.size_alloc] at this
  rw [← hW]
  clear hW
  have lo := ho.lt
  refine (HC.out _ kW).mono ?_
  rintro e w2 ⟨rfl, hp⟩
  have ho2 := ho.kept (HL.out.old _ _ hp) (by omega)
  have HPP := Lib.hid hp
  have KW := Lib.hid kW
  clear hp kW ho
  obtain ⟨⟨o0, o1, o2, o3⟩, f0, f1, f2, f3⟩ := ho2
  go_wp2_with fail
  refine bodyPost_ret (v := .tuple #[zc.v, .int .i64 E]) (by simp [results, Tryz.results14, go_sem, o0, o1, o2, o3, zc]) rfl ⟨rfl, HL.out.later _ _ _ KW.out HPP.out ?_⟩
  first
    | exact Kept.refl _ _
    | exact ((((Kept.refl _ w2).setCell _ (Or.inr ⟨Nat.le_add_right _ 1, lo⟩) _).setCell _ (Or.inr ⟨Nat.le_add_right _ 1, lo⟩) _).setCell _ (Or.inr ⟨Nat.le_add_right _ 1, lo⟩) _).setCell _ (Or.inr ⟨Nat.le_add_right _ 1, lo⟩) _

set_option maxRecDepth 100000 in
set_option maxHeartbeats 1000000 in
theorem does_at (sp : Option Addr) (ask a1 a2 b1 b2 n wr : Int) (x : Cel) (gd : Bool) (w : World) (P : World → World → Prop) (y : Cel) (E : Int) (hL : Later w P) (n0 : ¬ ask = 0) (n7 : ¬ ask = 7) (n8 : ¬ ask = 8) (n9 : ¬ ask = 9) (n10 : ¬ ask = 10) (n1 : ¬ ask = 1) (n2 : ¬ ask = 2) (n3 : ¬ ask = 3) (n4 : ¬ ask = 4) (n5 : ¬ ask = 5) (n6 : ¬ ask = 6) (n11 : ¬ ask = 11) (n12 : ¬ ask = 12) (n13 : ¬ ask = 13)
    (hc : ∀ w', Kept0 w w' → Calls Tryz.prog 22 #[.pointer sp, pos a1 a2] w' fun e w'' => e = .returned (.tuple #[y.v, .int .i64 E]) ∧ P w' w'') :
    Calls Tryz.prog 14 #[.pointer sp, opV ask a1 a2 b1 b2 n x wr gd] w fun e w' => e = .returned (.tuple #[y.v, .int .i64 E]) ∧ P w w' := by
  have HC := Lib.hid hc
  have HL := Lib.hid hL
  clear hc hL
  go_enter Tryz.func14, Tryz.ntmps14
  go_wp2_with fail
  obtain ⟨W, hW⟩ : ∃ W, W = (w.alloc (.cells #[.int .i64 ask, .int .i64 a1, .int .i64 a2, .int .i64 b1, .int .i64 b2, .int .i64 n, .int .i32 x.g, .int .i64 x.a, .bool x.b, .int .i64 x.m, .int .i64 wr, .bool gd] 42)).alloc (.cells #[.int .i32 0, .int .i64 0, .bool false, .int .i64 0] 36) := ⟨_, rfl⟩
  have kW : Kept0 w W := by rw [hW]; exact ((Kept.refl _ w).alloc _).alloc _
  have ho : CelW W (w.heap.size + 1) zc := by rw [hW]; have := CelW.new (w.alloc (.cells #[.int .i64 ask, .int .i64 a1, .int .i64 a2, .int .i64 b1, .int .i64 b2, .int .i64 n, .int .i32 x.g, .int .i64 x.a, .bool x.b, .int .i64 x.m, .int .i64 wr, .bool gd] 42)) zc 36; rwa [World.size_alloc] at this
  rw [← hW]
  clear hW
  have lo := ho.lt
  refine (HC.out _ kW).mono ?_
  rintro e w2 ⟨rfl, hp⟩
  have ho2 := ho.kept (HL.out.old _ _ hp) (by omega)
  have HPP := Lib.hid hp
  have KW := Lib.hid kW
  clear hp kW ho
  obtain ⟨⟨o0, o1, o2, o3⟩, f0, f1, f2, f3⟩ := ho2
  go_wp2_with fail
  refine bodyPost_ret (v := .tuple #[y.v, .int .i64 E]) (by simp [results, Tryz.results14, go_sem, o0, o1, o2, o3]) rfl ⟨rfl, HL.out.later _ _ _ KW.out HPP.out ?_⟩
  first
    | exact Kept.refl _ _
    | exact ((((Kept.refl _ w2).setCell _ (Or.inr ⟨Nat.le_add_right _ 1, lo⟩) _).setCell _ (Or.inr ⟨Nat.le_add_right _ 1, lo⟩) _).setCell _ (Or.inr ⟨Nat.le_add_right _ 1, lo⟩) _).setCell _ (Or.inr ⟨Nat.le_add_right _ 1, lo⟩) _

end Go.Proofs.YtkpfhgfdfndliaaGreatDoor
