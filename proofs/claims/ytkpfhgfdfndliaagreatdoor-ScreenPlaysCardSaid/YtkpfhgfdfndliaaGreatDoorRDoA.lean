/-
  The statements' own calls of the document's screen, drawn and asked, a case each: those that call with the screen alone.
-/
import Derived.Test.YtkpfhgfdfndliaaGreatDoorDoesC
namespace Go.Proofs.YtkpfhgfdfndliaaGreatDoor
open Go.RowKit

set_option maxRecDepth 100000 in
set_option maxHeartbeats 1000000 in
theorem rdrawn_c0 (sp : Option Addr) (a1 a2 b1 b2 n wr : Int) (x : Cel) (gd : Bool) (w : World) (P : World → World → Prop) (V : Value) (hL : Later w P) 
    (hc : ∀ w', Kept0 w w' → Calls Tryz.prog 81 #[.pointer sp, x.v, .int .i64 wr, .bool gd] w' fun e w'' => e = .returned V ∧ P w' w'') :
    Calls Tryz.prog 43 #[.pointer sp, opV 0 a1 a2 b1 b2 n x wr gd] w fun e w' => e = .returned (.tuple #[]) ∧ P w w' := by
  have HC := Lib.hid hc
  have HL := Lib.hid hL
  clear hc hL
  go_enter Tryz.func43, Tryz.ntmps43
  go_wp2_with fail
  have kk : Kept0 w (w.alloc (.cells #[.int .i64 0, .int .i64 a1, .int .i64 a2, .int .i64 b1, .int .i64 b2, .int .i64 n, .int .i32 x.g, .int .i64 x.a, .bool x.b, .int .i64 x.m, .int .i64 wr, .bool gd] 42)) := (Kept.refl _ w).alloc _
  refine (HC.out _ kk).mono ?_
  rintro e w2 ⟨rfl, hp⟩
  have HP := Lib.hid (HL.out.later _ _ w2 kk hp (Kept.refl _ _))
  clear hp kk
  go_wp2_with fail
  refine bodyPost_end (results_none rfl _ _ _) rfl ?_
  exact ⟨rfl, HP.out⟩


set_option maxRecDepth 100000 in
set_option maxHeartbeats 1000000 in
theorem rdrawn_c7 (sp : Option Addr) (a1 a2 b1 b2 n wr : Int) (x : Cel) (gd : Bool) (w : World) (P : World → World → Prop) (V : Value) (hL : Later w P) 
    (hc : ∀ w', Kept0 w w' → Calls Tryz.prog 82 #[.pointer sp, pos a1 a2, pos b1 b2, x.v, .bool gd] w' fun e w'' => e = .returned V ∧ P w' w'') :
    Calls Tryz.prog 43 #[.pointer sp, opV 7 a1 a2 b1 b2 n x wr gd] w fun e w' => e = .returned (.tuple #[]) ∧ P w w' := by
  have HC := Lib.hid hc
  have HL := Lib.hid hL
  clear hc hL
  go_enter Tryz.func43, Tryz.ntmps43
  go_wp2_with fail
  have kk : Kept0 w (w.alloc (.cells #[.int .i64 7, .int .i64 a1, .int .i64 a2, .int .i64 b1, .int .i64 b2, .int .i64 n, .int .i32 x.g, .int .i64 x.a, .bool x.b, .int .i64 x.m, .int .i64 wr, .bool gd] 42)) := (Kept.refl _ w).alloc _
  refine (HC.out _ kk).mono ?_
  rintro e w2 ⟨rfl, hp⟩
  have HP := Lib.hid (HL.out.later _ _ w2 kk hp (Kept.refl _ _))
  clear hp kk
  go_wp2_with fail
  refine bodyPost_end (results_none rfl _ _ _) rfl ?_
  exact ⟨rfl, HP.out⟩


set_option maxRecDepth 100000 in
set_option maxHeartbeats 1000000 in
theorem rdrawn_c8 (sp : Option Addr) (a1 a2 b1 b2 n wr : Int) (x : Cel) (gd : Bool) (w : World) (P : World → World → Prop) (V : Value) (hL : Later w P) 
    (hc : ∀ w', Kept0 w w' → Calls Tryz.prog 83 #[.pointer sp, .int .i64 n, x.v, .bool gd] w' fun e w'' => e = .returned V ∧ P w' w'') :
    Calls Tryz.prog 43 #[.pointer sp, opV 8 a1 a2 b1 b2 n x wr gd] w fun e w' => e = .returned (.tuple #[]) ∧ P w w' := by
  have HC := Lib.hid hc
  have HL := Lib.hid hL
  clear hc hL
  go_enter Tryz.func43, Tryz.ntmps43
  go_wp2_with fail
  have kk : Kept0 w (w.alloc (.cells #[.int .i64 8, .int .i64 a1, .int .i64 a2, .int .i64 b1, .int .i64 b2, .int .i64 n, .int .i32 x.g, .int .i64 x.a, .bool x.b, .int .i64 x.m, .int .i64 wr, .bool gd] 42)) := (Kept.refl _ w).alloc _
  refine (HC.out _ kk).mono ?_
  rintro e w2 ⟨rfl, hp⟩
  have HP := Lib.hid (HL.out.later _ _ w2 kk hp (Kept.refl _ _))
  clear hp kk
  go_wp2_with fail
  refine bodyPost_end (results_none rfl _ _ _) rfl ?_
  exact ⟨rfl, HP.out⟩


set_option maxRecDepth 100000 in
set_option maxHeartbeats 1000000 in
theorem rdrawn_none (sp : Option Addr) (ask a1 a2 b1 b2 n wr : Int) (x : Cel) (gd : Bool) (w : World) (n0 : ¬ ask = 0) (n7 : ¬ ask = 7) (n8 : ¬ ask = 8) (n9 : ¬ ask = 9) (n10 : ¬ ask = 10) :
    Calls Tryz.prog 43 #[.pointer sp, opV ask a1 a2 b1 b2 n x wr gd] w fun e w' => e = .returned (.tuple #[]) ∧ Kept0 w w' := by
  go_enter Tryz.func43, Tryz.ntmps43
  go_wp2_with fail
  refine bodyPost_end (results_none rfl _ _ _) rfl ?_
  exact ⟨rfl, (Kept.refl _ w).alloc _⟩


set_option maxRecDepth 100000 in
set_option maxHeartbeats 1000000 in
theorem rasked_d0 (sp : Option Addr) (a1 a2 b1 b2 n wr : Int) (x : Cel) (gd : Bool) (w : World) (P : World → World → Prop) (V : Value) (hL : Later w P) 
    (hc : ∀ w', Kept0 w w' → Calls Tryz.prog 43 #[.pointer sp, opV 0 a1 a2 b1 b2 n x wr gd] w' fun e w'' => e = .returned V ∧ P w' w'') :
    Calls Tryz.prog 15 #[.pointer sp, opV 0 a1 a2 b1 b2 n x wr gd] w fun e w' => e = .returned (.tuple #[.pointer sp, zc.v, .int .i64 0]) ∧ P w w' := by
  have HC := Lib.hid hc
  have HL := Lib.hid hL
  clear hc hL
  go_enter Tryz.func15, Tryz.ntmps15
  go_wp2_with fail
  obtain ⟨W, hW⟩ : ∃ W, W = (w.alloc (.cells #[.int .i64 0, .int .i64 a1, .int .i64 a2, .int .i64 b1, .int .i64 b2, .int .i64 n, .int .i32 x.g, .int .i64 x.a, .bool x.b, .int .i64 x.m, .int .i64 wr, .bool gd] 42)).alloc (.cells #[.int .i32 0, .int .i64 0, .bool false, .int .i64 0] 36) := ⟨_, rfl⟩
  have kW : Kept0 w W := by rw [hW]; exact ((Kept.refl _ w).alloc _).alloc _
  have ho : CelW W (w.heap.size + 1) zc := by rw [hW]; have := CelW.new (w.alloc (.cells #[.int .i64 0, .int .i64 a1, .int .i64 a2, .int .i64 b1, .int .i64 b2, .int .i64 n, .int .i32 x.g, .int .i64 x.a, .bool x.b, .int .i64 x.m, .int .i64 wr, .bool gd] 42)) zc 36; rwa [World.size_alloc] at this
  rw [← hW]
  clear hW
  have lo := ho.lt
  refine (HC.out _ kW).mono ?_
  rintro e w2 ⟨rfl, hp⟩
  have ho2 := ho.kept (HL.out.old _ _ hp) (by omega)
  have HPP := Lib.hid hp
  have KW := Lib.hid kW
  clear hp kW ho
  obtain ⟨⟨o0, o1, o2, o3⟩, f0, f1, f2, f3⟩ := ho2
  go_wp2_with fail
  refine bodyPost_ret (v := .tuple #[.pointer sp, zc.v, .int .i64 0]) (by simp [results, Tryz.results15, go_sem, o0, o1, o2, o3, zc]) rfl ⟨rfl, HL.out.later _ _ _ KW.out HPP.out ?_⟩
  first
    | exact Kept.refl _ _
    | exact ((((Kept.refl _ w2).setCell _ (Or.inr ⟨Nat.le_add_right _ 1, lo⟩) _).setCell _ (Or.inr ⟨Nat.le_add_right _ 1, lo⟩) _).setCell _ (Or.inr ⟨Nat.le_add_right _ 1, lo⟩) _).setCell _ (Or.inr ⟨Nat.le_add_right _ 1, lo⟩) _


set_option maxRecDepth 100000 in
set_option maxHeartbeats 1000000 in
theorem rasked_d7 (sp : Option Addr) (a1 a2 b1 b2 n wr : Int) (x : Cel) (gd : Bool) (w : World) (P : World → World → Prop) (V : Value) (hL : Later w P) 
    (hc : ∀ w', Kept0 w w' → Calls Tryz.prog 43 #[.pointer sp, opV 7 a1 a2 b1 b2 n x wr gd] w' fun e w'' => e = .returned V ∧ P w' w'') :
    Calls Tryz.prog 15 #[.pointer sp, opV 7 a1 a2 b1 b2 n x wr gd] w fun e w' => e = .returned (.tuple #[.pointer sp, zc.v, .int .i64 0]) ∧ P w w' := by
  have HC := Lib.hid hc
  have HL := Lib.hid hL
  clear hc hL
  go_enter Tryz.func15, Tryz.ntmps15
  go_wp2_with fail
  obtain ⟨W, hW⟩ : ∃ W, W = (w.alloc (.cells #[.int .i64 7, .int .i64 a1, .int .i64 a2, .int .i64 b1, .int .i64 b2, .int .i64 n, .int .i32 x.g, .int .i64 x.a, .bool x.b, .int .i64 x.m, .int .i64 wr, .bool gd] 42)).alloc (.cells #[.int .i32 0, .int .i64 0, .bool false, .int .i64 0] 36) := ⟨_, rfl⟩
  have kW : Kept0 w W := by rw [hW]; exact ((Kept.refl _ w).alloc _).alloc _
  have ho : CelW W (w.heap.size + 1) zc := by rw [hW]; have := CelW.new (w.alloc (.cells #[.int .i64 7, .int .i64 a1, .int .i64 a2, .int .i64 b1, .int .i64 b2, .int .i64 n, .int .i32 x.g, .int .i64 x.a, .bool x.b, .int .i64 x.m, .int .i64 wr, .bool gd] 42)) zc 36; rwa [World.size_alloc] at this
  rw [← hW]
  clear hW
  have lo := ho.lt
  refine (HC.out _ kW).mono ?_
  rintro e w2 ⟨rfl, hp⟩
  have ho2 := ho.kept (HL.out.old _ _ hp) (by omega)
  have HPP := Lib.hid hp
  have KW := Lib.hid kW
  clear hp kW ho
  obtain ⟨⟨o0, o1, o2, o3⟩, f0, f1, f2, f3⟩ := ho2
  go_wp2_with fail
  refine bodyPost_ret (v := .tuple #[.pointer sp, zc.v, .int .i64 0]) (by simp [results, Tryz.results15, go_sem, o0, o1, o2, o3, zc]) rfl ⟨rfl, HL.out.later _ _ _ KW.out HPP.out ?_⟩
  first
    | exact Kept.refl _ _
    | exact ((((Kept.refl _ w2).setCell _ (Or.inr ⟨Nat.le_add_right _ 1, lo⟩) _).setCell _ (Or.inr ⟨Nat.le_add_right _ 1, lo⟩) _).setCell _ (Or.inr ⟨Nat.le_add_right _ 1, lo⟩) _).setCell _ (Or.inr ⟨Nat.le_add_right _ 1, lo⟩) _


set_option maxRecDepth 100000 in
set_option maxHeartbeats 1000000 in
theorem rasked_d8 (sp : Option Addr) (a1 a2 b1 b2 n wr : Int) (x : Cel) (gd : Bool) (w : World) (P : World → World → Prop) (V : Value) (hL : Later w P) 
    (hc : ∀ w', Kept0 w w' → Calls Tryz.prog 43 #[.pointer sp, opV 8 a1 a2 b1 b2 n x wr gd] w' fun e w'' => e = .returned V ∧ P w' w'') :
    Calls Tryz.prog 15 #[.pointer sp, opV 8 a1 a2 b1 b2 n x wr gd] w fun e w' => e = .returned (.tuple #[.pointer sp, zc.v, .int .i64 0]) ∧ P w w' := by
  have HC := Lib.hid hc
  have HL := Lib.hid hL
  clear hc hL
  go_enter Tryz.func15, Tryz.ntmps15
  go_wp2_with fail
  obtain ⟨W, hW⟩ : ∃ W, W = (w.alloc (.cells #[.int .i64 8, .int .i64 a1, .int .i64 a2, .int .i64 b1, .int .i64 b2, .int .i64 n, .int .i32 x.g, .int .i64 x.a, .bool x.b, .int .i64 x.m, .int .i64 wr, .bool gd] 42)).alloc (.cells #[.int .i32 0, .int .i64 0, .bool false, .int .i64 0] 36) := ⟨_, rfl⟩
  have kW : Kept0 w W := by rw [hW]; exact ((Kept.refl _ w).alloc _).alloc _
  have ho : CelW W (w.heap.size + 1) zc := by rw [hW]; have := CelW.new (w.alloc (.cells #[.int .i64 8, .int .i64 a1, .int .i64 a2, .int .i64 b1, .int .i64 b2, .int .i64 n, .int .i32 x.g, .int .i64 x.a, .bool x.b, .int .i64 x.m, .int .i64 wr, .bool gd] 42)) zc 36; rwa [World.size_alloc] at this
  rw [← hW]
  clear hW
  have lo := ho.lt
  refine (HC.out _ kW).mono ?_
  rintro e w2 ⟨rfl, hp⟩
  have ho2 := ho.kept (HL.out.old _ _ hp) (by omega)
  have HPP := Lib.hid hp
  have KW := Lib.hid kW
  clear hp kW ho
  obtain ⟨⟨o0, o1, o2, o3⟩, f0, f1, f2, f3⟩ := ho2
  go_wp2_with fail
  refine bodyPost_ret (v := .tuple #[.pointer sp, zc.v, .int .i64 0]) (by simp [results, Tryz.results15, go_sem, o0, o1, o2, o3, zc]) rfl ⟨rfl, HL.out.later _ _ _ KW.out HPP.out ?_⟩
  first
    | exact Kept.refl _ _
    | exact ((((Kept.refl _ w2).setCell _ (Or.inr ⟨Nat.le_add_right _ 1, lo⟩) _).setCell _ (Or.inr ⟨Nat.le_add_right _ 1, lo⟩) _).setCell _ (Or.inr ⟨Nat.le_add_right _ 1, lo⟩) _).setCell _ (Or.inr ⟨Nat.le_add_right _ 1, lo⟩) _


set_option maxRecDepth 100000 in
set_option maxHeartbeats 1000000 in
theorem rasked_d9 (sp : Option Addr) (a1 a2 b1 b2 n wr : Int) (x : Cel) (gd : Bool) (w : World) (P : World → World → Prop) (V : Value) (hL : Later w P) 
    (hc : ∀ w', Kept0 w w' → Calls Tryz.prog 43 #[.pointer sp, opV 9 a1 a2 b1 b2 n x wr gd] w' fun e w'' => e = .returned V ∧ P w' w'') :
    Calls Tryz.prog 15 #[.pointer sp, opV 9 a1 a2 b1 b2 n x wr gd] w fun e w' => e = .returned (.tuple #[.pointer sp, zc.v, .int .i64 0]) ∧ P w w' := by
  have HC := Lib.hid hc
  have HL := Lib.hid hL
  clear hc hL
  go_enter Tryz.func15, Tryz.ntmps15
  go_wp2_with fail
  obtain ⟨W, hW⟩ : ∃ W, W = (w.alloc (.cells #[.int .i64 9, .int .i64 a1, .int .i64 a2, .int .i64 b1, .int .i64 b2, .int .i64 n, .int .i32 x.g, .int .i64 x.a, .bool x.b, .int .i64 x.m, .int .i64 wr, .bool gd] 42)).alloc (.cells #[.int .i32 0, .int .i64 0, .bool false, .int .i64 0] 36) := ⟨_, rfl⟩
  have kW : Kept0 w W := by rw [hW]; exact ((Kept.refl _ w).alloc _).alloc _
  have ho : CelW W (w.heap.size + 1) zc := by rw [hW]; have := CelW.new (w.alloc (.cells #[.int .i64 9, .int .i64 a1, .int .i64 a2, .int .i64 b1, .int .i64 b2, .int .i64 n, .int .i32 x.g, .int .i64 x.a, .bool x.b, .int .i64 x.m, .int .i64 wr, .bool gd] 42)) zc 36; rwa [World.size_alloc] at this
  rw [← hW]
  clear hW
  have lo := ho.lt
  refine (HC.out _ kW).mono ?_
  rintro e w2 ⟨rfl, hp⟩
  have ho2 := ho.kept (HL.out.old _ _ hp) (by omega)
  have HPP := Lib.hid hp
  have KW := Lib.hid kW
  clear hp kW ho
  obtain ⟨⟨o0, o1, o2, o3⟩, f0, f1, f2, f3⟩ := ho2
  go_wp2_with fail
  refine bodyPost_ret (v := .tuple #[.pointer sp, zc.v, .int .i64 0]) (by simp [results, Tryz.results15, go_sem, o0, o1, o2, o3, zc]) rfl ⟨rfl, HL.out.later _ _ _ KW.out HPP.out ?_⟩
  first
    | exact Kept.refl _ _
    | exact ((((Kept.refl _ w2).setCell _ (Or.inr ⟨Nat.le_add_right _ 1, lo⟩) _).setCell _ (Or.inr ⟨Nat.le_add_right _ 1, lo⟩) _).setCell _ (Or.inr ⟨Nat.le_add_right _ 1, lo⟩) _).setCell _ (Or.inr ⟨Nat.le_add_right _ 1, lo⟩) _


set_option maxRecDepth 100000 in
set_option maxHeartbeats 1000000 in
theorem rasked_d10 (sp : Option Addr) (a1 a2 b1 b2 n wr : Int) (x : Cel) (gd : Bool) (w : World) (P : World → World → Prop) (V : Value) (hL : Later w P) 
    (hc : ∀ w', Kept0 w w' → Calls Tryz.prog 43 #[.pointer sp, opV 10 a1 a2 b1 b2 n x wr gd] w' fun e w'' => e = .returned V ∧ P w' w'') :
    Calls Tryz.prog 15 #[.pointer sp, opV 10 a1 a2 b1 b2 n x wr gd] w fun e w' => e = .returned (.tuple #[.pointer sp, zc.v, .int .i64 0]) ∧ P w w' := by
  have HC := Lib.hid hc
  have HL := Lib.hid hL
  clear hc hL
  go_enter Tryz.func15, Tryz.ntmps15
  go_wp2_with fail
  obtain ⟨W, hW⟩ : ∃ W, W = (w.alloc (.cells #[.int .i64 10, .int .i64 a1, .int .i64 a2, .int .i64 b1, .int .i64 b2, .int .i64 n, .int .i32 x.g, .int .i64 x.a, .bool x.b, .int .i64 x.m, .int .i64 wr, .bool gd] 42)).alloc (.cells #[.int .i32 0, .int .i64 0, .bool false, .int .i64 0] 36) := ⟨_, rfl⟩
  have kW : Kept0 w W := by rw [hW]; exact ((Kept.refl _ w).alloc _).alloc _
  have ho : CelW W (w.heap.size + 1) zc := by rw [hW]; have := CelW.new (w.alloc (.cells #[.int .i64 10, .int .i64 a1, .int .i64 a2, .int .i64 b1, .int .i64 b2, .int .i64 n, .int .i32 x.g, .int .i64 x.a, .bool x.b, .int .i64 x.m, .int .i64 wr, .bool gd] 42)) zc 36; rwa [World.size_alloc] at this
  rw [← hW]
  clear hW
  have lo := ho.lt
  refine (HC.out _ kW).mono ?_
  rintro e w2 ⟨rfl, hp⟩
  have ho2 := ho.kept (HL.out.old _ _ hp) (by omega)
  have HPP := Lib.hid hp
  have KW := Lib.hid kW
  clear hp kW ho
  obtain ⟨⟨o0, o1, o2, o3⟩, f0, f1, f2, f3⟩ := ho2
  go_wp2_with fail
  refine bodyPost_ret (v := .tuple #[.pointer sp, zc.v, .int .i64 0]) (by simp [results, Tryz.results15, go_sem, o0, o1, o2, o3, zc]) rfl ⟨rfl, HL.out.later _ _ _ KW.out HPP.out ?_⟩
  first
    | exact Kept.refl _ _
    | exact ((((Kept.refl _ w2).setCell _ (Or.inr ⟨Nat.le_add_right _ 1, lo⟩) _).setCell _ (Or.inr ⟨Nat.le_add_right _ 1, lo⟩) _).setCell _ (Or.inr ⟨Nat.le_add_right _ 1, lo⟩) _).setCell _ (Or.inr ⟨Nat.le_add_right _ 1, lo⟩) _


set_option maxRecDepth 100000 in
set_option maxHeartbeats 1000000 in
theorem rasked_c1 (sp : Option Addr) (a1 a2 b1 b2 n wr : Int) (x : Cel) (gd : Bool) (w : World) (P : World → World → Prop) (V : Value) (hL : Later w P) 
    (hc : ∀ w', Kept0 w w' → Calls Tryz.prog 44 #[.pointer sp, pos a1 a2] w' fun e w'' => e = .returned V ∧ P w' w'') :
    Calls Tryz.prog 15 #[.pointer sp, opV 1 a1 a2 b1 b2 n x wr gd] w fun e w' => e = .returned (.tuple #[.pointer sp, zc.v, .int .i64 0]) ∧ P w w' := by
  have HC := Lib.hid hc
  have HL := Lib.hid hL
  clear hc hL
  go_enter Tryz.func15, Tryz.ntmps15
  go_wp2_with fail
  obtain ⟨W, hW⟩ : ∃ W, W = (w.alloc (.cells #[.int .i64 1, .int .i64 a1, .int .i64 a2, .int .i64 b1, .int .i64 b2, .int .i64 n, .int .i32 x.g, .int .i64 x.a, .bool x.b, .int .i64 x.m, .int .i64 wr, .bool gd] 42)).alloc (.cells #[.int .i32 0, .int .i64 0, .bool false, .int .i64 0] 36) := ⟨_, rfl⟩
  have kW : Kept0 w W := by rw [hW]; exact ((Kept.refl _ w).alloc _).alloc _
  have ho : CelW W (w.heap.size + 1) zc := by rw [hW]; have := CelW.new (w.alloc (.cells #[.int .i64 1, .int .i64 a1, .int .i64 a2, .int .i64 b1, .int .i64 b2, .int .i64 n, .int .i32 x.g, .int .i64 x.a, .bool x.b, .int .i64 x.m, .int .i64 wr, .bool gd] 42)) zc 36; rwa [World.size_alloc] at this
  rw [← hW]
  clear hW
  have lo := ho.lt
  refine (HC.out _ kW).mono ?_
  rintro e w2 ⟨rfl, hp⟩
  have ho2 := ho.kept (HL.out.old _ _ hp) (by omega)
  have HPP := Lib.hid hp
  have KW := Lib.hid kW
  clear hp kW ho
  obtain ⟨⟨o0, o1, o2, o3⟩, f0, f1, f2, f3⟩ := ho2
  go_wp2_with fail
  refine bodyPost_ret (v := .tuple #[.pointer sp, zc.v, .int .i64 0]) (by simp [results, Tryz.results15, go_sem, o0, o1, o2, o3, zc]) rfl ⟨rfl, HL.out.later _ _ _ KW.out HPP.out ?_⟩
  first
    | exact Kept.refl _ _
    | exact ((((Kept.refl _ w2).setCell _ (Or.inr ⟨Nat.le_add_right _ 1, lo⟩) _).setCell _ (Or.inr ⟨Nat.le_add_right _ 1, lo⟩) _).setCell _ (Or.inr ⟨Nat.le_add_right _ 1, lo⟩) _).setCell _ (Or.inr ⟨Nat.le_add_right _ 1, lo⟩) _


set_option maxRecDepth 100000 in
set_option maxHeartbeats 1000000 in
theorem rasked_c2 (sp : Option Addr) (a1 a2 b1 b2 n wr : Int) (x : Cel) (gd : Bool) (w : World) (P : World → World → Prop) (V : Value) (hL : Later w P) 
    (hc : ∀ w', Kept0 w w' → Calls Tryz.prog 45 #[.pointer sp, .int .i64 a1, .int .i64 a2] w' fun e w'' => e = .returned V ∧ P w' w'') :
    Calls Tryz.prog 15 #[.pointer sp, opV 2 a1 a2 b1 b2 n x wr gd] w fun e w' => e = .returned (.tuple #[.pointer sp, zc.v, .int .i64 0]) ∧ P w w' := by
  have HC := Lib.hid hc
  have HL := Lib.hid hL
  clear hc hL
  go_enter Tryz.func15, Tryz.ntmps15
  go_wp2_with fail
  obtain ⟨W, hW⟩ : ∃ W, W = (w.alloc (.cells #[.int .i64 2, .int .i64 a1, .int .i64 a2, .int .i64 b1, .int .i64 b2, .int .i64 n, .int .i32 x.g, .int .i64 x.a, .bool x.b, .int .i64 x.m, .int .i64 wr, .bool gd] 42)).alloc (.cells #[.int .i32 0, .int .i64 0, .bool false, .int .i64 0] 36) := ⟨_, rfl⟩
  have kW : Kept0 w W := by rw [hW]; exact ((Kept.refl _ w).alloc _).alloc _
  have ho : CelW W (w.heap.size + 1) zc := by rw [hW]; have := CelW.new (w.alloc (.cells #[.int .i64 2, .int .i64 a1, .int .i64 a2, .int .i64 b1, .int .i64 b2, .int .i64 n, .int .i32 x.g, .int .i64 x.a, .bool x.b, .int .i64 x.m, .int .i64 wr, .bool gd] 42)) zc 36; rwa [World.size_alloc] at this
  rw [← hW]
  clear hW
  have lo := ho.lt
  refine (HC.out _ kW).mono ?_
  rintro e w2 ⟨rfl, hp⟩
  have ho2 := ho.kept (HL.out.old _ _ hp) (by omega)
  have HPP := Lib.hid hp
  have KW := Lib.hid kW
  clear hp kW ho
  obtain ⟨⟨o0, o1, o2, o3⟩, f0, f1, f2, f3⟩ := ho2
  go_wp2_with fail
  refine bodyPost_ret (v := .tuple #[.pointer sp, zc.v, .int .i64 0]) (by simp [results, Tryz.results15, go_sem, o0, o1, o2, o3, zc]) rfl ⟨rfl, HL.out.later _ _ _ KW.out HPP.out ?_⟩
  first
    | exact Kept.refl _ _
    | exact ((((Kept.refl _ w2).setCell _ (Or.inr ⟨Nat.le_add_right _ 1, lo⟩) _).setCell _ (Or.inr ⟨Nat.le_add_right _ 1, lo⟩) _).setCell _ (Or.inr ⟨Nat.le_add_right _ 1, lo⟩) _).setCell _ (Or.inr ⟨Nat.le_add_right _ 1, lo⟩) _


set_option maxRecDepth 100000 in
set_option maxHeartbeats 1000000 in
theorem rasked_c3 (sp : Option Addr) (a1 a2 b1 b2 n wr : Int) (x : Cel) (gd : Bool) (w : World) (P : World → World → Prop) (V : Value) (hL : Later w P) 
    (hc : ∀ w', Kept0 w w' → Calls Tryz.prog 46 #[.pointer sp, .int .i64 n] w' fun e w'' => e = .returned V ∧ P w' w'') :
    Calls Tryz.prog 15 #[.pointer sp, opV 3 a1 a2 b1 b2 n x wr gd] w fun e w' => e = .returned (.tuple #[.pointer sp, zc.v, .int .i64 0]) ∧ P w w' := by
  have HC := Lib.hid hc
  have HL := Lib.hid hL
  clear hc hL
  go_enter Tryz.func15, Tryz.ntmps15
  go_wp2_with fail
  obtain ⟨W, hW⟩ : ∃ W, W = (w.alloc (.cells #[.int .i64 3, .int .i64 a1, .int .i64 a2, .int .i64 b1, .int .i64 b2, .int .i64 n, .int .i32 x.g, .int .i64 x.a, .bool x.b, .int .i64 x.m, .int .i64 wr, .bool gd] 42)).alloc (.cells #[.int .i32 0, .int .i64 0, .bool false, .int .i64 0] 36) := ⟨_, rfl⟩
  have kW : Kept0 w W := by rw [hW]; exact ((Kept.refl _ w).alloc _).alloc _
  have ho : CelW W (w.heap.size + 1) zc := by rw [hW]; have := CelW.new (w.alloc (.cells #[.int .i64 3, .int .i64 a1, .int .i64 a2, .int .i64 b1, .int .i64 b2, .int .i64 n, .int .i32 x.g, .int .i64 x.a, .bool x.b, .int .i64 x.m, .int .i64 wr, .bool gd] 42)) zc 36; rwa [World.size_alloc] at this
  rw [← hW]
  clear hW
  have lo := ho.lt
  refine (HC.out _ kW).mono ?_
  rintro e w2 ⟨rfl, hp⟩
  have ho2 := ho.kept (HL.out.old _ _ hp) (by omega)
  have HPP := Lib.hid hp
  have KW := Lib.hid kW
  clear hp kW ho
  obtain ⟨⟨o0, o1, o2, o3⟩, f0, f1, f2, f3⟩ := ho2
  go_wp2_with fail
  refine bodyPost_ret (v := .tuple #[.pointer sp, zc.v, .int .i64 0]) (by simp [results, Tryz.results15, go_sem, o0, o1, o2, o3, zc]) rfl ⟨rfl, HL.out.later _ _ _ KW.out HPP.out ?_⟩
  first
    | exact Kept.refl _ _
    | exact ((((Kept.refl _ w2).setCell _ (Or.inr ⟨Nat.le_add_right _ 1, lo⟩) _).setCell _ (Or.inr ⟨Nat.le_add_right _ 1, lo⟩) _).setCell _ (Or.inr ⟨Nat.le_add_right _ 1, lo⟩) _).setCell _ (Or.inr ⟨Nat.le_add_right _ 1, lo⟩) _


set_option maxRecDepth 100000 in
set_option maxHeartbeats 1000000 in
theorem rasked_c4 (sp : Option Addr) (a1 a2 b1 b2 n wr : Int) (x : Cel) (gd : Bool) (w : World) (P : World → World → Prop) (V : Value) (hL : Later w P) 
    (hc : ∀ w', Kept0 w w' → Calls Tryz.prog 47 #[.pointer sp, .int .i64 n] w' fun e w'' => e = .returned V ∧ P w' w'') :
    Calls Tryz.prog 15 #[.pointer sp, opV 4 a1 a2 b1 b2 n x wr gd] w fun e w' => e = .returned (.tuple #[.pointer sp, zc.v, .int .i64 0]) ∧ P w w' := by
  have HC := Lib.hid hc
  have HL := Lib.hid hL
  clear hc hL
  go_enter Tryz.func15, Tryz.ntmps15
  go_wp2_with fail
  obtain ⟨W, hW⟩ : ∃ W, W = (w.alloc (.cells #[.int .i64 4, .int .i64 a1, .int .i64 a2, .int .i64 b1, .int .i64 b2, .int .i64 n, .int .i32 x.g, .int .i64 x.a, .bool x.b, .int .i64 x.m, .int .i64 wr, .bool gd] 42)).alloc (.cells #[.int .i32 0, .int .i64 0, .bool false, .int .i64 0] 36) := ⟨_, rfl⟩
  have kW : Kept0 w W := by rw [hW]; exact ((Kept.refl _ w).alloc _).alloc _
  have ho : CelW W (w.heap.size + 1) zc := by rw [hW]; have := CelW.new (w.alloc (.cells #[.int .i64 4, .int .i64 a1, .int .i64 a2, .int .i64 b1, .int .i64 b2, .int .i64 n, .int .i32 x.g, .int .i64 x.a, .bool x.b, .int .i64 x.m, .int .i64 wr, .bool gd] 42)) zc 36; rwa [World.size_alloc] at this
  rw [← hW]
  clear hW
  have lo := ho.lt
  refine (HC.out _ kW).mono ?_
  rintro e w2 ⟨rfl, hp⟩
  have ho2 := ho.kept (HL.out.old _ _ hp) (by omega)
  have HPP := Lib.hid hp
  have KW := Lib.hid kW
  clear hp kW ho
  obtain ⟨⟨o0, o1, o2, o3⟩, f0, f1, f2, f3⟩ := ho2
  go_wp2_with fail
  refine bodyPost_ret (v := .tuple #[.pointer sp, zc.v, .int .i64 0]) (by simp [results, Tryz.results15, go_sem, o0, o1, o2, o3, zc]) rfl ⟨rfl, HL.out.later _ _ _ KW.out HPP.out ?_⟩
  first
    | exact Kept.refl _ _
    | exact ((((Kept.refl _ w2).setCell _ (Or.inr ⟨Nat.le_add_right _ 1, lo⟩) _).setCell _ (Or.inr ⟨Nat.le_add_right _ 1, lo⟩) _).setCell _ (Or.inr ⟨Nat.le_add_right _ 1, lo⟩) _).setCell _ (Or.inr ⟨Nat.le_add_right _ 1, lo⟩) _


set_option maxRecDepth 100000 in
set_option maxHeartbeats 1000000 in
theorem rasked_c11f (sp : Option Addr) (a1 a2 b1 b2 n wr : Int) (x : Cel) (gd : Bool) (w : World) (P : World → World → Prop)  (hL : Later w P) 
    (hc : ∀ w', Kept0 w w' → Calls Tryz.prog 50 #[.pointer sp, .bool gd] w' fun e w'' => e = .returned (.bool false) ∧ P w' w'') :
    Calls Tryz.prog 15 #[.pointer sp, opV 11 a1 a2 b1 b2 n x wr gd] w fun e w' => e = .returned (.tuple #[.pointer sp, zc.v, .int .i64 0]) ∧ P w w' := by
  have HC := Lib.hid hc
  have HL := Lib.hid hL
  clear hc hL
  go_enter Tryz.func15, Tryz.ntmps15
  go_wp2_with fail
  obtain ⟨W, hW⟩ : ∃ W, W = (w.alloc (.cells #[.int .i64 11, .int .i64 a1, .int .i64 a2, .int .i64 b1, .int .i64 b2, .int .i64 n, .int .i32 x.g, .int .i64 x.a, .bool x.b, .int .i64 x.m, .int .i64 wr, .bool gd] 42)).alloc (.cells #[.int .i32 0, .int .i64 0, .bool false, .int .i64 0] 36) := ⟨_, rfl⟩
  have kW : Kept0 w W := by rw [hW]; exact ((Kept.refl _ w).alloc _).alloc _
  have ho : CelW W (w.heap.size + 1) zc := by rw [hW]; have := CelW.new (w.alloc (.cells #[.int .i64 11, .int .i64 a1, .int .i64 a2, .int .i64 b1, .int .i64 b2, .int .i64 n, .int .i32 x.g, .int .i64 x.a, .bool x.b, .int .i64 x.m, .int .i64 wr, .bool gd] 42)) zc 36; rwa [World.size_alloc] at this
  rw [← hW]
  clear hW
  have lo := ho.lt
  refine (HC.out _ kW).mono ?_
  rintro e w2 ⟨rfl, hp⟩
  have ho2 := ho.kept (HL.out.old _ _ hp) (by omega)
  have HPP := Lib.hid hp
  have KW := Lib.hid kW
  clear hp kW ho
  obtain ⟨⟨o0, o1, o2, o3⟩, f0, f1, f2, f3⟩ := ho2
  go_wp2_with fail
  refine bodyPost_ret (v := .tuple #[.pointer sp, zc.v, .int .i64 0]) (by simp [results, Tryz.results15, go_sem, o0, o1, o2, o3, zc]) rfl ⟨rfl, HL.out.later _ _ _ KW.out HPP.out ?_⟩
  first
    | exact Kept.refl _ _
    | exact ((((Kept.refl _ w2).setCell _ (Or.inr ⟨Nat.le_add_right _ 1, lo⟩) _).setCell _ (Or.inr ⟨Nat.le_add_right _ 1, lo⟩) _).setCell _ (Or.inr ⟨Nat.le_add_right _ 1, lo⟩) _).setCell _ (Or.inr ⟨Nat.le_add_right _ 1, lo⟩) _


set_option maxRecDepth 100000 in
set_option maxHeartbeats 1000000 in
theorem rasked_c11t (sp : Option Addr) (a1 a2 b1 b2 n wr : Int) (x : Cel) (gd : Bool) (w : World) (P : World → World → Prop)  (hL : Later w P) 
    (hc : ∀ w', Kept0 w w' → Calls Tryz.prog 50 #[.pointer sp, .bool gd] w' fun e w'' => e = .returned (.bool true) ∧ P w' w'') :
    Calls Tryz.prog 15 #[.pointer sp, opV 11 a1 a2 b1 b2 n x wr gd] w fun e w' => e = .returned (.tuple #[.pointer sp, Cel.v ⟨0, 0, false, 1⟩, .int .i64 0]) ∧ P w w' := by
  have HC := Lib.hid hc
  have HL := Lib.hid hL
  clear hc hL
  go_enter Tryz.func15, Tryz.ntmps15
  go_wp2_with fail
  obtain ⟨W, hW⟩ : ∃ W, W = (w.alloc (.cells #[.int .i64 11, .int .i64 a1, .int .i64 a2, .int .i64 b1, .int .i64 b2, .int .i64 n, .int .i32 x.g, .int .i64 x.a, .bool x.b, .int .i64 x.m, .int .i64 wr, .bool gd] 42)).alloc (.cells #[.int .i32 0, .int .i64 0, .bool false, .int .i64 0] 36) := ⟨_, rfl⟩
  have kW : Kept0 w W := by rw [hW]; exact ((Kept.refl _ w).alloc _).alloc _
  have ho : CelW W (w.heap.size + 1) zc := by rw [hW]; have := CelW.new (w.alloc (.cells #[.int .i64 11, .int .i64 a1, .int .i64 a2, .int .i64 b1, .int .i64 b2, .int .i64 n, .int .i32 x.g, .int .i64 x.a, .bool x.b, .int .i64 x.m, .int .i64 wr, .bool gd] 42)) zc 36; rwa [World.size_alloc] at this
  rw [← hW]
  clear hW
  have lo := ho.lt
  refine (HC.out _ kW).mono ?_
  rintro e w2 ⟨rfl, hp⟩
  have ho2 := ho.kept (HL.out.old _ _ hp) (by omega)
  have HPP := Lib.hid hp
  have KW := Lib.hid kW
  clear hp kW ho
  obtain ⟨⟨o0, o1, o2, o3⟩, f0, f1, f2, f3⟩ := ho2
  go_wp2_with fail
  refine bodyPost_ret (v := .tuple #[.pointer sp, Cel.v ⟨0, 0, false, 1⟩, .int .i64 0]) (by simp [results, Tryz.results15, go_sem, o0, o1, o2, o3]) rfl ⟨rfl, HL.out.later _ _ _ KW.out HPP.out ?_⟩
  first
    | exact Kept.refl _ _
    | exact ((((Kept.refl _ w2).setCell _ (Or.inr ⟨Nat.le_add_right _ 1, lo⟩) _).setCell _ (Or.inr ⟨Nat.le_add_right _ 1, lo⟩) _).setCell _ (Or.inr ⟨Nat.le_add_right _ 1, lo⟩) _).setCell _ (Or.inr ⟨Nat.le_add_right _ 1, lo⟩) _


end Go.Proofs.YtkpfhgfdfndliaaGreatDoor
