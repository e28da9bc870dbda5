/-
  The statements' own calls of the document's screen, drawn and asked: the cases that read the screen themselves.
-/
import Derived.Test.YtkpfhgfdfndliaaGreatDoorRDoA
import Derived.Test.YtkpfhgfdfndliaaGreatDoorRScR
import Derived.Test.YtkpfhgfdfndliaaGreatDoorRScP3
import Derived.Test.YtkpfhgfdfndliaaGreatDoorRScQ
import Derived.Test.YtkpfhgfdfndliaaGreatDoorRScC
import Derived.Test.YtkpfhgfdfndliaaGreatDoorShRefE
import Derived.Test.YtkpfhgfdfndliaaGreatDoorFewZ
import Derived.Deep.DeepCutAuto
namespace Go.Proofs.YtkpfhgfdfndliaaGreatDoor
open Go.RowKit

theorem keptZ (w : World) (z : Nat) (x : Cel) : Kept (· = z) w ((((w.setCell ⟨z, 0, none⟩ (.int .i32 x.g)).setCell ⟨z, 1, none⟩ (.int .i64 x.a)).setCell ⟨z, 2, none⟩ (.bool x.b)).setCell ⟨z, 3, none⟩ (.int .i64 x.m)) :=
  (Kept.refl (· = z) w).setCel z 0 (Or.inr rfl) x

set_option maxRecDepth 100000 in
set_option maxHeartbeats 2000000 in
theorem rdrawn_c9 {s g t cap tb m R C : Nat} {F : Nat → Cel} {S : Nat → Bool} {r c : Int} {b : Bool} (a1 a2 b1 b2 n wr : Int) (x : Cel) (gd : Bool) (w : World) (h : RIn w s g t cap tb m R C F S r c b) (hn : -9223372036854775808 ≤ n ∧ n ≤ 9223372036854775807) :
    Calls Tryz.prog 43 #[ptr s, opV 9 a1 a2 b1 b2 n x wr gd] w fun e w' => e = .returned (.tuple #[]) ∧ RIn w' s g t cap tb m R C (Sh.linesF R C F r n x gd) S r c b ∧ Kept (· = t) w w' := by
  have hl := h.lt
  have H := Lib.hid h
  clear h
  go_enter Tryz.func43, Tryz.ntmps43
  go_wp2_with fail
  obtain ⟨W, hW⟩ : ∃ W, W = w.alloc (.cells #[.int .i64 9, .int .i64 a1, .int .i64 a2, .int .i64 b1, .int .i64 b2, .int .i64 n, .int .i32 x.g, .int .i64 x.a, .bool x.b, .int .i64 x.m, .int .i64 wr, .bool gd] 42) := ⟨_, rfl⟩
  have hh : W.heap[w.heap.size]? = some (.cells #[.int .i64 9, .int .i64 a1, .int .i64 a2, .int .i64 b1, .int .i64 b2, .int .i64 n, .int .i32 x.g, .int .i64 x.a, .bool x.b, .int .i64 x.m, .int .i64 wr, .bool gd] 42 (0, 0)) := by rw [hW]; exact heap_new w _
  have kW : Kept0 w W := by rw [hW]; exact (Kept.refl _ w).alloc _
  have q0 : W.cell? ⟨w.heap.size, 0, none⟩ = some (.int .i64 9) := by simp [World.cell?, hh]
  have q5 : W.cell? ⟨w.heap.size, 5, none⟩ = some (.int .i64 n) := by simp [World.cell?, hh]
  have q6 : W.cell? ⟨w.heap.size, 6, none⟩ = some (.int .i32 x.g) := by simp [World.cell?, hh]
  have q7 : W.cell? ⟨w.heap.size, 7, none⟩ = some (.int .i64 x.a) := by simp [World.cell?, hh]
  have q8 : W.cell? ⟨w.heap.size, 8, none⟩ = some (.bool x.b) := by simp [World.cell?, hh]
  have q9 : W.cell? ⟨w.heap.size, 9, none⟩ = some (.int .i64 x.m) := by simp [World.cell?, hh]
  have q11 : W.cell? ⟨w.heap.size, 11, none⟩ = some (.bool gd) := by simp [World.cell?, hh]
  have hS := H.out.kept0 kW
  have HS := Lib.hid hS
  have c0 := hS.c0
  have c1 := hS.c1
  have c2 := hS.c2
  have KW := Lib.hid kW
  have HC := Lib.hid (fun w' (k : Kept0 W w') => Sh.linesR g t cap R C F r n x gd w' ((hS.kept0 k).grid) hn)
  rw [← hW]
  clear hW hh kW hS
  go_still_tail 16, (by kernel_rfl)
  repeat still_step
  change wpList _ _ _ _ _ W.drew
  go_wp2_with fail
  refine (HC.out _ (Kept.refl _ W).drew).mono ?_
  rintro e w2 ⟨rfl, hg, k2⟩
  have HF : Hid (RIn w2 s g t cap tb m R C (Sh.linesF R C F r n x gd) S r c b) := (HS.out.kept0 (Kept.refl _ W).drew).onGrid k2 hg
  have HK : Hid (Kept (· = t) w w2) := (Kept0.to (KW.out.drew)).trans k2
  clear hg k2 HC
  go_wp2_with fail
  refine bodyPost_end (results_none rfl _ _ _) rfl ?_
  exact ⟨rfl, HF.out, HK.out⟩

set_option maxRecDepth 100000 in
set_option maxHeartbeats 2000000 in
theorem rdrawn_c10 {s g t cap tb m R C : Nat} {F : Nat → Cel} {S : Nat → Bool} {r c : Int} {b : Bool} (a1 a2 b1 b2 n wr : Int) (x : Cel) (gd : Bool) (w : World) (h : RIn w s g t cap tb m R C F S r c b) (hn : -9223372036854775808 ≤ n ∧ n ≤ 9223372036854775807) :
    Calls Tryz.prog 43 #[ptr s, opV 10 a1 a2 b1 b2 n x wr gd] w fun e w' => e = .returned (.tuple #[]) ∧ RIn w' s g t cap tb m R C (Sh.charsF R C F r c n x gd) S r c b ∧ Kept (· = t) w w' := by
  have hl := h.lt
  have H := Lib.hid h
  clear h
  go_enter Tryz.func43, Tryz.ntmps43
  go_wp2_with fail
  obtain ⟨W, hW⟩ : ∃ W, W = w.alloc (.cells #[.int .i64 10, .int .i64 a1, .int .i64 a2, .int .i64 b1, .int .i64 b2, .int .i64 n, .int .i32 x.g, .int .i64 x.a, .bool x.b, .int .i64 x.m, .int .i64 wr, .bool gd] 42) := ⟨_, rfl⟩
  have hh : W.heap[w.heap.size]? = some (.cells #[.int .i64 10, .int .i64 a1, .int .i64 a2, .int .i64 b1, .int .i64 b2, .int .i64 n, .int .i32 x.g, .int .i64 x.a, .bool x.b, .int .i64 x.m, .int .i64 wr, .bool gd] 42 (0, 0)) := by rw [hW]; exact heap_new w _
  have kW : Kept0 w W := by rw [hW]; exact (Kept.refl _ w).alloc _
  have q0 : W.cell? ⟨w.heap.size, 0, none⟩ = some (.int .i64 10) := by simp [World.cell?, hh]
  have q5 : W.cell? ⟨w.heap.size, 5, none⟩ = some (.int .i64 n) := by simp [World.cell?, hh]
  have q6 : W.cell? ⟨w.heap.size, 6, none⟩ = some (.int .i32 x.g) := by simp [World.cell?, hh]
  have q7 : W.cell? ⟨w.heap.size, 7, none⟩ = some (.int .i64 x.a) := by simp [World.cell?, hh]
  have q8 : W.cell? ⟨w.heap.size, 8, none⟩ = some (.bool x.b) := by simp [World.cell?, hh]
  have q9 : W.cell? ⟨w.heap.size, 9, none⟩ = some (.int .i64 x.m) := by simp [World.cell?, hh]
  have q11 : W.cell? ⟨w.heap.size, 11, none⟩ = some (.bool gd) := by simp [World.cell?, hh]
  have hS := H.out.kept0 kW
  have HS := Lib.hid hS
  have c0 := hS.c0
  have c1 := hS.c1
  have c2 := hS.c2
  have KW := Lib.hid kW
  have HC := Lib.hid (fun w' (k : Kept0 W w') => Sh.charsR g t cap R C F r c n x gd w' ((hS.kept0 k).grid) hn)
  rw [← hW]
  clear hW hh kW hS
  go_still_tail 15, (by kernel_rfl)
  repeat still_step
  change wpList _ _ _ _ _ W.drew
  go_wp2_with fail
  refine (HC.out _ (Kept.refl _ W).drew).mono ?_
  rintro e w2 ⟨rfl, hg, k2⟩
  have HF : Hid (RIn w2 s g t cap tb m R C (Sh.charsF R C F r c n x gd) S r c b) := (HS.out.kept0 (Kept.refl _ W).drew).onGrid k2 hg
  have HK : Hid (Kept (· = t) w w2) := (Kept0.to (KW.out.drew)).trans k2
  clear hg k2 HC
  go_wp2_with fail
  refine bodyPost_end (results_none rfl _ _ _) rfl ?_
  exact ⟨rfl, HF.out, HK.out⟩

theorem rtput_any (tb m C : Nat) (S : Nat → Bool) (on : Bool) (bl : Nat) (cap : Nat) (n : Int) (w : World) (h : Tb.RefAt w tb m C S) (hl : w.cell? ⟨bl, 0, none⟩ = some (.int .i64 n)) (hne : bl ≠ m) :
    Calls Tryz.prog 48 #[ptr tb, .bool on, .slice (some ⟨bl, 0, none⟩) 1 cap] w fun e w' => (∃ V, e = .returned V) ∧ Tb.RefAt w' tb m C (stopF C S n on) ∧ Kept (· = m) w w' := by
  have hi : Tb.IntsIn w (some ⟨bl, 0, none⟩) [n] := fun k x hx => by
    have hk : k = 0 := by have := (List.getElem?_eq_some_iff.1 hx).1; simpa using this
    subst hk
    simp at hx
    subst hx
    exact ⟨bl, 0, rfl, hl⟩
  by_cases hb : 0 ≤ n ∧ n < C
  · rw [show stopF C S n on = Tb.putF S on [n] from if_pos hb]
    refine (Tb.refPut_ok tb m C S on (some ⟨bl, 0, none⟩) cap [n] w h hi (fun k x _ bl' off e => by cases e; exact hne) (by simp) (fun x hx => by simp at hx; subst hx; exact hb)).mono ?_
    rintro e w' ⟨rfl, h1, h2⟩
    exact ⟨⟨_, rfl⟩, h1, h2⟩
  · rw [show stopF C S n on = S from if_neg hb]
    refine (Tb.refPut_bad tb m C S on (some ⟨bl, 0, none⟩) cap [n] w h hi (by simp) (fun e => hb (e n (by simp)))).mono ?_
    rintro e w' ⟨rfl, h2⟩
    exact ⟨⟨_, rfl⟩, h.kept0 h2, Kept0.to h2⟩
theorem rtevery_any (tb m C : Nat) (S : Nat → Bool) (n : Int) (w : World) (h : Tb.RefAt w tb m C S) :
    Calls Tryz.prog 49 #[ptr tb, .int .i64 n] w fun e w' => (∃ V, e = .returned V) ∧ Tb.RefAt w' tb m C (stopsF S n) ∧ Kept (· = m) w w' := by
  by_cases hb : n < 0
  · rw [show stopsF S n = S from if_pos hb]
    refine (Tb.refEvery_bad tb n w hb).mono ?_
    rintro e w' ⟨rfl, h2⟩
    exact ⟨⟨_, rfl⟩, h.kept0 h2, Kept0.to h2⟩
  · rw [show stopsF S n = Tb.everyF n from if_neg hb]
    refine (Tb.refEvery_ok tb m C S n w h (by omega)).mono ?_
    rintro e w' ⟨rfl, h1, h2⟩
    exact ⟨⟨_, rfl⟩, h1, h2⟩

set_option maxRecDepth 100000 in
set_option maxHeartbeats 4000000 in
theorem rasked_c5 {s g t cap tb m R C : Nat} {F : Nat → Cel} {S : Nat → Bool} {r c : Int} {b : Bool} (a1 a2 b1 b2 n wr : Int) (x : Cel) (gd : Bool) (w : World) (h : RIn w s g t cap tb m R C F S r c b) :
    Calls Tryz.prog 15 #[ptr s, opV 5 a1 a2 b1 b2 n x wr gd] w fun e w' => e = .returned (.tuple #[ptr s, zc.v, .int .i64 0]) ∧ RIn w' s g t cap tb m R C F (stopF C S n (!gd)) r c b ∧ Kept (· = m) w w' := by
  have hl := h.lt
  have H := Lib.hid h
  clear h
  go_enter Tryz.func15, Tryz.ntmps15
  go_wp2_with fail
  obtain ⟨W, hW⟩ : ∃ W, W = (w.alloc (.cells #[.int .i64 5, .int .i64 a1, .int .i64 a2, .int .i64 b1, .int .i64 b2, .int .i64 n, .int .i32 x.g, .int .i64 x.a, .bool x.b, .int .i64 x.m, .int .i64 wr, .bool gd] 42)).alloc (.cells #[.int .i32 0, .int .i64 0, .bool false, .int .i64 0] 36) := ⟨_, rfl⟩
  have hh : W.heap[w.heap.size]? = some (.cells #[.int .i64 5, .int .i64 a1, .int .i64 a2, .int .i64 b1, .int .i64 b2, .int .i64 n, .int .i32 x.g, .int .i64 x.a, .bool x.b, .int .i64 x.m, .int .i64 wr, .bool gd] 42 (0, 0)) := by rw [hW]; exact (Below.heap_alloc _ _ _ (by simp)).trans (heap_new w _)
  have kW : Kept0 w W := by rw [hW]; exact ((Kept.refl _ w).alloc _).alloc _
  have ho : CelW W (w.heap.size + 1) zc := by rw [hW]; have := CelW.new (w.alloc (.cells #[.int .i64 5, .int .i64 a1, .int .i64 a2, .int .i64 b1, .int .i64 b2, .int .i64 n, .int .i32 x.g, .int .i64 x.a, .bool x.b, .int .i64 x.m, .int .i64 wr, .bool gd] 42)) zc 36; rwa [World.size_alloc] at this
  have lo := ho.lt
  have q0 : W.cell? ⟨w.heap.size, 0, none⟩ = some (.int .i64 5) := by simp [World.cell?, hh]
  have q5 : W.cell? ⟨w.heap.size, 5, none⟩ = some (.int .i64 n) := by simp [World.cell?, hh]
  have q11 : W.cell? ⟨w.heap.size, 11, none⟩ = some (.bool gd) := by simp [World.cell?, hh]
  have hS := H.out.kept0 kW
  have HS := Lib.hid hS
  have KW := Lib.hid kW
  have c4 := hS.c4
  have hmlt := hS.tabs.ltb
  have HC := Lib.hid (fun w' (k : Kept0 W w') bl cap (hb : w'.cell? ⟨bl, 0, none⟩ = some (.int .i64 n)) (hne : bl ≠ m) => rtput_any tb m C S (!gd) bl cap n w' ((hS.kept0 k).tabs) hb hne)
  have hsm := hS.apart.1.2.2.2
  have hwm : ¬ w.heap.size = m := by have := H.out.tabs.ltb; omega
  rw [← hW]
  clear hW hh kW hS
  have c4 := fun w' (k : Kept (· = m) W w') => kcellS k c4 hsm
  have q0 := fun w' (k : Kept (· = m) W w') => kcellS k q0 hwm
  have q5 := fun w' (k : Kept (· = m) W w') => kcellS k q5 hwm
  have q11 := fun w' (k : Kept (· = m) W w') => kcellS k q11 hwm
  have hmW := HS.out.tabs.ltb
  go_region_held3 (fun w' => Kept (· = m) W w') (repeat (first | assumption | exact Kept.refl _ _ | refine Kept.drew ?_ | refine Kept.alloc ?_ _))
    (first
      | (go_at_call 48; refine (HC.out _ (by first | exact ((Kept.refl (fun _ => False) W).alloc _).drew | exact (Kept.refl (fun _ => False) W).drew.alloc _) _ _ (by simp [go_sem]) (by omega)).mono ?_; rintro e w5 ⟨⟨V5, rfl⟩, hT5, hk5⟩; have ka : Kept (· = m) W w5 := Kept.trans (by first | exact ((Kept.refl _ W).alloc _).drew | exact (Kept.refl _ W).drew.alloc _) hk5; have kb := hk5; have HT5 := Lib.hid hT5; clear hT5))
  have HF : Hid (RIn w5 s g t cap tb m R C F (stopF C S n (!gd)) r c b) := by
    first
      | exact (HS.out.kept0 ((Kept.refl (fun _ => False) W).alloc _).drew).onTabs kb HT5.out
      | exact (HS.out.kept0 ((Kept.refl (fun _ => False) W).drew.alloc _)).onTabs kb HT5.out
  have HK := Lib.hid ka
  have ho2 := ho.kept ka (by have := H.out.tabs.ltb; omega)
  obtain ⟨⟨o0, o1, o2, o3⟩, f0, f1, f2, f3⟩ := ho2
  clear ka kb hk5 HC q0 q5 q11 c4
  go_wp2_with fail
  refine bodyPost_ret (v := .tuple #[ptr s, zc.v, .int .i64 0]) (by simp [results, Tryz.results15, go_sem, o0, o1, o2, o3, zc]) rfl ?_
  have kS := keptZ w5 (w.heap.size + 1) zc
  have hsl := H.out.all_lt
  exact ⟨rfl, HF.out.kept kS (fun i hi e => by have := hsl i hi; omega), ((Kept0.to KW.out).trans HK.out).later kS (fun i hi e => by omega)⟩

set_option maxRecDepth 100000 in
set_option maxHeartbeats 4000000 in
theorem rasked_c6 {s g t cap tb m R C : Nat} {F : Nat → Cel} {S : Nat → Bool} {r c : Int} {b : Bool} (a1 a2 b1 b2 n wr : Int) (x : Cel) (gd : Bool) (w : World) (h : RIn w s g t cap tb m R C F S r c b) :
    Calls Tryz.prog 15 #[ptr s, opV 6 a1 a2 b1 b2 n x wr gd] w fun e w' => e = .returned (.tuple #[ptr s, zc.v, .int .i64 0]) ∧ RIn w' s g t cap tb m R C F (stopsF S n) r c b ∧ Kept (· = m) w w' := by
  have hl := h.lt
  have H := Lib.hid h
  clear h
  go_enter Tryz.func15, Tryz.ntmps15
  go_wp2_with fail
  obtain ⟨W, hW⟩ : ∃ W, W = (w.alloc (.cells #[.int .i64 6, .int .i64 a1, .int .i64 a2, .int .i64 b1, .int .i64 b2, .int .i64 n, .int .i32 x.g, .int .i64 x.a, .bool x.b, .int .i64 x.m, .int .i64 wr, .bool gd] 42)).alloc (.cells #[.int .i32 0, .int .i64 0, .bool false, .int .i64 0] 36) := ⟨_, rfl⟩
  have hh : W.heap[w.heap.size]? = some (.cells #[.int .i64 6, .int .i64 a1, .int .i64 a2, .int .i64 b1, .int .i64 b2, .int .i64 n, .int .i32 x.g, .int .i64 x.a, .bool x.b, .int .i64 x.m, .int .i64 wr, .bool gd] 42 (0, 0)) := by rw [hW]; exact (Below.heap_alloc _ _ _ (by simp)).trans (heap_new w _)
  have kW : Kept0 w W := by rw [hW]; exact ((Kept.refl _ w).alloc _).alloc _
  have ho : CelW W (w.heap.size + 1) zc := by rw [hW]; have := CelW.new (w.alloc (.cells #[.int .i64 6, .int .i64 a1, .int .i64 a2, .int .i64 b1, .int .i64 b2, .int .i64 n, .int .i32 x.g, .int .i64 x.a, .bool x.b, .int .i64 x.m, .int .i64 wr, .bool gd] 42)) zc 36; rwa [World.size_alloc] at this
  have lo := ho.lt
  have q0 : W.cell? ⟨w.heap.size, 0, none⟩ = some (.int .i64 6) := by simp [World.cell?, hh]
  have q5 : W.cell? ⟨w.heap.size, 5, none⟩ = some (.int .i64 n) := by simp [World.cell?, hh]
  have hS := H.out.kept0 kW
  have HS := Lib.hid hS
  have KW := Lib.hid kW
  have c4 := hS.c4
  have hmlt := hS.tabs.ltb
  have HC := Lib.hid (fun w' (k : Kept0 W w') => rtevery_any tb m C S n w' ((hS.kept0 k).tabs))
  rw [← hW]
  clear hW hh kW hS
  go_still_tail 6, (by kernel_rfl)
  repeat still_step
  change wpList _ _ _ _ _ W.drew
  go_wp2_with fail
  refine (HC.out _ (Kept.refl _ W).drew).mono ?_
  rintro e w2 ⟨⟨V2, rfl⟩, hg, k2⟩
  have HF : Hid (RIn w2 s g t cap tb m R C F (stopsF S n) r c b) := (HS.out.kept0 (Kept.refl _ W).drew).onTabs k2 hg
  have HK : Hid (Kept (· = m) W w2) := (Kept0.to ((Kept.refl (fun _ => False) W).drew)).trans k2
  have ho2 := ho.kept HK.out (by have := H.out.tabs.ltb; omega)
  obtain ⟨⟨o0, o1, o2, o3⟩, f0, f1, f2, f3⟩ := ho2
  clear hg k2 HC q0 q5 c4
  go_wp2_with fail
  refine bodyPost_ret (v := .tuple #[ptr s, zc.v, .int .i64 0]) (by simp [results, Tryz.results15, go_sem, o0, o1, o2, o3, zc]) rfl ?_
  have kS := keptZ w2 (w.heap.size + 1) zc
  have hsl := H.out.all_lt
  exact ⟨rfl, HF.out.kept kS (fun i hi e => by have := hsl i hi; omega), (Kept0.to KW.out).trans HK.out |>.later kS (fun i hi e => by omega)⟩

set_option maxRecDepth 100000 in
set_option maxHeartbeats 4000000 in
theorem rasked_c12n {s g t cap tb m R C : Nat} {F : Nat → Cel} {S : Nat → Bool} {r c : Int} {b : Bool} (a1 a2 b1 b2 n wr : Int) (x : Cel) (gd : Bool) (w : World) (h : RIn w s g t cap tb m R C F S r c b) (hm : mayB a1 a2 = false) :
    Calls Tryz.prog 15 #[ptr s, opV 12 a1 a2 b1 b2 n x wr gd] w fun e w' => e = .returned (.tuple #[ptr s, zc.v, .int .i64 10]) ∧ Kept0 w w' := by
  have hl := h.lt
  have H := Lib.hid h
  clear h
  go_enter Tryz.func15, Tryz.ntmps15
  go_wp2_with fail
  obtain ⟨W, hW⟩ : ∃ W, W = (w.alloc (.cells #[.int .i64 12, .int .i64 a1, .int .i64 a2, .int .i64 b1, .int .i64 b2, .int .i64 n, .int .i32 x.g, .int .i64 x.a, .bool x.b, .int .i64 x.m, .int .i64 wr, .bool gd] 42)).alloc (.cells #[.int .i32 0, .int .i64 0, .bool false, .int .i64 0] 36) := ⟨_, rfl⟩
  have hh : W.heap[w.heap.size]? = some (.cells #[.int .i64 12, .int .i64 a1, .int .i64 a2, .int .i64 b1, .int .i64 b2, .int .i64 n, .int .i32 x.g, .int .i64 x.a, .bool x.b, .int .i64 x.m, .int .i64 wr, .bool gd] 42 (0, 0)) := by rw [hW]; exact (Below.heap_alloc _ _ _ (by simp)).trans (heap_new w _)
  have kW : Kept0 w W := by rw [hW]; exact ((Kept.refl _ w).alloc _).alloc _
  have ho : CelW W (w.heap.size + 1) zc := by rw [hW]; have := CelW.new (w.alloc (.cells #[.int .i64 12, .int .i64 a1, .int .i64 a2, .int .i64 b1, .int .i64 b2, .int .i64 n, .int .i32 x.g, .int .i64 x.a, .bool x.b, .int .i64 x.m, .int .i64 wr, .bool gd] 42)) zc 36; rwa [World.size_alloc] at this
  have lo := ho.lt
  have q0 : W.cell? ⟨w.heap.size, 0, none⟩ = some (.int .i64 12) := by simp [World.cell?, hh]
  have q1 : W.cell? ⟨w.heap.size, 1, none⟩ = some (.int .i64 a1) := by simp [World.cell?, hh]
  have q2 : W.cell? ⟨w.heap.size, 2, none⟩ = some (.int .i64 a2) := by simp [World.cell?, hh]
  have hS := H.out.kept0 kW
  have HS := Lib.hid hS
  have KW := Lib.hid kW
  rw [← hW]
  clear hW hh kW hS
  refine (mayQ a1 a2 false hm _).mono ?_
  rintro e w2 ⟨rfl, rfl⟩
  obtain ⟨⟨o0, o1, o2, o3⟩, f0, f1, f2, f3⟩ := ho
  go_wp2_with fail
  refine bodyPost_ret (v := .tuple #[ptr s, zc.v, .int .i64 10]) (by simp [results, Tryz.results15, go_sem, o0, o1, o2, o3, zc]) rfl ?_
  exact ⟨rfl, KW.out.later (keptZ w2 (w.heap.size + 1) zc) (fun i hi e => by omega)⟩

set_option maxRecDepth 100000 in
set_option maxHeartbeats 4000000 in
theorem rasked_c12y {s g t cap tb m R C : Nat} {F : Nat → Cel} {S : Nat → Bool} {r c : Int} {b : Bool} (R' C' : Nat) (b1 b2 n wr : Int) (x : Cel) (gd : Bool) (w : World) (h : RIn w s g t cap tb m R C F S r c b) (hm : 1 ≤ R' ∧ R' ≤ 255 ∧ 1 ≤ C' ∧ C' ≤ 255) :
    Calls Tryz.prog 15 #[ptr s, opV 12 R' C' b1 b2 n x wr gd] w fun e w' => ∃ s' g' t' cap' tb' m', e = .returned (.tuple #[ptr s', zc.v, .int .i64 0]) ∧ (∀ i, Own s' g' t' tb' m' i → w.heap.size ≤ i) ∧ RIn w' s' g' t' cap' tb' m' R' C' (resF F R C C' blk (R * C)) (Tb.resF C S) (nr r R') (nr c C') false ∧ Kept0 w w' := by
  have hmB : mayB (R' : Int) (C' : Int) = true := decide_eq_true (by omega)
  have hl := h.lt
  have H := Lib.hid h
  clear h
  go_enter Tryz.func15, Tryz.ntmps15
  go_wp2_with fail
  obtain ⟨W, hW⟩ : ∃ W, W = (w.alloc (.cells #[.int .i64 12, .int .i64 (R' : Int), .int .i64 (C' : Int), .int .i64 b1, .int .i64 b2, .int .i64 n, .int .i32 x.g, .int .i64 x.a, .bool x.b, .int .i64 x.m, .int .i64 wr, .bool gd] 42)).alloc (.cells #[.int .i32 0, .int .i64 0, .bool false, .int .i64 0] 36) := ⟨_, rfl⟩
  have hh : W.heap[w.heap.size]? = some (.cells #[.int .i64 12, .int .i64 (R' : Int), .int .i64 (C' : Int), .int .i64 b1, .int .i64 b2, .int .i64 n, .int .i32 x.g, .int .i64 x.a, .bool x.b, .int .i64 x.m, .int .i64 wr, .bool gd] 42 (0, 0)) := by rw [hW]; exact (Below.heap_alloc _ _ _ (by simp)).trans (heap_new w _)
  have kW : Kept0 w W := by rw [hW]; exact ((Kept.refl _ w).alloc _).alloc _
  have ho : CelW W (w.heap.size + 1) zc := by rw [hW]; have := CelW.new (w.alloc (.cells #[.int .i64 12, .int .i64 (R' : Int), .int .i64 (C' : Int), .int .i64 b1, .int .i64 b2, .int .i64 n, .int .i32 x.g, .int .i64 x.a, .bool x.b, .int .i64 x.m, .int .i64 wr, .bool gd] 42)) zc 36; rwa [World.size_alloc] at this
  have lo := ho.lt
  have q0 : W.cell? ⟨w.heap.size, 0, none⟩ = some (.int .i64 12) := by simp [World.cell?, hh]
  have q1 : W.cell? ⟨w.heap.size, 1, none⟩ = some (.int .i64 (R' : Int)) := by simp [World.cell?, hh]
  have q2 : W.cell? ⟨w.heap.size, 2, none⟩ = some (.int .i64 (C' : Int)) := by simp [World.cell?, hh]
  have hS := H.out.kept0 kW
  have HS := Lib.hid hS
  have KW := Lib.hid kW
  have HC := Lib.hid (fun w' (k : Kept0 W w') => rresize_any R' C' w' (hS.kept0 k) hm)
  rw [← hW]
  clear hW hh kW hS
  refine (mayQ (R' : Int) (C' : Int) true hmB _).mono ?_
  rintro e w2 ⟨rfl, rfl⟩
  go_wp2_with fail
  refine (HC.out _ (Kept.refl _ _)).mono ?_
  rintro e w3 ⟨s', g', t', cap', tb', m', rfl, hnew, hr, k3⟩
  have ho2 := ho.kept k3 (fun e => e)
  obtain ⟨⟨o0, o1, o2, o3⟩, f0, f1, f2, f3⟩ := ho2
  have HR := Lib.hid hr
  have HK := Lib.hid k3
  have HN := Lib.hid hnew
  clear hr k3 hnew HC
  go_wp2_with fail
  refine bodyPost_ret (v := .tuple #[ptr s', zc.v, .int .i64 0]) (by simp [results, Tryz.results15, go_sem, o0, o1, o2, o3, zc]) rfl ?_
  have kS := keptZ w3 (w.heap.size + 1) zc
  have hkw := KW.out.size
  refine ⟨s', g', t', cap', tb', m', rfl, fun i hi => by have := HN.out i hi; omega, HR.out.kept kS (fun i hi e => by have := HN.out i hi; omega), (KW.out.trans HK.out).later kS (fun i hi e => by omega)⟩

set_option maxRecDepth 100000 in
set_option maxHeartbeats 4000000 in
theorem rasked_c13n {s g t cap tb m R C : Nat} {F : Nat → Cel} {S : Nat → Bool} {r c : Int} {b : Bool} (a1 a2 b1 b2 n wr : Int) (x : Cel) (gd : Bool) (w : World) (h : RIn w s g t cap tb m R C F S r c b)  (hth : ¬ There R C a1 a2) :
    Calls Tryz.prog 15 #[ptr s, opV 13 a1 a2 b1 b2 n x wr gd] w fun e w' => e = .returned (.tuple #[ptr s, zc.v, .int .i64 11]) ∧ Kept0 w w' := by
  have hl := h.lt
  have H := Lib.hid h
  clear h
  go_enter Tryz.func15, Tryz.ntmps15
  go_wp2_with fail
  obtain ⟨W, hW⟩ : ∃ W, W = (w.alloc (.cells #[.int .i64 13, .int .i64 a1, .int .i64 a2, .int .i64 b1, .int .i64 b2, .int .i64 n, .int .i32 x.g, .int .i64 x.a, .bool x.b, .int .i64 x.m, .int .i64 wr, .bool gd] 42)).alloc (.cells #[.int .i32 0, .int .i64 0, .bool false, .int .i64 0] 36) := ⟨_, rfl⟩
  have hh : W.heap[w.heap.size]? = some (.cells #[.int .i64 13, .int .i64 a1, .int .i64 a2, .int .i64 b1, .int .i64 b2, .int .i64 n, .int .i32 x.g, .int .i64 x.a, .bool x.b, .int .i64 x.m, .int .i64 wr, .bool gd] 42 (0, 0)) := by rw [hW]; exact (Below.heap_alloc _ _ _ (by simp)).trans (heap_new w _)
  have kW : Kept0 w W := by rw [hW]; exact ((Kept.refl _ w).alloc _).alloc _
  have ho : CelW W (w.heap.size + 1) zc := by rw [hW]; have := CelW.new (w.alloc (.cells #[.int .i64 13, .int .i64 a1, .int .i64 a2, .int .i64 b1, .int .i64 b2, .int .i64 n, .int .i32 x.g, .int .i64 x.a, .bool x.b, .int .i64 x.m, .int .i64 wr, .bool gd] 42)) zc 36; rwa [World.size_alloc] at this
  have lo := ho.lt
  have q0 : W.cell? ⟨w.heap.size, 0, none⟩ = some (.int .i64 13) := by simp [World.cell?, hh]
  have q1 : W.cell? ⟨w.heap.size, 1, none⟩ = some (.int .i64 a1) := by simp [World.cell?, hh]
  have q2 : W.cell? ⟨w.heap.size, 2, none⟩ = some (.int .i64 a2) := by simp [World.cell?, hh]
  have hS := H.out.kept0 kW
  have HS := Lib.hid hS
  have KW := Lib.hid kW
  have c0 := hS.c0
  have g0 := hS.grid.c0
  have g1 := hS.grid.c1
  have HT := Lib.hid (fun w' (k : Kept0 W w') => Sh.thereR g R C a1 a2 w' ((hS.kept0 k).grid.c0) ((hS.kept0 k).grid.c1))
  rw [← hW]
  clear hW hh kW hS
  go_still_tail 6, (by kernel_rfl)
  repeat still_step
  change wpList _ _ _ _ _ W.drew
  go_wp2_with fail
  refine (HT.out _ (Kept.refl _ W).drew).mono ?_
  rw [Sh.thereB_no hth]
  rintro e w2 ⟨rfl, k2⟩
  have kk : Kept0 W w2 := (Kept.refl _ W).drew.trans k2
  have ho2 := ho.kept kk (fun e => e)
  obtain ⟨⟨o0, o1, o2, o3⟩, f0, f1, f2, f3⟩ := ho2
  have HK := Lib.hid kk
  clear kk k2 HT q0 q1 q2 c0 g0 g1
  go_wp2_with fail
  refine bodyPost_ret (v := .tuple #[ptr s, zc.v, .int .i64 11]) (by simp [results, Tryz.results15, go_sem, o0, o1, o2, o3, zc]) rfl ?_
  exact ⟨rfl, (KW.out.trans HK.out).later (keptZ w2 (w.heap.size + 1) zc) (fun i hi e => by omega)⟩

set_option maxRecDepth 100000 in
set_option maxHeartbeats 4000000 in
theorem rasked_atn {s g t cap tb m R C : Nat} {F : Nat → Cel} {S : Nat → Bool} {r c : Int} {b : Bool} (ask a1 a2 b1 b2 n wr : Int) (x : Cel) (gd : Bool) (w : World) (h : RIn w s g t cap tb m R C F S r c b) (n0 : ¬ ask = 0) (n7 : ¬ ask = 7) (n8 : ¬ ask = 8) (n9 : ¬ ask = 9) (n10 : ¬ ask = 10) (n1 : ¬ ask = 1) (n2 : ¬ ask = 2) (n3 : ¬ ask = 3) (n4 : ¬ ask = 4) (n5 : ¬ ask = 5) (n6 : ¬ ask = 6) (n11 : ¬ ask = 11) (n12 : ¬ ask = 12) (hth : ¬ There R C a1 a2) :
    Calls Tryz.prog 15 #[ptr s, opV ask a1 a2 b1 b2 n x wr gd] w fun e w' => e = .returned (.tuple #[ptr s, zc.v, .int .i64 11]) ∧ Kept0 w w' := by
  have hl := h.lt
  have H := Lib.hid h
  clear h
  go_enter Tryz.func15, Tryz.ntmps15
  go_wp2_with fail
  obtain ⟨W, hW⟩ : ∃ W, W = (w.alloc (.cells #[.int .i64 ask, .int .i64 a1, .int .i64 a2, .int .i64 b1, .int .i64 b2, .int .i64 n, .int .i32 x.g, .int .i64 x.a, .bool x.b, .int .i64 x.m, .int .i64 wr, .bool gd] 42)).alloc (.cells #[.int .i32 0, .int .i64 0, .bool false, .int .i64 0] 36) := ⟨_, rfl⟩
  have hh : W.heap[w.heap.size]? = some (.cells #[.int .i64 ask, .int .i64 a1, .int .i64 a2, .int .i64 b1, .int .i64 b2, .int .i64 n, .int .i32 x.g, .int .i64 x.a, .bool x.b, .int .i64 x.m, .int .i64 wr, .bool gd] 42 (0, 0)) := by rw [hW]; exact (Below.heap_alloc _ _ _ (by simp)).trans (heap_new w _)
  have kW : Kept0 w W := by rw [hW]; exact ((Kept.refl _ w).alloc _).alloc _
  have ho : CelW W (w.heap.size + 1) zc := by rw [hW]; have := CelW.new (w.alloc (.cells #[.int .i64 ask, .int .i64 a1, .int .i64 a2, .int .i64 b1, .int .i64 b2, .int .i64 n, .int .i32 x.g, .int .i64 x.a, .bool x.b, .int .i64 x.m, .int .i64 wr, .bool gd] 42)) zc 36; rwa [World.size_alloc] at this
  have lo := ho.lt
  have q0 : W.cell? ⟨w.heap.size, 0, none⟩ = some (.int .i64 ask) := by simp [World.cell?, hh]
  have q1 : W.cell? ⟨w.heap.size, 1, none⟩ = some (.int .i64 a1) := by simp [World.cell?, hh]
  have q2 : W.cell? ⟨w.heap.size, 2, none⟩ = some (.int .i64 a2) := by simp [World.cell?, hh]
  have hS := H.out.kept0 kW
  have HS := Lib.hid hS
  have KW := Lib.hid kW
  have c0 := hS.c0
  have g0 := hS.grid.c0
  have g1 := hS.grid.c1
  have HT := Lib.hid (fun w' (k : Kept0 W w') => Sh.thereR g R C a1 a2 w' ((hS.kept0 k).grid.c0) ((hS.kept0 k).grid.c1))
  rw [← hW]
  clear hW hh kW hS
  go_still_tail 6, (by kernel_rfl)
  repeat still_step
  change wpList _ _ _ _ _ W.drew
  go_wp2_with fail
  refine (HT.out _ (Kept.refl _ W).drew).mono ?_
  rw [Sh.thereB_no hth]
  rintro e w2 ⟨rfl, k2⟩
  have kk : Kept0 W w2 := (Kept.refl _ W).drew.trans k2
  have ho2 := ho.kept kk (fun e => e)
  obtain ⟨⟨o0, o1, o2, o3⟩, f0, f1, f2, f3⟩ := ho2
  have HK := Lib.hid kk
  clear kk k2 HT q0 q1 q2 c0 g0 g1
  go_wp2_with fail
  refine bodyPost_ret (v := .tuple #[ptr s, zc.v, .int .i64 11]) (by simp [results, Tryz.results15, go_sem, o0, o1, o2, o3, zc]) rfl ?_
  exact ⟨rfl, (KW.out.trans HK.out).later (keptZ w2 (w.heap.size + 1) zc) (fun i hi e => by omega)⟩

set_option maxRecDepth 100000 in
set_option maxHeartbeats 4000000 in
theorem rasked_c13y {s g t cap tb m R C : Nat} {F : Nat → Cel} {S : Nat → Bool} {r c : Int} {b : Bool} (a1 a2 b1 b2 n wr : Int) (x : Cel) (gd : Bool) (w : World) (h : RIn w s g t cap tb m R C F S r c b) (hth : There R C a1 a2) :
    Calls Tryz.prog 15 #[ptr s, opV 13 a1 a2 b1 b2 n x wr gd] w fun e w' => e = .returned (.tuple #[ptr s, zc.v, .int .i64 0]) ∧ RIn w' s g t cap tb m R C (upd F (idx C a1 a2) x) S r c b ∧ Kept (· = t) w w' := by
  obtain ⟨ix, hixd⟩ : ∃ ix, ix = idx C a1 a2 := ⟨_, rfl⟩
  rw [← hixd]
  have HIX := Lib.hid hixd
  clear hixd
  have hl := h.lt
  have H := Lib.hid h
  clear h
  go_enter Tryz.func15, Tryz.ntmps15
  go_wp2_with fail
  obtain ⟨W, hW⟩ : ∃ W, W = (w.alloc (.cells #[.int .i64 13, .int .i64 a1, .int .i64 a2, .int .i64 b1, .int .i64 b2, .int .i64 n, .int .i32 x.g, .int .i64 x.a, .bool x.b, .int .i64 x.m, .int .i64 wr, .bool gd] 42)).alloc (.cells #[.int .i32 0, .int .i64 0, .bool false, .int .i64 0] 36) := ⟨_, rfl⟩
  have hh : W.heap[w.heap.size]? = some (.cells #[.int .i64 13, .int .i64 a1, .int .i64 a2, .int .i64 b1, .int .i64 b2, .int .i64 n, .int .i32 x.g, .int .i64 x.a, .bool x.b, .int .i64 x.m, .int .i64 wr, .bool gd] 42 (0, 0)) := by rw [hW]; exact (Below.heap_alloc _ _ _ (by simp)).trans (heap_new w _)
  have kW : Kept0 w W := by rw [hW]; exact ((Kept.refl _ w).alloc _).alloc _
  have ho : CelW W (w.heap.size + 1) zc := by rw [hW]; have := CelW.new (w.alloc (.cells #[.int .i64 13, .int .i64 a1, .int .i64 a2, .int .i64 b1, .int .i64 b2, .int .i64 n, .int .i32 x.g, .int .i64 x.a, .bool x.b, .int .i64 x.m, .int .i64 wr, .bool gd] 42)) zc 36; rwa [World.size_alloc] at this
  have lo := ho.lt
  have q0 : W.cell? ⟨w.heap.size, 0, none⟩ = some (.int .i64 13) := by simp [World.cell?, hh]
  have q1 : W.cell? ⟨w.heap.size, 1, none⟩ = some (.int .i64 a1) := by simp [World.cell?, hh]
  have q2 : W.cell? ⟨w.heap.size, 2, none⟩ = some (.int .i64 a2) := by simp [World.cell?, hh]
  have q6 : W.cell? ⟨w.heap.size, 6, none⟩ = some (.int .i32 x.g) := by simp [World.cell?, hh]
  have q7 : W.cell? ⟨w.heap.size, 7, none⟩ = some (.int .i64 x.a) := by simp [World.cell?, hh]
  have q8 : W.cell? ⟨w.heap.size, 8, none⟩ = some (.bool x.b) := by simp [World.cell?, hh]
  have q9 : W.cell? ⟨w.heap.size, 9, none⟩ = some (.int .i64 x.m) := by simp [World.cell?, hh]
  have hS := H.out.kept0 kW
  have HS := Lib.hid hS
  have KW := Lib.hid kW
  have c0 := hS.c0
  have g0 := hS.grid.c0
  have g1 := hS.grid.c1
  have HT := Lib.hid (fun w' (k : Kept0 W w') => Sh.thereR g R C a1 a2 w' ((hS.kept0 k).grid.c0) ((hS.kept0 k).grid.c1))
  rw [← hW]
  clear hW hh kW hS
  go_still_tail 6, (by kernel_rfl)
  repeat still_step
  change wpList _ _ _ _ _ W.drew
  go_wp2_with fail
  refine (HT.out _ (Kept.refl _ W).drew).mono ?_
  rw [Sh.thereB_yes hth]
  rintro e w2 ⟨rfl, k2⟩
  have kk : Kept0 W w2 := (Kept.refl _ W).drew.trans k2
  have HK := Lib.hid kk
  have hS2 := HS.out.kept0 kk
  replace q0 := kcell kk q0
  replace q1 := kcell kk q1
  replace q2 := kcell kk q2
  replace q6 := kcell kk q6
  replace q7 := kcell kk q7
  replace q8 := kcell kk q8
  replace q9 := kcell kk q9
  replace c0 := hS2.c0
  replace g1 := hS2.grid.c1
  have g2 := hS2.grid.c2
  have hix := wrap_idx hth hS2.grid.R2 hS2.grid.C2
  have hli := idx_lt hth
  have hRC : R * C ≤ 65025 := Nat.mul_le_mul hS2.grid.R2 hS2.grid.C2
  obtain ⟨u0, u1, u2, u3⟩ := hS2.grid.row.cell hli
  have f0 := hS2.grid.row.frozen (idx C a1 a2 * 4)
  have f1 := hS2.grid.row.frozen (idx C a1 a2 * 4 + 1)
  have f2 := hS2.grid.row.frozen (idx C a1 a2 * 4 + 2)
  have f3 := hS2.grid.row.frozen (idx C a1 a2 * 4 + 3)
  have HS2 := Lib.hid hS2
  rw [← HIX.out] at hix hli u0 u1 u2 u3 f0 f1 f2 f3
  obtain ⟨N, hN⟩ : ∃ N, N = R * C := ⟨_, rfl⟩
  rw [← hN] at g2 hli hRC
  clear hN k2 kk hS2 HT g0
  go_wp2_with fail
  go_still_tail 25, (by kernel_rfl)
  repeat still_step
  change wpList _ _ _ _ _ w2.drew
  obtain ⟨V, hV⟩ : ∃ V, V = ((((w2.setCell ⟨t, ix * 4, none⟩ (.int .i32 x.g)).setCell ⟨t, ix * 4 + 1, none⟩ (.int .i64 x.a)).setCell ⟨t, ix * 4 + 2, none⟩ (.bool x.b)).setCell ⟨t, ix * 4 + 3, none⟩ (.int .i64 x.m)).drew := ⟨_, rfl⟩
  have kV : Kept (· = t) w2 V := by rw [hV]; exact ((Kept.refl (· = t) w2).setCel t (ix * 4) (Or.inr rfl) x).drew
  have hgV : RefAt V g t cap R C (upd F ix x) := HS2.out.grid.withRow kV (by rw [hV]; exact CellsAt.drewN (HS2.out.grid.row.set ix x) 1)
  have HRV : Hid (RIn V s g t cap tb m R C (upd F ix x) S r c b) := HS2.out.onGrid kV hgV
  have htl := H.out.grid.row.lt
  have ho3 := (ho.kept HK.out (fun e => e)).kept kV (by omega)
  obtain ⟨⟨o0, o1, o2, o3⟩, k0, k1, k2, k3⟩ := ho3
  have HKV := Lib.hid kV
  go_upto_region 6 with fail
  rw [← hV]
  clear hV kV hgV u0 u1 u2 u3 f0 f1 f2 f3 q0 q1 q2 q6 q7 q8 q9 c0 g1 g2 ho
  go_wp2_with fail
  refine bodyPost_ret (v := .tuple #[ptr s, zc.v, .int .i64 0]) (by simp [results, Tryz.results15, go_sem, o0, o1, o2, o3, zc]) rfl ?_
  have kS := keptZ V (w.heap.size + 1) zc
  have hsl := H.out.all_lt
  exact ⟨rfl, HRV.out.kept kS (fun i hi e => by have := hsl i hi; omega), ((Kept0.to (KW.out.trans HK.out)).trans HKV.out).later kS (fun i hi e => by omega)⟩

set_option maxRecDepth 100000 in
set_option maxHeartbeats 4000000 in
theorem rasked_aty {s g t cap tb m R C : Nat} {F : Nat → Cel} {S : Nat → Bool} {r c : Int} {b : Bool} (ask a1 a2 b1 b2 n wr : Int) (x : Cel) (gd : Bool) (w : World) (h : RIn w s g t cap tb m R C F S r c b) (n0 : ¬ ask = 0) (n7 : ¬ ask = 7) (n8 : ¬ ask = 8) (n9 : ¬ ask = 9) (n10 : ¬ ask = 10) (n1 : ¬ ask = 1) (n2 : ¬ ask = 2) (n3 : ¬ ask = 3) (n4 : ¬ ask = 4) (n5 : ¬ ask = 5) (n6 : ¬ ask = 6) (n11 : ¬ ask = 11) (n12 : ¬ ask = 12) (n13 : ¬ ask = 13) (hth : There R C a1 a2) :
    Calls Tryz.prog 15 #[ptr s, opV ask a1 a2 b1 b2 n x wr gd] w fun e w' => e = .returned (.tuple #[ptr s, (F (idx C a1 a2)).v, .int .i64 0]) ∧ Kept0 w w' := by
  obtain ⟨y, hy⟩ : ∃ y, y = F (idx C a1 a2) := ⟨_, rfl⟩
  rw [← hy]
  have HY := Lib.hid hy
  clear hy
  have hl := h.lt
  have H := Lib.hid h
  clear h
  go_enter Tryz.func15, Tryz.ntmps15
  go_wp2_with fail
  obtain ⟨W, hW⟩ : ∃ W, W = (w.alloc (.cells #[.int .i64 ask, .int .i64 a1, .int .i64 a2, .int .i64 b1, .int .i64 b2, .int .i64 n, .int .i32 x.g, .int .i64 x.a, .bool x.b, .int .i64 x.m, .int .i64 wr, .bool gd] 42)).alloc (.cells #[.int .i32 0, .int .i64 0, .bool false, .int .i64 0] 36) := ⟨_, rfl⟩
  have hh : W.heap[w.heap.size]? = some (.cells #[.int .i64 ask, .int .i64 a1, .int .i64 a2, .int .i64 b1, .int .i64 b2, .int .i64 n, .int .i32 x.g, .int .i64 x.a, .bool x.b, .int .i64 x.m, .int .i64 wr, .bool gd] 42 (0, 0)) := by rw [hW]; exact (Below.heap_alloc _ _ _ (by simp)).trans (heap_new w _)
  have kW : Kept0 w W := by rw [hW]; exact ((Kept.refl _ w).alloc _).alloc _
  have ho : CelW W (w.heap.size + 1) zc := by rw [hW]; have := CelW.new (w.alloc (.cells #[.int .i64 ask, .int .i64 a1, .int .i64 a2, .int .i64 b1, .int .i64 b2, .int .i64 n, .int .i32 x.g, .int .i64 x.a, .bool x.b, .int .i64 x.m, .int .i64 wr, .bool gd] 42)) zc 36; rwa [World.size_alloc] at this
  have lo := ho.lt
  have q0 : W.cell? ⟨w.heap.size, 0, none⟩ = some (.int .i64 ask) := by simp [World.cell?, hh]
  have q1 : W.cell? ⟨w.heap.size, 1, none⟩ = some (.int .i64 a1) := by simp [World.cell?, hh]
  have q2 : W.cell? ⟨w.heap.size, 2, none⟩ = some (.int .i64 a2) := by simp [World.cell?, hh]
  have hS := H.out.kept0 kW
  have HS := Lib.hid hS
  have KW := Lib.hid kW
  have c0 := hS.c0
  have g0 := hS.grid.c0
  have g1 := hS.grid.c1
  have HT := Lib.hid (fun w' (k : Kept0 W w') => Sh.thereR g R C a1 a2 w' ((hS.kept0 k).grid.c0) ((hS.kept0 k).grid.c1))
  rw [← hW]
  clear hW hh kW hS
  go_still_tail 6, (by kernel_rfl)
  repeat still_step
  change wpList _ _ _ _ _ W.drew
  go_wp2_with fail
  refine (HT.out _ (Kept.refl _ W).drew).mono ?_
  rw [Sh.thereB_yes hth]
  rintro e w2 ⟨rfl, k2⟩
  have kk : Kept0 W w2 := (Kept.refl _ W).drew.trans k2
  have HK := Lib.hid kk
  have hS2 := HS.out.kept0 kk
  replace q0 := kcell kk q0
  replace q1 := kcell kk q1
  replace q2 := kcell kk q2
  replace c0 := hS2.c0
  have ho2 := ho.kept kk (fun e => e)
  have HO2 := Lib.hid ho2
  have HG := Lib.hid (fun w' (k : Kept0 w2 w') => getR g t cap R C F a1 a2 w' ((hS2.kept0 k).grid) hth)
  rw [← HY.out] at HG
  clear k2 kk hS2 HT g0 g1 ho2
  go_wp2_with fail
  have c0 := fun w' (k : Kept (· = w.heap.size + 1) w2 w') => kcellS k c0 (by omega)
  have q1 := fun w' (k : Kept (· = w.heap.size + 1) w2 w') => kcellS k q1 (by omega)
  have q2 := fun w' (k : Kept (· = w.heap.size + 1) w2 w') => kcellS k q2 (by omega)
  go_region_held3 (fun w' => Kept (· = w.heap.size + 1) w2 w') (repeat (first | assumption | exact Kept.refl _ _ | refine Kept.drew ?_ | exact ka.setCel (w.heap.size + 1) 0 (Or.inr rfl) y))
    (first
      | (go_at_call 53; refine (HG.out _ (Kept.refl _ w2).drew).mono ?_; rintro e w5 ⟨rfl, hk5⟩; have kn : Kept0 w2 w5 := (Kept.refl _ w2).drew.trans hk5; have ka : Kept (· = w.heap.size + 1) w2 w5 := Kept0.to kn; obtain ⟨⟨o0, o1, o2, o3⟩, f0, f1, f2, f3⟩ := HO2.out.kept kn (fun e => e)))
  all_goals
    go_wp2_with fail
    refine bodyPost_ret (v := .tuple #[ptr s, y.v, .int .i64 0]) (by simp [results, Tryz.results15, go_sem, o0, o1, o2, o3]) rfl ?_
    exact ⟨rfl, ((KW.out.trans HK.out).trans kn).later (keptZ w5 (w.heap.size + 1) y) (fun i hi e => by omega)⟩

end Go.Proofs.YtkpfhgfdfndliaaGreatDoor
