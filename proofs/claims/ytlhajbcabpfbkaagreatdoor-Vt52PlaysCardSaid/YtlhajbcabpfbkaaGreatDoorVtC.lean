/-
  What the tables of vt52 hold.
-/
import Derived.Test.YtlhajbcabpfbkaaGreatDoorVtB
import Derived.Test.YtlhajbcabpfbkaaGreatDoorVtM
namespace Go.Proofs.YtlhajbcabpfbkaaGreatDoor
open Go.RowKit

theorem wpList_build {P : Program} {ops : Array Oper} {Q : Exit → Act → World → Prop} {a : Act} {w : World} {rest : List Oper} {o : Oper} {v : Value} (t : TypeId) {parts : Array (Nat × Operand)} {vals : Array (Nat × Value)} (hr : (Instr.build t vals).run P w = .ok v w) (ho : o.op = .build t parts) (hg : o.guard = none)
    (hp : (parts.toList.map fun p => (p.1, a.eval p.2)) = vals.toList) (h : wpList P ops Q rest (a.put o.dst v) w) : wpList P ops Q (o :: rest) a w :=
  wpList_plain hg fun K hK => by
    have hp' : (parts.map fun p => (p.1, a.eval p.2)) = vals := Array.toList_inj.1 (by rw [Array.toList_map]; exact hp)
    subst hp'
    unfold Oper.wp execOp
    simp only [ho]
    simp only [Sem.run_bind, hr, Result.andThen_ok, Sem.run_pure]
    exact hK _ _ h
theorem ite_one {p : Prop} [Decidable p] {x y : Value} (hx : x.oneCell' = true) (hy : y.oneCell' = true) : (if p then x else y).oneCell' = true := by split <;> assumption
attribute [local go_sem] Oper.semAt_some

theorem begF_one (c1 c2 c3 c4 c5 c6 c7 c8 c9 c10 c11 : Array Value) (b : Nat) : (begF c1 c2 c3 c4 c5 c6 c7 c8 c9 c10 c11 b).oneCell' = true := by
  unfold begF
  repeat' (refine ite_one ?_ ?_)
  all_goals rfl
theorem outF0_one (c1 c2 : Array Value) (b : Nat) : (outF0 c1 c2 b).oneCell' = true := by
  unfold outF0
  repeat' (refine ite_one ?_ ?_)
  all_goals rfl
theorem act_ite {lo : Nat} {W : World} {p : Prop} [Decidable p] {d d' : Dw} {f f' : Value} (h : ActAt lo W d f) (h' : ActAt lo W d' f') : ActAt lo W (if p then d else d') (if p then f else f') := by split <;> assumption
theorem act_yes {lo : Nat} {W : World} {d : Dw} {f : Value} (hd : d ≠ .no) (h : ActF lo W d f) : ActAt lo W d f := .inr ⟨hd, h⟩
theorem begF_act {lo : Nat} {W : World} {c1 c2 c3 c4 c5 c6 c7 c8 c9 c10 c11 : Array Value} (A1 : ActF lo W (.step (-1) 0) (.func (.func 93) #[] c1)) (A2 : ActF lo W (.step 1 0) (.func (.func 93) #[] c2)) (A3 : ActF lo W (.step 0 1) (.func (.func 93) #[] c3)) (A4 : ActF lo W (.step 0 (-1)) (.func (.func 93) #[] c4)) (A5 : ActF lo W (.feed (-1)) (.func (.func 95) #[] c5)) (A6 : ActF lo W (.graph true) (.func (.func 102) #[] c6)) (A7 : ActF lo W (.graph false) (.func (.func 102) #[] c7)) (A8 : ActF lo W (.keypad true) (.func (.func 103) #[] c8)) (A9 : ActF lo W (.keypad false) (.func (.func 103) #[] c9)) (A10 : ActF lo W (.hold true) (.func (.func 104) #[] c10)) (A11 : ActF lo W (.hold false) (.func (.func 104) #[] c11)) (b : Nat) : ActAt lo W (begD b) (begF c1 c2 c3 c4 c5 c6 c7 c8 c9 c10 c11 b) := by
  unfold begD begF
  repeat' (refine act_ite ?_ ?_)
  all_goals first
    | exact Or.inl ⟨rfl, rfl⟩
    | exact act_yes (by nofun) (by assumption)
    | exact act_yes (by nofun) (actHome _ _)
    | exact act_yes (by nofun) (actWait _ _)
    | exact act_yes (by nofun) (actWipeS _ _)
    | exact act_yes (by nofun) (actWipeR _ _)
    | exact act_yes (by nofun) (actReply _ _)
set_option maxRecDepth 100000 in
set_option maxHeartbeats 4000000 in
theorem begun_any (w : World) : Calls Tryz.prog 59 #[] w fun e w' => ∃ f, e = .returned (.agg (rowA 256 f)) ∧ (∀ b, b < 256 → ActAt w.heap.size w' (begD b) (f b)) ∧ Kept0 w w' := by
  have hz := zero100
  go_enter Tryz.func59, Tryz.ntmps59
  go_upto_region 1 with fail
  obtain ⟨w0, hw0⟩ : ∃ w0, w0 = w.alloc (.cells (rowA 256 fun _ => .nilFunc) 100) := ⟨_, rfl⟩
  have k0 : Hid (Kept0 w w0) := by rw [hw0]; exact (Kept.refl _ w).alloc _
  have hR0 : Hid (TabG w0 w.heap.size 100 256 (fun _ => .nilFunc)) := by rw [hw0]; exact heap_new w _
  have hs0 : w.heap.size + 1 = w0.heap.size := by rw [hw0]; simp
  have j0 : Hid (Kept0 w0 w0) := Kept.refl _ w0
  rw [← hw0]
  clear hw0 hz
  go_wp2_with fail
  refine (step_mk _ (-1) 0).mono ?_
  rintro e w1 ⟨c1, rfl, A1, q1⟩
  have B1 := Lib.hid (ActF.lower A1 (lo' := w.heap.size + 1) (by have := j0.out.size; omega))
  have j1 : Hid (Kept0 w0 w1) := j0.out.trans q1
  have k1 : Hid (Kept0 w w1) := k0.out.trans q1
  clear A1 q1
  go_wp2_with fail
  refine (step_mk _ 1 0).mono ?_
  rintro e w2 ⟨c2, rfl, A2, q2⟩
  have B2 := Lib.hid (ActF.lower A2 (lo' := w.heap.size + 1) (by have := j1.out.size; omega))
  have j2 : Hid (Kept0 w0 w2) := j1.out.trans q2
  have k2 : Hid (Kept0 w w2) := k1.out.trans q2
  replace B1 := Lib.hid (B1.out.kept (q2.mono (fun _ _ e => e.elim)))
  clear A2 q2
  go_wp2_with fail
  refine (step_mk _ 0 1).mono ?_
  rintro e w3 ⟨c3, rfl, A3, q3⟩
  have B3 := Lib.hid (ActF.lower A3 (lo' := w.heap.size + 1) (by have := j2.out.size; omega))
  have j3 : Hid (Kept0 w0 w3) := j2.out.trans q3
  have k3 : Hid (Kept0 w w3) := k2.out.trans q3
  replace B1 := Lib.hid (B1.out.kept (q3.mono (fun _ _ e => e.elim)))
  replace B2 := Lib.hid (B2.out.kept (q3.mono (fun _ _ e => e.elim)))
  clear A3 q3
  go_wp2_with fail
  refine (step_mk _ 0 (-1)).mono ?_
  rintro e w4 ⟨c4, rfl, A4, q4⟩
  have B4 := Lib.hid (ActF.lower A4 (lo' := w.heap.size + 1) (by have := j3.out.size; omega))
  have j4 : Hid (Kept0 w0 w4) := j3.out.trans q4
  have k4 : Hid (Kept0 w w4) := k3.out.trans q4
  replace B1 := Lib.hid (B1.out.kept (q4.mono (fun _ _ e => e.elim)))
  replace B2 := Lib.hid (B2.out.kept (q4.mono (fun _ _ e => e.elim)))
  replace B3 := Lib.hid (B3.out.kept (q4.mono (fun _ _ e => e.elim)))
  clear A4 q4
  go_wp2_with fail
  refine (feed_mk _ (-1) (by omega)).mono ?_
  rintro e w5 ⟨c5, rfl, A5, q5⟩
  have B5 := Lib.hid (ActF.lower A5 (lo' := w.heap.size + 1) (by have := j4.out.size; omega))
  have j5 : Hid (Kept0 w0 w5) := j4.out.trans q5
  have k5 : Hid (Kept0 w w5) := k4.out.trans q5
  replace B1 := Lib.hid (B1.out.kept (q5.mono (fun _ _ e => e.elim)))
  replace B2 := Lib.hid (B2.out.kept (q5.mono (fun _ _ e => e.elim)))
  replace B3 := Lib.hid (B3.out.kept (q5.mono (fun _ _ e => e.elim)))
  replace B4 := Lib.hid (B4.out.kept (q5.mono (fun _ _ e => e.elim)))
  clear A5 q5
  go_wp2_with fail
  refine (graph_mk _ true).mono ?_
  rintro e w6 ⟨c6, rfl, A6, q6⟩
  have B6 := Lib.hid (ActF.lower A6 (lo' := w.heap.size + 1) (by have := j5.out.size; omega))
  have j6 : Hid (Kept0 w0 w6) := j5.out.trans q6
  have k6 : Hid (Kept0 w w6) := k5.out.trans q6
  replace B1 := Lib.hid (B1.out.kept (q6.mono (fun _ _ e => e.elim)))
  replace B2 := Lib.hid (B2.out.kept (q6.mono (fun _ _ e => e.elim)))
  replace B3 := Lib.hid (B3.out.kept (q6.mono (fun _ _ e => e.elim)))
  replace B4 := Lib.hid (B4.out.kept (q6.mono (fun _ _ e => e.elim)))
  replace B5 := Lib.hid (B5.out.kept (q6.mono (fun _ _ e => e.elim)))
  clear A6 q6
  go_wp2_with fail
  refine (graph_mk _ false).mono ?_
  rintro e w7 ⟨c7, rfl, A7, q7⟩
  have B7 := Lib.hid (ActF.lower A7 (lo' := w.heap.size + 1) (by have := j6.out.size; omega))
  have j7 : Hid (Kept0 w0 w7) := j6.out.trans q7
  have k7 : Hid (Kept0 w w7) := k6.out.trans q7
  replace B1 := Lib.hid (B1.out.kept (q7.mono (fun _ _ e => e.elim)))
  replace B2 := Lib.hid (B2.out.kept (q7.mono (fun _ _ e => e.elim)))
  replace B3 := Lib.hid (B3.out.kept (q7.mono (fun _ _ e => e.elim)))
  replace B4 := Lib.hid (B4.out.kept (q7.mono (fun _ _ e => e.elim)))
  replace B5 := Lib.hid (B5.out.kept (q7.mono (fun _ _ e => e.elim)))
  replace B6 := Lib.hid (B6.out.kept (q7.mono (fun _ _ e => e.elim)))
  clear A7 q7
  go_wp2_with fail
  refine (keypad_mk _ true).mono ?_
  rintro e w8 ⟨c8, rfl, A8, q8⟩
  have B8 := Lib.hid (ActF.lower A8 (lo' := w.heap.size + 1) (by have := j7.out.size; omega))
  have j8 : Hid (Kept0 w0 w8) := j7.out.trans q8
  have k8 : Hid (Kept0 w w8) := k7.out.trans q8
  replace B1 := Lib.hid (B1.out.kept (q8.mono (fun _ _ e => e.elim)))
  replace B2 := Lib.hid (B2.out.kept (q8.mono (fun _ _ e => e.elim)))
  replace B3 := Lib.hid (B3.out.kept (q8.mono (fun _ _ e => e.elim)))
  replace B4 := Lib.hid (B4.out.kept (q8.mono (fun _ _ e => e.elim)))
  replace B5 := Lib.hid (B5.out.kept (q8.mono (fun _ _ e => e.elim)))
  replace B6 := Lib.hid (B6.out.kept (q8.mono (fun _ _ e => e.elim)))
  replace B7 := Lib.hid (B7.out.kept (q8.mono (fun _ _ e => e.elim)))
  clear A8 q8
  go_wp2_with fail
  refine (keypad_mk _ false).mono ?_
  rintro e w9 ⟨c9, rfl, A9, q9⟩
  have B9 := Lib.hid (ActF.lower A9 (lo' := w.heap.size + 1) (by have := j8.out.size; omega))
  have j9 : Hid (Kept0 w0 w9) := j8.out.trans q9
  have k9 : Hid (Kept0 w w9) := k8.out.trans q9
  replace B1 := Lib.hid (B1.out.kept (q9.mono (fun _ _ e => e.elim)))
  replace B2 := Lib.hid (B2.out.kept (q9.mono (fun _ _ e => e.elim)))
  replace B3 := Lib.hid (B3.out.kept (q9.mono (fun _ _ e => e.elim)))
  replace B4 := Lib.hid (B4.out.kept (q9.mono (fun _ _ e => e.elim)))
  replace B5 := Lib.hid (B5.out.kept (q9.mono (fun _ _ e => e.elim)))
  replace B6 := Lib.hid (B6.out.kept (q9.mono (fun _ _ e => e.elim)))
  replace B7 := Lib.hid (B7.out.kept (q9.mono (fun _ _ e => e.elim)))
  replace B8 := Lib.hid (B8.out.kept (q9.mono (fun _ _ e => e.elim)))
  clear A9 q9
  go_wp2_with fail
  refine (hold_mk _ true).mono ?_
  rintro e w10 ⟨c10, rfl, A10, q10⟩
  have B10 := Lib.hid (ActF.lower A10 (lo' := w.heap.size + 1) (by have := j9.out.size; omega))
  have j10 : Hid (Kept0 w0 w10) := j9.out.trans q10
  have k10 : Hid (Kept0 w w10) := k9.out.trans q10
  replace B1 := Lib.hid (B1.out.kept (q10.mono (fun _ _ e => e.elim)))
  replace B2 := Lib.hid (B2.out.kept (q10.mono (fun _ _ e => e.elim)))
  replace B3 := Lib.hid (B3.out.kept (q10.mono (fun _ _ e => e.elim)))
  replace B4 := Lib.hid (B4.out.kept (q10.mono (fun _ _ e => e.elim)))
  replace B5 := Lib.hid (B5.out.kept (q10.mono (fun _ _ e => e.elim)))
  replace B6 := Lib.hid (B6.out.kept (q10.mono (fun _ _ e => e.elim)))
  replace B7 := Lib.hid (B7.out.kept (q10.mono (fun _ _ e => e.elim)))
  replace B8 := Lib.hid (B8.out.kept (q10.mono (fun _ _ e => e.elim)))
  replace B9 := Lib.hid (B9.out.kept (q10.mono (fun _ _ e => e.elim)))
  clear A10 q10
  go_wp2_with fail
  refine (hold_mk _ false).mono ?_
  rintro e w11 ⟨c11, rfl, A11, q11⟩
  have B11 := Lib.hid (ActF.lower A11 (lo' := w.heap.size + 1) (by have := j10.out.size; omega))
  have j11 : Hid (Kept0 w0 w11) := j10.out.trans q11
  have k11 : Hid (Kept0 w w11) := k10.out.trans q11
  replace B1 := Lib.hid (B1.out.kept (q11.mono (fun _ _ e => e.elim)))
  replace B2 := Lib.hid (B2.out.kept (q11.mono (fun _ _ e => e.elim)))
  replace B3 := Lib.hid (B3.out.kept (q11.mono (fun _ _ e => e.elim)))
  replace B4 := Lib.hid (B4.out.kept (q11.mono (fun _ _ e => e.elim)))
  replace B5 := Lib.hid (B5.out.kept (q11.mono (fun _ _ e => e.elim)))
  replace B6 := Lib.hid (B6.out.kept (q11.mono (fun _ _ e => e.elim)))
  replace B7 := Lib.hid (B7.out.kept (q11.mono (fun _ _ e => e.elim)))
  replace B8 := Lib.hid (B8.out.kept (q11.mono (fun _ _ e => e.elim)))
  replace B9 := Lib.hid (B9.out.kept (q11.mono (fun _ _ e => e.elim)))
  replace B10 := Lib.hid (B10.out.kept (q11.mono (fun _ _ e => e.elim)))
  clear A11 q11
  have hR := hR0.out.kept0 j11.out
  have hlt := hR.lt
  have hone : Hid ((rowA 256 (begF c1 c2 c3 c4 c5 c6 c7 c8 c9 c10 c11)).all (·.oneCell') = true) := rowA_one (fun b _ => begF_one _ _ _ _ _ _ _ _ _ _ _ b)
  rename_i hK11
  refine hK11 _ _ ?_
  refine wpList_build 98 (build_beg c1 c2 c3 c4 c5 c6 c7 c8 c9 c10 c11 w11) rfl rfl rfl ?_
  refine wpList_build 100 (build100 (begF c1 c2 c3 c4 c5 c6 c7 c8 c9 c10 c11) w11) rfl rfl rfl ?_
  refine wpList_store_row rfl 100 _ _ rfl w.heap.size (rowA 256 (begF c1 c2 c3 c4 c5 c6 c7 c8 c9 c10 c11)) rfl rfl 100 _ hR (info100 _) (by rw [rowA_size, rowA_size]) hone.out ?_
  refine wpList_nil ?_
  have hRow := hR.row (begF c1 c2 c3 c4 c5 c6 c7 c8 c9 c10 c11)
  have hW4 : Kept (· = w.heap.size) w11 (w11.setRow w.heap.size (rowA 256 (begF c1 c2 c3 c4 c5 c6 c7 c8 c9 c10 c11))) := keptRow _ _ _
  obtain ⟨W4, hE⟩ : ∃ W4, W4 = w11.setRow w.heap.size (rowA 256 (begF c1 c2 c3 c4 c5 c6 c7 c8 c9 c10 c11)) := ⟨_, rfl⟩
  rw [← hE] at hRow hW4 ⊢
  clear hE
  have k4 : Hid (Kept0 w W4) := k11.out.later hW4 (fun i hi e => by omega)
  have HR := Lib.hid hRow
  have H4 := Lib.hid hW4
  have HA : Hid (∀ b, b < 256 → ActAt w.heap.size W4 (begD b) (begF c1 c2 c3 c4 c5 c6 c7 c8 c9 c10 c11 b)) := fun b _ => by
    refine begF_act ((B1.out.kept (H4.out.mono (fun i hi e => by subst e; exact Nat.lt_succ_self _))).lower (Nat.le_succ _)) ((B2.out.kept (H4.out.mono (fun i hi e => by subst e; exact Nat.lt_succ_self _))).lower (Nat.le_succ _)) ((B3.out.kept (H4.out.mono (fun i hi e => by subst e; exact Nat.lt_succ_self _))).lower (Nat.le_succ _)) ((B4.out.kept (H4.out.mono (fun i hi e => by subst e; exact Nat.lt_succ_self _))).lower (Nat.le_succ _)) ((B5.out.kept (H4.out.mono (fun i hi e => by subst e; exact Nat.lt_succ_self _))).lower (Nat.le_succ _)) ((B6.out.kept (H4.out.mono (fun i hi e => by subst e; exact Nat.lt_succ_self _))).lower (Nat.le_succ _)) ((B7.out.kept (H4.out.mono (fun i hi e => by subst e; exact Nat.lt_succ_self _))).lower (Nat.le_succ _)) ((B8.out.kept (H4.out.mono (fun i hi e => by subst e; exact Nat.lt_succ_self _))).lower (Nat.le_succ _)) ((B9.out.kept (H4.out.mono (fun i hi e => by subst e; exact Nat.lt_succ_self _))).lower (Nat.le_succ _)) ((B10.out.kept (H4.out.mono (fun i hi e => by subst e; exact Nat.lt_succ_self _))).lower (Nat.le_succ _)) ((B11.out.kept (H4.out.mono (fun i hi e => by subst e; exact Nat.lt_succ_self _))).lower (Nat.le_succ _)) b
  clear hRow hW4
  go_wp2_with fail
  exact bodyPost_ret (results_cell_row Tryz.results59 _ _ w.heap.size 100 _ (0, 0) _ rfl HR.out Tryz.underlying100 rfl (info100 _)) rfl ⟨_, rfl, HA.out, k4.out⟩

end Go.Proofs.YtlhajbcabpfbkaaGreatDoor
