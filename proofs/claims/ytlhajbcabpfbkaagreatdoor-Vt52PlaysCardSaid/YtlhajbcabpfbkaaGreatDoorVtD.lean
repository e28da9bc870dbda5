/-
  What the tables of vt52 hold: outside of a sequence, and all of them.
-/
import Derived.Test.YtlhajbcabpfbkaaGreatDoorVtC
namespace Go.Proofs.YtlhajbcabpfbkaaGreatDoor
open Go.RowKit
attribute [local go_sem] Oper.semAt_some

theorem keptB {B : Nat} {w w' : World} (k : Below B w w') : Kept (fun i => ¬ i < B) w w' := ⟨k.os, k.tape, k.output, k.size, fun i _ hi => k.block i (Classical.not_not.1 hi)⟩
theorem wpList_alloc {P : Program} {ops : Array Oper} {Q : Exit → Act → World → Prop} {a : Act} {w w' : World} {rest : List Oper} {o : Oper} {v : Value} (t : TypeId) (hr : (Instr.alloc t true (.tuple #[])).run P w = .ok v w') (ho : o.op = .alloc t) (hg : o.guard = none)
    (h : wpList P ops Q rest (a.put o.dst v) w') : wpList P ops Q (o :: rest) a w :=
  wpList_plain hg fun K hK => by
    unfold Oper.wp execOp
    simp only [ho]
    simp only [Sem.run_bind, hr, Result.andThen_ok, Sem.run_pure]
    exact hK _ _ h
theorem alloc100 (W : World) : (Instr.alloc 100 true (.tuple #[])).run Tryz.prog W = .ok (.pointer (some ⟨W.heap.size, 0, none⟩)) (W.alloc (.cells (rowA 256 fun _ => .nilFunc) 100)) := by
  have h := zero100 W
  simp [Instr.alloc, go_sem, h]
theorem alloc101 (W : World) : (Instr.alloc 101 true (.tuple #[])).run Tryz.prog W = .ok (.pointer (some ⟨W.heap.size, 0, none⟩)) (W.alloc (.cells (rowA 1024 fun _ => .nilFunc) 101)) := by
  have h := zero101 W
  simp [Instr.alloc, go_sem, h]


abbrev putV : Value := .func (.func 76) #[] #[]
def putsF (f : Nat → Value) : Nat → Nat → Value
  | 0 => f
  | k + 1 => fun j => if j = ((Gl.allL 1).getD k (0, 0)).1 then putV else putsF f k j
theorem all1_len : (Gl.allL 1).length = 95 := by decide +kernel
theorem all1_at : ∀ k : Fin 95, ((Gl.allL 1).getD k.val (0, 0)).1 = 32 + k.val := by decide +kernel
theorem putsF_eq (f : Nat → Value) (j : Nat) : ∀ k, k ≤ 95 → putsF f k j = if 32 ≤ j ∧ j < 32 + k then putV else f j
  | 0, _ => by rw [if_neg (by omega)]; rfl
  | k + 1, h => by
    have e := all1_at ⟨k, by omega⟩
    simp only at e
    simp only [putsF, e, putsF_eq f j k (by omega)]
    by_cases h1 : j = 32 + k
    · rw [if_pos h1, if_pos (by omega)]
    · rw [if_neg h1]
      by_cases h2 : 32 ≤ j ∧ j < 32 + k
      · rw [if_pos h2, if_pos (by omega)]
      · rw [if_neg h2, if_neg (by omega)]
theorem out_act {lo : Nat} {W : World} {c1 c2 : Array Value} (A1 : ActF lo W (.step 0 (-1)) (.func (.func 93) #[] c1)) (A2 : ActF lo W (.feed 1) (.func (.func 95) #[] c2)) (b : Nat) : ActAt lo W (outD b) (putsF (outF0 c1 c2) 95 b) := by
  rw [putsF_eq _ _ _ (Nat.le_refl _)]
  unfold outD outF0
  by_cases h0 : b = 8
  · subst h0; exact act_yes (by nofun) A1
  by_cases h1 : b = 9
  · subst h1; exact act_yes (by nofun) (actTab _ _)
  by_cases h2 : b = 10
  · subst h2; exact act_yes (by nofun) A2
  by_cases h3 : b = 13
  · subst h3; exact act_yes (by nofun) (actFirst _ _)
  simp only [h0, h1, h2, h3, if_false]
  by_cases h4 : 32 ≤ b ∧ b ≤ 126
  · rw [if_pos h4, if_pos (by omega)]; exact act_yes (by nofun) (actPut _ _)
  · rw [if_neg h4, if_neg (by omega)]; exact Or.inl ⟨rfl, rfl⟩
theorem putsF_one (c1 c2 : Array Value) (b : Nat) : (putsF (outF0 c1 c2) 95 b).oneCell' = true := by
  rw [putsF_eq _ _ _ (Nat.le_refl _)]
  exact ite_one rfl (outF0_one c1 c2 b)

set_option maxRecDepth 100000 in
set_option maxHeartbeats 4000000 in
theorem outside_any (w : World) : Calls Tryz.prog 58 #[] w fun e w' => ∃ f, e = .returned (.agg (rowA 256 f)) ∧ (∀ b, b < 256 → ActAt w.heap.size w' (outD b) (f b)) ∧ Kept0 w w' := by
  have hz := zero100
  refine calls_marks Tryz.func58 rfl ?_
  simp only [Tryz.ntmps58, List.size_toArray, List.length_nil, Nat.reduceSub, Array.replicate_succ, Array.replicate_zero, List.push_toArray, List.append_toArray, List.nil_append, List.cons_append]
  go_upto_region 1 with fail
  obtain ⟨w0, hw0⟩ : ∃ w0, w0 = w.alloc (.cells (rowA 256 fun _ => .nilFunc) 100) := ⟨_, rfl⟩
  have k0 : Hid (Kept0 w w0) := by rw [hw0]; exact (Kept.refl _ w).alloc _
  have hR0 : Hid (TabG w0 w.heap.size 100 256 (fun _ => .nilFunc)) := by rw [hw0]; exact heap_new w _
  have hs0 : w.heap.size + 1 = w0.heap.size := by rw [hw0]; simp
  rw [← hw0]
  clear hw0
  go_wp2_with fail
  refine (step_mk _ 0 (-1)).mono ?_
  rintro e w1 ⟨c1, rfl, A1, q1⟩
  have B1 := Lib.hid A1
  have Q1 := Lib.hid q1
  clear A1 q1
  go_wp2_with fail
  refine (feed_mk _ 1 (by omega)).mono ?_
  rintro e w2 ⟨c2, rfl, A2, q2⟩
  have B2 := Lib.hid A2
  have Q2 := Lib.hid q2
  have hR2 := hR0.out.kept0 (Q1.out.trans q2)
  have hs2 : w0.heap.size ≤ w2.heap.size := (Q1.out.trans q2).size
  clear A2 q2
  rename_i hK
  refine hK _ _ ?_
  refine wpList_build 98 (build_out c1 c2 w2) rfl rfl rfl ?_
  refine wpList_build 100 (build100 (outF0 c1 c2) w2) rfl rfl rfl ?_
  refine wpList_alloc 100 (alloc100 w2) rfl rfl ?_
  have hN : TabG (w2.alloc (.cells (rowA 256 fun _ => .nilFunc) 100)) w2.heap.size 100 256 (fun _ => .nilFunc) := heap_new w2 _
  refine wpList_store_row rfl 100 _ _ rfl w2.heap.size (rowA 256 (outF0 c1 c2)) rfl rfl 100 _ hN (info100 _) (by rw [rowA_size, rowA_size]) (rowA_one (fun b _ => outF0_one c1 c2 b)) ?_
  refine wpList_nil ?_
  obtain ⟨w3, hw3⟩ : ∃ w3, w3 = (w2.alloc (.cells (rowA 256 fun _ => .nilFunc) 100)).setRow w2.heap.size (rowA 256 (outF0 c1 c2)) := ⟨_, rfl⟩
  have hT3 : TabG w3 w2.heap.size 100 256 (outF0 c1 c2) := by rw [hw3]; exact hN.row _
  have hs3 : w3.heap.size = w2.heap.size + 1 := by rw [hw3, setRow_size]; simp
  have k23 : Kept0 w2 w3 := by rw [hw3]; exact ((Kept.refl (fun _ => False) w2).alloc _).later (keptRow _ _ _) (fun i hi e => by omega)
  rw [← hw3]
  clear hw3 hN hz
  have hR3 := hR2.kept0 k23
  have C1 : Hid (ActF (w.heap.size + 1) w2 (.step 0 (-1)) (.func (.func 93) #[] c1)) := (B1.out.kept (Q2.out.mono (fun _ _ e => e.elim))).lower (by omega)
  have C2 : Hid (ActF (w.heap.size + 1) w2 (.feed 1) (.func (.func 95) #[] c2)) := B2.out.lower (by have := Q1.out.size; omega)
  have K23 := Lib.hid k23
  have k3 : Hid (Kept0 w w3) := ((k0.out.trans Q1.out).trans Q2.out).trans k23
  clear hR2 B1 B2 Q1 Q2 k23 hR0 k0
  obtain ⟨T, hT⟩ : ∃ T, T = w2.heap.size := ⟨_, rfl⟩
  have HT2 := Lib.hid hT
  rw [← hT] at hT3 hs3 ⊢
  have hwT : w.heap.size < T := by omega
  have HT3 := Lib.hid hT3
  have HR3 := Lib.hid hR3
  clear hT hs2 hs0 hT3 hR3
  go_wp2_with fail
  refine (Gl.all_any 1 _).mono ?_
  rintro e w4 ⟨rfl, rfl⟩
  go_wp2_with fail
  obtain ⟨w6, hw6⟩ : ∃ w6, w6 = w3.alloc (.cells #[.int .i64 1] 3) := ⟨_, rfl⟩
  have hbx : w6.cell? ⟨w3.heap.size, 0, none⟩ = some (.int .i64 1) := by rw [hw6]; simp [go_sem]
  rw [hs3] at hbx
  have k36 : Kept0 w3 w6 := by rw [hw6]; exact (Kept.refl _ w3).alloc _
  have hs6 : w3.heap.size + 1 = w6.heap.size := by rw [hw6]; simp
  rw [← hw6]
  clear hw6
  have hT6 := HT3.out.kept0 k36
  have hR6 := HR3.out.kept0 k36
  have K36 := Lib.hid k36
  clear HT3 HR3 k36
  refine wpIn_wide.1 (wp_range (n := 0) (gf := 97) (lb := #[.pointer (some ⟨T + 1, 0, none⟩)]) rfl (enters_of Tryz.func97 (by kernel_rfl) rfl) (Gl.all_iter (T + 1) 1) (fun _ => rfl)
    (fun k W => TabG W T 100 256 (putsF (outF0 c1 c2) k) ∧ Kept (fun b => b = T) w6 W)
    (fun _ _ _ => False)
    (fun _ _ _ h b => ⟨h.1.below b (by omega), h.2.later (keptB b) (fun i hi e => absurd hi e)⟩)
    (fun _ _ _ _ h _ => h)
    (fun _ W h => (h.2.cell (by omega) (by omega)).trans hbx)
    ⟨hT6, Kept.refl _ _⟩ ?_ ?_ ?_)
  · rintro l9 k W hl3 hl4 hk ⟨hI0, hI1⟩
    have hsW := hI1.size
    obtain ⟨p, hp⟩ : ∃ p, (Gl.allL 1)[k]? = some p := ⟨_, List.getElem?_eq_getElem hk⟩
    obtain ⟨hp1, hp2, hp3⟩ := Gl.allL_mem hp
    have HN : Hid (putsF (outF0 c1 c2) (k + 1) = fun j => if j = p.1 then putV else putsF (outF0 c1 c2) k j) := by
      have : (Gl.allL 1).getD k (0, 0) = p := by rw [List.getD, hp]; rfl
      unfold Hid
      simp only [putsF, this]
    rw [Gl.allArgs_of hp]
    obtain ⟨c, r⟩ := p
    simp only at hp1 hp2 hp3 HN
    unfold Gl.pairArgs
    clear hp hp2 hp3
    gi_wp2_with fail
    refine ⟨Kept.refl _ W, fun W2 hk2 hb2 => ?_⟩
    replace hI0 := hI0.below hb2 (by omega)
    replace hI1 := hI1.later (keptB hb2) (fun i hi e => absurd hi e)
    have c0 := hI0.cell hp1
    have c1' := hI0.frozen c
    have hsW2 := hI1.size
    have H0 := Lib.hid hI0
    have H1 := Lib.hid hI1
    clear hk2 hb2 hI0 hI1
    gi_wp2_with fail
    refine ⟨(Kept.set1 _ _ _ _).mono (fun _ _ e => by omega), ?_, H1.out.trans (Kept.set1 _ _ _ _)⟩
    rw [HN.out]
    exact H0.out.set c _
  · rw [all1_len]
    rintro D W hD ⟨hI0, hI1⟩ hDc
    have hsW := hI1.size
    have HD := Lib.hid hDc
    have hR7 := hR6.kept hI1 (by omega)
    have k67 : Hid (Kept0 w W) := (k3.out.trans K36.out).later hI1 (fun i hi e => by have := k3.out.size; omega)
    have k3W : Hid (Kept (· < w.heap.size + 1) w2 W) := (Kept0.to (K23.out.trans K36.out)).later hI1 (fun i hi e => by have := HT2.out; omega)
    have hDl : D < W.heap.size := (Array.getElem?_eq_some_iff.1 hDc).1
    have hRT := Lib.hid hI0
    have hRR := Lib.hid hR7
    clear hDc hI0 hI1 hT6 hR6 hR7 hbx
    go_upto_region 5 with fail
    refine wp_region_lit ?_
    refine wpList_load_row rfl 100 _ rfl T rfl 100 _ (0, 0) _ hRT.out Tryz.underlying100 rfl (info100 _) ?_
    refine wpList_store_row rfl 100 _ _ rfl w.heap.size (rowA 256 (putsF (outF0 c1 c2) 95)) rfl rfl 100 _ hRR.out (info100 _) (by rw [rowA_size, rowA_size]) (rowA_one (fun b _ => putsF_one c1 c2 b)) ?_
    refine wpList_nil ?_
    have hRow := hRR.out.row (putsF (outF0 c1 c2) 95)
    have hW4 : Kept (· = w.heap.size) W (W.setRow w.heap.size (rowA 256 (putsF (outF0 c1 c2) 95))) := keptRow _ _ _
    obtain ⟨W4, hE⟩ : ∃ W4, W4 = W.setRow w.heap.size (rowA 256 (putsF (outF0 c1 c2) 95)) := ⟨_, rfl⟩
    have hD4 : W4.heap[D]? = some (.deferred (some [])) := by rw [hE]; exact (setRow_other _ _ D _ (by omega)).trans HD.out
    rw [← hE] at hRow hW4 ⊢
    clear hE
    have k4 : Hid (Kept0 w W4) := k67.out.later hW4 (fun i hi e => by omega)
    have HR := Lib.hid hRow
    have k3W4 : Hid (Kept (· < w.heap.size + 1) w2 W4) := k3W.out.trans (hW4.mono (fun i hi e => by omega))
    clear hRow hW4
    go_wp2_with fail
    have hR5 : (W4.putObj D (.deferred none)).heap[w.heap.size]? = some (.cells (rowA 256 (putsF (outF0 c1 c2) 95)) 100 (0, 0)) := (World.putObj_heap_other (by omega)).trans HR.out
    refine ⟨by simp, .inl ⟨_, _, rfl, run_takeDeferred hD4, ?_⟩⟩
    have kF : Kept (· = D) W4 (W4.putObj D (.deferred none)) := kept_putObj _ _ _
    refine ⟨.agg (rowA 256 (putsF (outF0 c1 c2) 95)), results_cell_row Tryz.results58 _ _ w.heap.size 100 _ (0, 0) _ rfl hR5 Tryz.underlying100 rfl (info100 _), putsF (outF0 c1 c2) 95, rfl, fun b _ => ?_, ?_⟩
    · have kW : Kept (· < w.heap.size + 1) w2 (W4.putObj D (.deferred none)) := k3W4.out.later kF (fun i hi e => by have := HT2.out; omega)
      exact out_act ((C1.out.kept kW).lower (Nat.le_succ _)) ((C2.out.kept kW).lower (Nat.le_succ _)) b
    · exact k4.out.later kF (fun i hi e => by have := k3.out.size; omega)
  · intro D c k W _ _ h
    exact h.elim
def allG (f0 f1 : Nat → Value) : Nat → Value := allF f0 f1 (fun _ => .func (.func 61) #[] #[]) (fun _ => .func (.func 62) #[] #[])
/-- Which tables have the byte that begins a sequence. -/
def markF (f : Nat → Value) (n : Nat) (j : Nat) : Value := if j % 256 = 27 ∧ j / 256 < n then .func (.func 63) #[] #[] else f j
theorem info101 (f : Nat → Value) : (Tryz.prog.info? 101).map (·.size) = some (rowA 1024 f).size := by
  rw [rowA_size]
  kernel_rfl
theorem markF_next (f : Nat → Value) (n j : Nat) : markF f (n + 1) j = if j = n * 256 + 27 then .func (.func 63) #[] #[] else markF f n j := by
  unfold markF
  by_cases h : j = n * 256 + 27
  · rw [if_pos h, if_pos (by omega)]
  · rw [if_neg h]
    by_cases h2 : j % 256 = 27 ∧ j / 256 < n
    · rw [if_pos h2, if_pos (by omega)]
    · rw [if_neg h2, if_neg (by omega)]
theorem allG_one {f0 f1 : Nat → Value} (h0 : ∀ b, b < 256 → (f0 b).oneCell' = true) (h1 : ∀ b, b < 256 → (f1 b).oneCell' = true) (k : Nat) (hk : k < 1024) : (allG f0 f1 k).oneCell' = true := by
  unfold allG allF
  by_cases a0 : k < 256
  · rw [if_pos a0]; exact h0 _ a0
  · rw [if_neg a0]
    by_cases a1 : k < 512
    · rw [if_pos a1]; exact h1 _ (by omega)
    · rw [if_neg a1]; split <;> rfl
theorem mark_one {f : Nat → Value} (h : ∀ k, k < 1024 → (f k).oneCell' = true) (n k : Nat) (hk : k < 1024) : (markF f n k).oneCell' = true := by
  unfold markF
  split
  · rfl
  · exact h k hk
theorem all_act {lo : Nat} {W : World} {f0 f1 : Nat → Value} (h0 : ∀ b, b < 256 → ActAt lo W (outD b) (f0 b)) (h1 : ∀ b, b < 256 → ActAt lo W (begD b) (f1 b)) (n b : Nat) (hn : n < 4) (hb : b < 256) : ActAt lo W (doD n b) (markF (allG f0 f1) 4 (n * 256 + b)) := by
  have e1 : (n * 256 + b) % 256 = b := by omega
  have e2 : (n * 256 + b) / 256 = n := by omega
  unfold markF doD
  rw [e1, e2]
  by_cases h : b = 27
  · rw [if_pos h, if_pos ⟨h, hn⟩]; exact act_yes (by nofun) (actBegin _ _)
  · rw [if_neg h, if_neg (fun e => h e.1)]
    have hc : n = 0 ∨ n = 1 ∨ n = 2 ∨ n = 3 := by omega
    rcases hc with rfl | rfl | rfl | rfl
    · have e : allG f0 f1 (0 * 256 + b) = f0 b := by unfold allG allF; rw [if_pos (by omega), Nat.zero_mul, Nat.zero_add]
      rw [e]; exact h0 b hb
    · have e : allG f0 f1 (1 * 256 + b) = f1 b := by unfold allG allF; rw [if_neg (by omega), if_pos (by omega), show 1 * 256 + b - 256 = b by omega]
      rw [e]; exact h1 b hb
    · have e : allG f0 f1 (2 * 256 + b) = .func (.func 61) #[] #[] := by unfold allG allF; rw [if_neg (by omega), if_neg (by omega), if_pos (by omega)]
      rw [e]; exact act_yes (by nofun) (actWait _ _)
    · have e : allG f0 f1 (3 * 256 + b) = .func (.func 62) #[] #[] := by unfold allG allF; rw [if_neg (by omega), if_neg (by omega), if_neg (by omega)]
      rw [e]; exact act_yes (by nofun) (actGoTo _ _)

set_option maxRecDepth 100000 in
set_option maxHeartbeats 4000000 in
theorem tables_any (w : World) : Calls Tryz.prog 43 #[] w fun e w' => ∃ f, e = .returned (.agg (rowA 1024 f)) ∧ (∀ n b, n < 4 → b < 256 → ActAt w.heap.size w' (doD n b) (f (n * 256 + b))) ∧ Kept0 w w' := by
  have hz := zero101
  go_enter Tryz.func43, Tryz.ntmps43
  go_upto_region 1 with fail
  obtain ⟨w0, hw0⟩ : ∃ w0, w0 = w.alloc (.cells (rowA 1024 fun _ => .nilFunc) 101) := ⟨_, rfl⟩
  have k0 : Hid (Kept0 w w0) := by rw [hw0]; exact (Kept.refl _ w).alloc _
  have hR0 : Hid (TabG w0 w.heap.size 101 1024 (fun _ => .nilFunc)) := by rw [hw0]; exact heap_new w _
  have hs0 : w.heap.size + 1 = w0.heap.size := by rw [hw0]; simp
  rw [← hw0]
  clear hw0
  go_wp2_with fail
  refine (outside_any _).mono ?_
  rintro e w1 ⟨f0, rfl, A1, q1⟩
  have B1 := Lib.hid A1
  have Q1 := Lib.hid q1
  clear A1 q1
  go_wp2_with fail
  refine (begun_any _).mono ?_
  rintro e w2 ⟨f1, rfl, A2, q2⟩
  have B2 := Lib.hid A2
  have Q2 := Lib.hid q2
  clear A2 q2
  go_wp2_with fail
  refine (same_any 61 _).mono ?_
  rintro e w3 ⟨rfl, q3⟩
  have Q3 := Lib.hid q3
  clear q3
  go_wp2_with fail
  refine (same_any 62 _).mono ?_
  rintro e w4 ⟨rfl, q4⟩
  have Q4 := Lib.hid (Q3.out.trans q4)
  have hR4 := hR0.out.kept0 ((Q1.out.trans Q2.out).trans Q4.out)
  have k4 : Hid (Kept0 w w4) := ((k0.out.trans Q1.out).trans Q2.out).trans Q4.out
  have C1 : Hid (∀ b, b < 256 → ActAt (w.heap.size + 1) w4 (outD b) (f0 b)) := fun b hb => by
    have h := ((B1.out b hb).kept (Q2.out.mono (fun _ _ e => e.elim))).kept (Q4.out.mono (fun _ _ e => e.elim))
    rwa [← hs0] at h
  have C2 : Hid (∀ b, b < 256 → ActAt (w.heap.size + 1) w4 (begD b) (f1 b)) := fun b hb =>
    (((B2.out b hb).kept (Q4.out.mono (fun _ _ e => e.elim))).imp id (fun h => ⟨h.1, h.2.lower (by have := Q1.out.size; omega)⟩))
  have hone : Hid (∀ k, k < 1024 → (allG f0 f1 k).oneCell' = true) := allG_one (fun b hb => (C1.out b hb).one) (fun b hb => (C2.out b hb).one)
  clear B1 B2 hR0 q4
  rename_i hK
  refine hK _ _ ?_
  refine wpList_build 101 (build101 f0 f1 (fun _ => .func (.func 61) #[] #[]) (fun _ => .func (.func 62) #[] #[]) w4) rfl rfl rfl ?_
  refine wpList_alloc 101 (alloc101 w4) rfl rfl ?_
  have hN : TabG (w4.alloc (.cells (rowA 1024 fun _ => .nilFunc) 101)) w4.heap.size 101 1024 (fun _ => .nilFunc) := heap_new w4 _
  refine wpList_store_row rfl 101 _ _ rfl w4.heap.size (rowA 1024 (allG f0 f1)) rfl rfl 101 _ hN (info101 _) (by rw [rowA_size, rowA_size]) (rowA_one hone.out) ?_
  refine wpList_nil ?_
  obtain ⟨w5, hw5⟩ : ∃ w5, w5 = (w4.alloc (.cells (rowA 1024 fun _ => .nilFunc) 101)).setRow w4.heap.size (rowA 1024 (allG f0 f1)) := ⟨_, rfl⟩
  have hT5 : TabG w5 w4.heap.size 101 1024 (allG f0 f1) := by rw [hw5]; exact hN.row _
  have hs5 : w5.heap.size = w4.heap.size + 1 := by rw [hw5, setRow_size]; simp
  have k45 : Kept0 w4 w5 := by rw [hw5]; exact ((Kept.refl (fun _ => False) w4).alloc _).later (keptRow _ _ _) (fun i hi e => by omega)
  rw [← hw5]
  clear hw5 hN hz
  have hR5 := hR4.kept0 k45
  have hw4 : w.heap.size < w4.heap.size := hR4.lt
  obtain ⟨T, hT⟩ : ∃ T, T = w4.heap.size := ⟨_, rfl⟩
  have HT2 := Lib.hid hT
  rw [← hT] at hT5 hs5 hw4 ⊢
  clear hT hR4
  have K45 := Lib.hid k45
  clear k45 Q1 Q2 Q3 Q4 k0
  go_wp2_with fail
  go_loopw [8] (fun s8 wr => ∃ k : Nat, k ≤ 4 ∧ s8 = .int .i64 (k : Int) ∧ TabG wr T 101 1024 (markF (allG f0 f1) k) ∧ Kept (fun b => b = T) w5 wr) (fun s8 _ => 4 - (Qu.num s8).toNat)
  case atStart => exact ⟨0, by omega, rfl, hT5.congr (fun i _ => by unfold markF; rw [if_neg (by omega)]), Kept.refl _ w5⟩
  case round =>
    obtain ⟨k, hk, rfl, hT, hkr⟩ := hrel
    by_cases hlt : k < 4
    · have c0 := hT.cell (i := k * 256 + 27) (by omega)
      have c1 := hT.frozen (k * 256 + 27)
      obtain ⟨vo, hvo⟩ : ∃ vo, markF (allG f0 f1) k (k * 256 + 27) = vo := ⟨_, rfl⟩
      rw [hvo] at c0
      have HT := Lib.hid hT
      have HK := Lib.hid hkr
      clear hvo hT hkr
      go_wp2_with fail
      go_roundw
      case rel =>
        refine ⟨k + 1, by omega, by go_num, (HT.out.set (k * 256 + 27) _).congr (fun j _ => (markF_next _ _ _).symm), HK.out.trans (Kept.set1 _ _ _ _)⟩
      case measure => simp [Qu.num]; omega
    · obtain rfl : k = 4 := by omega
      have hR6 := hR5.kept hkr (by omega)
      have k6 : Hid (Kept0 w wr) := (k4.out.trans K45.out).later hkr (fun i hi e => by have := k4.out.size; omega)
      have k46 : Hid (Kept (· < w.heap.size + 1) w4 wr) := (Kept0.to K45.out).later hkr (fun i hi e => by have := HT2.out; omega)
      have hRT := Lib.hid hT
      have hRR := Lib.hid hR6
      have hO : Hid (∀ k, k < 1024 → (markF (allG f0 f1) 4 k).oneCell' = true) := fun k hk => mark_one hone.out 4 k hk
      clear hT hT5 hR5 hR6 hkr
      go_upto_region 7 with fail
      refine wp_region_lit ?_
      refine wpList_load_row rfl 101 _ rfl T rfl 101 _ (0, 0) _ hRT.out Tryz.underlying101 rfl (info101 _) ?_
      refine wpList_store_row rfl 101 _ _ rfl w.heap.size (rowA 1024 (markF (allG f0 f1) 4)) rfl rfl 101 _ hRR.out (info101 _) (by rw [rowA_size, rowA_size]) (rowA_one hO.out) ?_
      refine wpList_nil ?_
      have hRow := hRR.out.row (markF (allG f0 f1) 4)
      have hW4 : Kept (· = w.heap.size) wr (wr.setRow w.heap.size (rowA 1024 (markF (allG f0 f1) 4))) := keptRow _ _ _
      obtain ⟨W4, hE⟩ : ∃ W4, W4 = wr.setRow w.heap.size (rowA 1024 (markF (allG f0 f1) 4)) := ⟨_, rfl⟩
      rw [← hE] at hRow hW4 ⊢
      clear hE
      have k7 : Hid (Kept0 w W4) := k6.out.later hW4 (fun i hi e => by omega)
      have HR := Lib.hid hRow
      have k47 : Hid (Kept (· < w.heap.size + 1) w4 W4) := k46.out.trans (hW4.mono (fun i hi e => by omega))
      clear hRow hW4
      go_wp2_with fail
      refine bodyPost_ret (results_cell_row Tryz.results43 _ _ w.heap.size 101 _ (0, 0) _ rfl HR.out Tryz.underlying101 rfl (info101 _)) rfl ⟨markF (allG f0 f1) 4, rfl, fun n b hn hb => ?_, k7.out⟩
      exact all_act (fun b hb => ((C1.out b hb).kept k47.out).imp id (fun h => ⟨h.1, h.2.lower (Nat.le_succ _)⟩)) (fun b hb => ((C2.out b hb).kept k47.out).imp id (fun h => ⟨h.1, h.2.lower (Nat.le_succ _)⟩)) n b hn hb
end Go.Proofs.YtlhajbcabpfbkaaGreatDoor
