/-
  Free and Last.
-/
import Derived.Test.YtkdnjkcebfckiaaSeek
namespace Go.Proofs.Ytkdnjkcebfckiaa
open Go.RowKit

attribute [local go_sem] Oper.semAt_some

theorem round_in (R C r c s : Int) (w : World) : Calls Try.prog 44 #[pos R C, pos r c, .int .i64 s] w fun e w' => ∃ bS bP bI, e = .returned (.func (.func 58) #[] #[.pointer (some ⟨bS, 0, none⟩), .pointer (some ⟨bP, 0, none⟩), .pointer (some ⟨bI, 0, none⟩)]) ∧ RndG bS bP bI R C r c s w' ∧ Kept0 w w' := by
  refine (round_any R C r c s w).mono ?_
  rintro e w' ⟨rfl, rfl⟩
  refine ⟨_, _, _, rfl, ⟨?_, ?_, ?_, ?_, ?_⟩, (((Kept.refl _ w).alloc _).alloc _).alloc _⟩
  all_goals simp [go_sem]

set_option maxRecDepth 100000 in
set_option maxHeartbeats 4000000 in
/-- Of no grid. -/
theorem seek_nil (bS bP bI : Nat) (r c s : Int) (w : World) (hr : RndG bS bP bI 0 0 r c s w) :
    Calls Try.prog 43 #[.pointer none, .func (.func 58) #[] #[.pointer (some ⟨bS, 0, none⟩), .pointer (some ⟨bP, 0, none⟩), .pointer (some ⟨bI, 0, none⟩)]] w fun e w' =>
      e = .returned (.tuple #[pos 0 0, .bool false]) ∧ Kept0 w w' := by
  have hit := round1_nil bS bP bI r c s
  refine calls_marks Try.func43 rfl ?_
  simp only [Try.ntmps43, List.size_toArray, List.length_cons, List.length_nil, Nat.reduceAdd, Nat.reduceSub, Array.replicate_succ, Array.replicate_zero, List.push_toArray, List.append_toArray, List.nil_append, List.cons_append]
  go_wp2_with fail
  refine wp_scope_straight ?_
  go_wp2_with fail
  refine wp_label ?_
  go_wp2_with fail
  obtain ⟨w6, hw6⟩ : ∃ w6, w6 = ((w.alloc (.cells #[.pointer none] 31)).alloc (.cells #[.int .i64 0, .int .i64 0] 26)).alloc (.cells #[.bool false] 4) := ⟨_, rfl⟩
  have k06 : Kept0 w w6 := by rw [hw6]; exact (((Kept.refl _ w).alloc _).alloc _).alloc _
  have hbx : w6.cell? ⟨w.heap.size, 0, none⟩ = some (.pointer none) := by rw [hw6]; simp [go_sem]
  have hT6 : Two w6 (w.heap.size + 1) 0 0 := by rw [hw6]; exact Two.of (heap_old _ _ (heap_new2 _ _ _))
  have hB6 : BoolAt w6 (w.heap.size + 1 + 1) false := by rw [hw6]; exact BoolAt.of (heap_newC _ _ _ _)
  have hs6 : w.heap.size + 3 = w6.heap.size := by rw [hw6]; simp
  rw [← hw6]
  clear hw6
  have hr6 := hr.kept0 k06
  have ls := World.block_lt_of_cell? w _ hr.s0
  have lp := World.block_lt_of_cell? w _ hr.p0
  have li := World.block_lt_of_cell? w _ hr.i0
  have hl1 : w.heap.size + 1 < w6.heap.size := by omega
  have hl2 : w.heap.size + 1 + 1 < w6.heap.size := by omega
  clear hr
  refine wpIn_wide.1 (wp_range (n := 0) (gf := 58) (lb := #[.pointer (some ⟨bS, 0, none⟩), .pointer (some ⟨bP, 0, none⟩), .pointer (some ⟨bI, 0, none⟩)]) rfl (enters_of Try.func58 (by kernel_rfl) rfl) hit (fun _ => rfl)
    (fun _ W => Kept0 w6 W)
    (fun _ _ _ => False)
    (fun _ _ _ h b => h.thenBelow b (Nat.le_refl _))
    (fun _ _ _ _ h _ => h)
    (fun _ W h => hr6.kept0 h)
    (Kept.refl _ _) ?_ ?_ ?_)
  · rintro l9 k W hl3 hl4 hk _
    omega
  · rintro D W hD hI1 hDc
    have hT := hT6.kept0 hI1
    have hB := hB6.kept hI1 (fun e => e)
    have l1 := hT.lt
    have l2 := hB.lt
    obtain ⟨t0, t1, t2, t3⟩ := hT
    obtain ⟨u0, u1⟩ := hB
    have HD := Lib.hid hDc
    have hI1' := Lib.hid hI1
    clear hDc hit hr6 hT6 hB6 hbx
    go_wp2_with fail
    obtain ⟨W4, hW4⟩ : ∃ W4, W4 = ((W.setCell ⟨w.heap.size + 1, 0, none⟩ (.int .i64 0)).setCell ⟨w.heap.size + 1, 1, none⟩ (.int .i64 0)).setCell ⟨w.heap.size + 1 + 1, 0, none⟩ (.bool false) := ⟨_, rfl⟩
    have q0 : W4.cell? ⟨w.heap.size + 1, 0, none⟩ = some (.int .i64 0) := by rw [hW4]; simp [go_sem, t0]
    have q1 : W4.cell? ⟨w.heap.size + 1, 1, none⟩ = some (.int .i64 0) := by rw [hW4]; simp [go_sem, t1]
    have q2 : W4.cell? ⟨w.heap.size + 1 + 1, 0, none⟩ = some (.bool false) := by rw [hW4]; simp [go_sem, u0]
    have hk4 : Kept0 w W4 := by rw [hW4]; exact (((k06.trans hI1'.out).setCell _ (Or.inl (by simp)) _).setCell _ (Or.inl (by simp)) _).setCell _ (Or.inl (by simp; omega)) _
    have hDl : D < W.heap.size := (Array.getElem?_eq_some_iff.1 HD.out).1
    have hD4 : W4.heap[D]? = some (.deferred (some [])) := by
      rw [hW4]
      exact (Below.heap_setCell _ _ _ _ (by simp; omega)).trans ((Below.heap_setCell _ _ _ _ (by simp; omega)).trans ((Below.heap_setCell _ _ _ _ (by simp; omega)).trans HD.out))
    rw [← hW4]
    clear hW4
    have r0 : (W4.putObj D (.deferred none)).cell? ⟨w.heap.size + 1, 0, none⟩ = some (.int .i64 0) := (World.cell?_of_block (World.putObj_heap_other (by simp; omega))).trans q0
    have r1 : (W4.putObj D (.deferred none)).cell? ⟨w.heap.size + 1, 1, none⟩ = some (.int .i64 0) := (World.cell?_of_block (World.putObj_heap_other (by simp; omega))).trans q1
    have r2 : (W4.putObj D (.deferred none)).cell? ⟨w.heap.size + 1 + 1, 0, none⟩ = some (.bool false) := (World.cell?_of_block (World.putObj_heap_other (by simp; omega))).trans q2
    refine ⟨by simp, .inl ⟨_, _, rfl, run_takeDeferred hD4, ?_⟩⟩
    refine ⟨.tuple #[pos 0 0, .bool false], by simp [results, Try.results43, go_sem, r0, r1, r2], rfl, ?_⟩
    exact hk4.thenBelow (below_putObj _ hD) (by omega)
  · rintro D c k W hD hk h
    exact h.elim

set_option maxHeartbeats 1000000 in
theorem free_coreF (g : Value) (R C r c a b : Int) (v : Bool) (w : World)
    (hsize : ∀ w', Kept0 w w' → Calls Try.prog 30 #[g] w' fun e w'' => e = .returned (pos R C) ∧ Kept0 w' w'')
    (hseek : ∀ bS bP bI w', Kept0 w w' → RndG bS bP bI R C r c (1) w' → Calls Try.prog 43 #[g, .func (.func 58) #[] #[.pointer (some ⟨bS, 0, none⟩), .pointer (some ⟨bP, 0, none⟩), .pointer (some ⟨bI, 0, none⟩)]] w' fun e w'' => e = .returned (.tuple #[pos a b, .bool v]) ∧ Kept0 w' w'') :
    Calls Try.prog 19 #[g, pos r c] w fun e w' => e = .returned (.tuple #[pos a b, .bool v]) ∧ Kept0 w w' := by
  have HS := Lib.hid hsize
  have HK := Lib.hid hseek
  clear hsize hseek
  go_enter Try.func19, Try.ntmps19
  go_wp2_with fail
  obtain ⟨W, hW⟩ : ∃ W, W = (w.alloc (.cells #[.int .i64 r, .int .i64 c] 26)).alloc (.cells #[.int .i64 0, .int .i64 0] 26) := ⟨_, rfl⟩
  have k0 : Kept0 w W := by rw [hW]; exact ((Kept.refl _ w).alloc _).alloc _
  have hp : Two W w.heap.size r c := by rw [hW]; exact Two.of (heap_old _ _ (heap_new _ _))
  have ho : Two W (w.heap.size + 1) 0 0 := by rw [hW]; exact Two.of (heap_new2 _ _ _)
  rw [← hW]
  clear hW
  have KK := Lib.hid k0
  have HP := Lib.hid hp
  have HOO := Lib.hid ho
  have lp := hp.lt
  have lo := ho.lt
  obtain ⟨p0, p1, p2, p3⟩ := hp
  obtain ⟨o0, o1, o2, o3⟩ := ho
  have n1 : ¬ w.heap.size = w.heap.size + 1 := by omega
  have n2 : ¬ w.heap.size + 1 = w.heap.size := by omega
  clear k0
  go_region_held3 (fun w' => w'.cell? ⟨w.heap.size, 0, none⟩ = some (.int .i64 r) ∧ w'.cell? ⟨w.heap.size, 1, none⟩ = some (.int .i64 c)) (go_keep)
    (first
      | (go_at_call 30; refine (HS.out _ (Kept.drew KK.out)).mono ?_; rintro e w3 ⟨rfl, hk3⟩; have kn : Hid (Kept0 W w3) := (Kept.refl _ W).drew.trans hk3; obtain ⟨v0, v1, v2, v3⟩ := HP.out.kept0 kn.out)
      | (go_at_call 44; refine (round_in _ _ _ _ _ _).mono ?_; rintro e w4 ⟨bS, bP, bI, rfl, hG4, hk4⟩; have kn4 : Hid (Kept0 W w4) := kn.out.trans hk4; obtain ⟨v0, v1, v2, v3⟩ := HP.out.kept0 kn4.out)
      | (go_at_call 43; refine (HK.out bS bP bI _ (KK.out.trans kn4.out) hG4).mono ?_; rintro e w5 ⟨rfl, hk5⟩; have kn5 : Hid (Kept0 W w5) := kn4.out.trans hk5; obtain ⟨v0, v1, v2, v3⟩ := HP.out.kept0 kn5.out; obtain ⟨y0, y1, y2, y3⟩ := HOO.out.kept0 kn5.out))
  all_goals
    go_wp2_with fail
    exact bodyPost_ret (v := .tuple #[pos a b, .bool v]) (by simp [results, Try.results19, go_sem, y0, y1]) rfl ⟨rfl, ((KK.out.trans kn5.out).setCell _ (Or.inl (Nat.le_add_right _ 1)) _).setCell _ (Or.inl (Nat.le_add_right _ 1)) _⟩

set_option maxHeartbeats 1000000 in
theorem free_coreB (g : Value) (R C r c a b : Int) (v : Bool) (w : World)
    (hsize : ∀ w', Kept0 w w' → Calls Try.prog 30 #[g] w' fun e w'' => e = .returned (pos R C) ∧ Kept0 w' w'')
    (hseek : ∀ bS bP bI w', Kept0 w w' → RndG bS bP bI R C r c (-1) w' → Calls Try.prog 43 #[g, .func (.func 58) #[] #[.pointer (some ⟨bS, 0, none⟩), .pointer (some ⟨bP, 0, none⟩), .pointer (some ⟨bI, 0, none⟩)]] w' fun e w'' => e = .returned (.tuple #[pos a b, .bool v]) ∧ Kept0 w' w'') :
    Calls Try.prog 21 #[g, pos r c] w fun e w' => e = .returned (.tuple #[pos a b, .bool v]) ∧ Kept0 w w' := by
  have HS := Lib.hid hsize
  have HK := Lib.hid hseek
  clear hsize hseek
  go_enter Try.func21, Try.ntmps21
  go_wp2_with fail
  obtain ⟨W, hW⟩ : ∃ W, W = (w.alloc (.cells #[.int .i64 r, .int .i64 c] 26)).alloc (.cells #[.int .i64 0, .int .i64 0] 26) := ⟨_, rfl⟩
  have k0 : Kept0 w W := by rw [hW]; exact ((Kept.refl _ w).alloc _).alloc _
  have hp : Two W w.heap.size r c := by rw [hW]; exact Two.of (heap_old _ _ (heap_new _ _))
  have ho : Two W (w.heap.size + 1) 0 0 := by rw [hW]; exact Two.of (heap_new2 _ _ _)
  rw [← hW]
  clear hW
  have KK := Lib.hid k0
  have HP := Lib.hid hp
  have HOO := Lib.hid ho
  have lp := hp.lt
  have lo := ho.lt
  obtain ⟨p0, p1, p2, p3⟩ := hp
  obtain ⟨o0, o1, o2, o3⟩ := ho
  have n1 : ¬ w.heap.size = w.heap.size + 1 := by omega
  have n2 : ¬ w.heap.size + 1 = w.heap.size := by omega
  clear k0
  go_region_held3 (fun w' => w'.cell? ⟨w.heap.size, 0, none⟩ = some (.int .i64 r) ∧ w'.cell? ⟨w.heap.size, 1, none⟩ = some (.int .i64 c)) (go_keep)
    (first
      | (go_at_call 30; refine (HS.out _ (Kept.drew KK.out)).mono ?_; rintro e w3 ⟨rfl, hk3⟩; have kn : Hid (Kept0 W w3) := (Kept.refl _ W).drew.trans hk3; obtain ⟨v0, v1, v2, v3⟩ := HP.out.kept0 kn.out)
      | (go_at_call 44; refine (round_in _ _ _ _ _ _).mono ?_; rintro e w4 ⟨bS, bP, bI, rfl, hG4, hk4⟩; have kn4 : Hid (Kept0 W w4) := kn.out.trans hk4; obtain ⟨v0, v1, v2, v3⟩ := HP.out.kept0 kn4.out)
      | (go_at_call 43; refine (HK.out bS bP bI _ (KK.out.trans kn4.out) hG4).mono ?_; rintro e w5 ⟨rfl, hk5⟩; have kn5 : Hid (Kept0 W w5) := kn4.out.trans hk5; obtain ⟨v0, v1, v2, v3⟩ := HP.out.kept0 kn5.out; obtain ⟨y0, y1, y2, y3⟩ := HOO.out.kept0 kn5.out))
  all_goals
    go_wp2_with fail
    exact bodyPost_ret (v := .tuple #[pos a b, .bool v]) (by simp [results, Try.results21, go_sem, y0, y1]) rfl ⟨rfl, ((KK.out.trans kn5.out).setCell _ (Or.inl (Nat.le_add_right _ 1)) _).setCell _ (Or.inl (Nat.le_add_right _ 1)) _⟩

theorem free_any (g t cap R C : Nat) (f : Nat → Cel) (r c : Int) (w : World) (hg : GridAt w g t cap R C f) :
    Calls Try.prog 19 #[.pointer (some ⟨g, 0, none⟩), pos r c] w fun e w' => e = .returned (.tuple #[pos (oR C (freeK (R * C) false (st R C r c) f)) (oC C (freeK (R * C) false (st R C r c) f)), .bool (freeK (R * C) false (st R C r c) f).isSome]) ∧ Kept0 w w' :=
  free_coreF _ R C r c _ _ _ w (fun w' k => size_any g R C w' (kcell k hg.c0) (kcell k hg.c1)) (fun bS bP bI w' k h => seek_any bS bP bI g t cap R C f r c false w' (hg.kept k (fun e => e) (fun e => e)) h)

theorem last_any (g t cap R C : Nat) (f : Nat → Cel) (r c : Int) (w : World) (hg : GridAt w g t cap R C f) :
    Calls Try.prog 21 #[.pointer (some ⟨g, 0, none⟩), pos r c] w fun e w' => e = .returned (.tuple #[pos (oR C (freeK (R * C) true (st R C r c) f)) (oC C (freeK (R * C) true (st R C r c) f)), .bool (freeK (R * C) true (st R C r c) f).isSome]) ∧ Kept0 w w' :=
  free_coreB _ R C r c _ _ _ w (fun w' k => size_any g R C w' (kcell k hg.c0) (kcell k hg.c1)) (fun bS bP bI w' k h => seek_any bS bP bI g t cap R C f r c true w' (hg.kept k (fun e => e) (fun e => e)) h)

theorem free_nil (r c : Int) (w : World) : Calls Try.prog 19 #[.pointer none, pos r c] w fun e w' => e = .returned (.tuple #[pos 0 0, .bool false]) ∧ Kept0 w w' :=
  free_coreF _ 0 0 r c _ _ _ w (fun w' _ => size_nil w') (fun bS bP bI w' _ h => seek_nil bS bP bI r c _ w' h)
theorem last_nil (r c : Int) (w : World) : Calls Try.prog 21 #[.pointer none, pos r c] w fun e w' => e = .returned (.tuple #[pos 0 0, .bool false]) ∧ Kept0 w w' :=
  free_coreB _ 0 0 r c _ _ _ w (fun w' _ => size_nil w') (fun bS bP bI w' _ h => seek_nil bS bP bI r c _ w' h)

end Go.Proofs.Ytkdnjkcebfckiaa
