/-
  GlyphOf answers true.
-/
import Derived.Test.YtnnhkejflmjnhaaTurns
import Derived.Deep.RegionHeld3
namespace Go.Proofs.Ytnnhkejflmjnhaa
open Go.RowKit

attribute [local go_sem] Oper.semAt_some

/-- A cell that holds a number and may be written. -/
structure IntAt (w : World) (b : Nat) (n : Int) : Prop where
  c : w.cell? ⟨b, 0, none⟩ = some (.int .i64 n)
  f : w.frozen? ⟨b, 0, none⟩ = false
theorem IntAt.of {w : World} {b : Nat} {n : Int} {t : TypeId} (h : w.heap[b]? = some (.cells #[.int .i64 n] t (0, 0))) : IntAt w b n := ⟨by simp [World.cell?, h], by simp [World.frozen?, h]⟩
theorem IntAt.lt {w : World} {b : Nat} {n : Int} (h : IntAt w b n) : b < w.heap.size := World.block_lt_of_cell? w _ h.c
theorem IntAt.kept {w w' : World} {b : Nat} {n : Int} (h : IntAt w b n) {S : Nat → Prop} (k : Kept S w w') (hs : ¬ S b) : IntAt w' b n :=
  ⟨(k.cell h.lt hs).trans h.c, (k.frozen h.lt hs).trans h.f⟩
theorem IntAt.below {w w' : World} {b B : Nat} {n : Int} (h : IntAt w b n) (k : Below B w w') (hs : b < B) : IntAt w' b n :=
  ⟨(k.cell (p := ⟨b, 0, none⟩) hs).trans h.c, (k.frozen (p := ⟨b, 0, none⟩) hs).trans h.f⟩
theorem IntAt.set {w : World} {b : Nat} {n : Int} (h : IntAt w b n) (x : Int) : IntAt (w.setCell ⟨b, 0, none⟩ (.int .i64 x)) b x :=
  ⟨by simp [go_sem, h.c], by simp [go_sem, h.f]⟩
theorem IntAt.set' {w : World} {b c : Nat} {n : Int} (h : IntAt w b n) (hc : ¬ b = c) (v : Value) : IntAt (w.setCell ⟨c, 0, none⟩ v) b n :=
  h.kept (Kept.set1 w c 0 v) hc

theorem func_nil (bx : Nat) (w : World) : (binOp .eql 23 (.func (.func 17) #[] #[.pointer (some ⟨bx, 0, none⟩)]) .nilFunc).run Try.prog w = .ok (.bool false) w := by kernel_rfl

theorem round_call0 {l : Nat} {f : FuncId} {args : Array Value} {w : World} {R : Ending → World → Prop} (h : Calls Try.prog f args w R) :
    Fence.wide.fn f ∧ Fence.wide.depth = none ∧ CallsIn (Fence.wide.inRound l) 0 Try.prog f args w R :=
  ⟨trivial, rfl, CallsIn.inRound l (callsIn_wide.2 h)⟩

/-- The byte that came last. -/
def lastOf (set : Int) (k : Nat) : Int := match k with | 0 => -1 | k + 1 => (((allL set).getD k (0, 0)).1 : Int)

theorem last_lt {set : Int} {k : Nat} {p : Nat × Nat} (h : (allL set)[k]? = some p) : lastOf set k < (p.1 : Int) := by
  cases k with
  | zero => simp only [lastOf]; omega
  | succ k =>
    have hk : k + 1 < (allL set).length := (List.getElem?_eq_some_iff.1 h).1
    have h1 : (allL set)[k]? = some ((allL set).getD k (0, 0)) := by
      rw [List.getD, List.getElem?_eq_getElem (by omega)]; rfl
    have := allL_rise h1 h (by omega)
    simp only [lastOf]
    omega
theorem last_next {set : Int} {k : Nat} {p : Nat × Nat} (h : (allL set)[k]? = some p) : lastOf set (k + 1) = (p.1 : Int) := by
  simp only [lastOf, List.getD, h]
  rfl
/-- How many bytes below one have a glyph. -/
def cnt (set : Int) (i : Nat) : Nat := ((List.range i).filter (told set)).length
theorem cnt_le (set : Int) (i : Nat) : cnt set i ≤ i := Nat.le_trans (List.length_filter_le _ _) (by simp)
theorem cnt_next (set : Int) (i : Nat) : cnt set (i + 1) = cnt set i + (if told set i then 1 else 0) := by
  simp only [cnt, List.range_succ, List.filter_append, List.length_append, List.filter_cons, List.filter_nil]
  split <;> simp

set_option maxRecDepth 100000 in
set_option maxHeartbeats 8000000 in
theorem ofs_calls (set : Int) (b : Nat) (hb : b < 256) (w : World) : Calls Try.prog 3 #[.int .i64 set, .int .u8 (b : Int)] w fun e w' => e = .returned (.bool true) ∧ Below w.heap.size w w' := by
  have hfn := func_nil
  refine calls_marks Try.func3 rfl ?_
  simp only [Try.ntmps3, List.size_toArray, List.length_cons, List.length_nil, Nat.reduceAdd, Nat.reduceSub, Array.replicate_succ, Array.replicate_zero, List.push_toArray, List.append_toArray, List.nil_append, List.cons_append]
  go_wp2_with fail
  obtain ⟨w1, hw1⟩ : ∃ w1, w1 = (((w.alloc (.cells #[.int .i64 set] 3)).alloc (.cells #[.bool false] 4)).alloc (.cells #[.int .i64 0] 3)).alloc (.cells #[.int .i64 (-1)] 3) := ⟨_, rfl⟩
  have hk1 : Kept0 w w1 := by rw [hw1]; exact ((((Kept.refl _ w).alloc _).alloc _).alloc _).alloc _
  have hc0 : w1.cell? ⟨w.heap.size, 0, none⟩ = some (.int .i64 set) := by rw [hw1]; simp [go_sem]
  have hB1 : BoolAt w1 (w.heap.size + 1) false := by rw [hw1]; exact ⟨by simp [go_sem], by simp [go_sem]⟩
  have hN1 : IntAt w1 (w.heap.size + 2) 0 := by rw [hw1]; exact ⟨by simp [go_sem], by simp [go_sem]⟩
  have hL1 : IntAt w1 (w.heap.size + 3) (-1) := by rw [hw1]; exact ⟨by simp [go_sem], by simp [go_sem]⟩
  have hs1 : w.heap.size + 4 = w1.heap.size := by rw [hw1]; simp
  rw [← hw1]
  clear hw1
  refine (all_any _ _).mono ?_
  rintro e w9 ⟨rfl, rfl⟩
  go_wp2_with fail
  obtain ⟨w6, hw6⟩ : ∃ w6, w6 = w1.alloc (.cells #[.int .i64 set] 3) := ⟨_, rfl⟩
  have hbx : w6.cell? ⟨w1.heap.size, 0, none⟩ = some (.int .i64 set) := by rw [hw6]; simp [go_sem]
  have hk6 : Kept0 w1 w6 := by rw [hw6]; exact (Kept.refl _ w1).alloc _
  have hs6 : w1.heap.size + 1 = w6.heap.size := by rw [hw6]; simp
  rw [← hw6]
  clear hw6
  have k06 : Kept0 w w6 := hk1.trans hk6
  replace hc0 := kcell hk6 hc0
  replace hB1 := hB1.kept hk6 (fun e => e)
  replace hN1 := hN1.kept hk6 (fun e => e)
  replace hL1 := hL1.kept hk6 (fun e => e)
  clear hfn
  have hl1 : w.heap.size + 2 < w6.heap.size := by omega
  have hl2 : w.heap.size + 3 < w6.heap.size := by omega
  refine wpIn_wide.1 (wp_range (n := 0) (gf := 17) (lb := #[.pointer (some ⟨w1.heap.size, 0, none⟩)]) rfl (enters_of Try.func17 (by kernel_rfl) rfl) (all_iter w1.heap.size set) (fun _ => rfl)
    (fun k W => IntAt W (w.heap.size + 2) (k : Int) ∧ IntAt W (w.heap.size + 3) (lastOf set k) ∧ Kept (fun b => b = w.heap.size + 2 ∨ b = w.heap.size + 3) w6 W)
    (fun _ _ _ => False)
    (fun _ _ _ h b => ⟨h.1.below b hl1, h.2.1.below b hl2, h.2.2.thenBelow b (Nat.le_refl _)⟩)
    (fun _ _ _ _ h _ => h)
    (fun _ W h => (h.2.2.cell (by omega) (by omega)).trans hbx)
    ⟨hN1, hL1, Kept.refl _ _⟩ ?_ ?_ ?_)
  · rintro l9 k W hl3 hl4 hk ⟨hI0, hI1, hI2⟩
    have hsW := hI2.size
    have hk256 := allL_le set
    obtain ⟨p, hp⟩ : ∃ p, (allL set)[k]? = some p := ⟨_, List.getElem?_eq_getElem hk⟩
    obtain ⟨hp1, hp2, hp3⟩ := allL_mem hp
    have hlast := last_lt hp
    have HN := Lib.hid (last_next hp)
    rw [allArgs_of hp]
    obtain ⟨c, r⟩ := p
    simp only at hp1 hp2 hp3 hlast HN
    unfold pairArgs
    clear hp
    gi_wp2_with fail
    refine ⟨Kept.refl _ W, fun W2 hk2 hb2 => ?_⟩
    replace hI0 := hI0.below hb2 (by omega)
    replace hI1 := hI1.below hb2 (by omega)
    replace hI2 := hI2.thenBelow hb2 (Nat.le_refl _)
    have hsW2 := hI2.size
    have a0 := (hI2.cell (b := w.heap.size) (o := 0) (by omega) (by omega)).trans hc0
    have a1 := hI1.c
    have d1 : decide ((c : Int) ≤ lastOf set k) = false := by simp; omega
    have d2 : ((r : Int) == 65533) = false := by simp; omega
    clear hk2 hb2 hc0 hB1 hN1 hL1 hbx hp3
    obtain ⟨L, hL⟩ : ∃ L, L = lastOf set k := ⟨_, rfl⟩
    rw [← hL] at a1 d1 hI1 hlast
    clear hL
    gi_wp2_with fail
    refine round_call0 ((ref_any set c hp1 _).mono ?_)
    rw [← hp2]
    rintro e W3 ⟨rfl, hk3⟩
    replace hI0 := hI0.kept hk3 (fun e => e)
    replace hI1 := hI1.kept hk3 (fun e => e)
    have hI3 : Kept (fun b => b = w.heap.size + 2 ∨ b = w.heap.size + 3) w6 W3 := hI2.later hk3 (fun _ _ e => e.elim)
    have b0 := hI0.c
    have b1 := hI1.c
    have b2 := hI0.f
    have b3 := hI1.f
    clear a0 a1 hI2
    gi_wp2_with fail
    refine ⟨?_, ?_, ?_, ?_⟩
    · exact (hk3.to.trans ((Kept.set1 _ _ 0 _).mono (fun _ _ e => by omega))).trans ((Kept.set1 _ _ 0 _).mono (fun _ _ e => by omega))
    · have := (hI0.set' (c := w.heap.size + 3) (by omega) (.int .i64 (c : Int))).set ((k : Int) + 1)
      rwa [← Int.natCast_succ] at this
    · rw [HN.out]
      exact (hI1.set (c : Int)).set' (c := w.heap.size + 2) (by omega) _
    · exact (hI3.trans ((Kept.set1 _ _ 0 _).mono (fun _ _ e => Or.inr e))).trans ((Kept.set1 _ _ 0 _).mono (fun _ _ e => Or.inl e))
  · rintro D W hD ⟨hI0, hI1, hI2⟩ hDc
    have hsW := hI2.size
    have HD := Lib.hid hDc
    have a0 := (hI2.cell (b := w.heap.size) (o := 0) (by omega) (by omega)).trans hc0
    have hBW := hB1.kept hI2 (by omega)
    have hk0W : Kept0 w W := k06.later hI2 (fun i hi e => by omega)
    obtain ⟨N, hN⟩ : ∃ N, N = (allL set).length := ⟨_, rfl⟩
    have hNc : Hid (N = cnt set 256) := by show N = _; rw [hN, allL_length]; rfl
    have hN2 : N ≤ 256 := by rw [hN]; exact allL_le set
    rw [← hN] at hI0
    have a1 := hI0.c
    have hDl : D < W.heap.size := (Array.getElem?_eq_some_iff.1 hDc).1
    clear hN hDc hI0 hI1 hI2 hc0 hB1 hN1 hL1 hbx hk6 k06 hk1
    go_wp2_with fail
    go_loopw [10, 11] (fun s10 s11 wr => ∃ i : Nat, i ≤ 256 ∧ s11 = .int .i64 (i : Int) ∧ s10 = .int .i64 (cnt set i : Int) ∧ Kept0 W wr) (fun _ s11 _ => 256 - (intOf s11).toNat)
    case atStart => exact ⟨0, by omega, rfl, rfl, Kept.refl _ W⟩
    case round =>
      obtain ⟨i, hi, rfl, rfl, hkr⟩ := hrel
      have c0 := kcell hkr a0
      by_cases hlt : i < 256
      · go_wp2_with fail
        refine (ref_any set i hlt _).mono ?_
        rintro e w3 ⟨rfl, hk3⟩
        have hcl := cnt_le set i
        have hcn := cnt_next set i
        cases ht : told set i with
        | true =>
          have d1 : ((refN set i : Int) == 65533) = false := by simp [told] at ht; simp; omega
          have d2 : ((refN set i : Int) != 65533) = true := by simp [told] at ht; simp; omega
          have HCN : Hid ((cnt set (i + 1) : Int) = (cnt set i : Int) + 1) := by show _ = _; rw [hcn, ht]; simp
          clear hcn ht
          go_wp2_with fail
          go_roundw
          case rel => exact ⟨i + 1, by omega, by go_num, by rw [HCN.out], hkr.trans hk3⟩
          case measure => simp [intOf]; omega
        | false =>
          have d1 : refN set i = 65533 := by simpa [told] using ht
          have HCN : Hid (cnt set (i + 1) = cnt set i) := by show _ = _; rw [hcn, ht]; simp
          rw [d1]
          clear hcn ht
          go_wp2_with fail
          go_roundw
          case rel => exact ⟨i + 1, by omega, by go_num, by rw [HCN.out], hkr.trans hk3⟩
          case measure => simp [intOf]; omega
      · obtain rfl : i = 256 := by omega
        rw [← hNc.out]
        have c1 := kcell hkr a1
        have hBr := hBW.kept hkr (fun e => e)
        have hD5 : Hid (wr.heap[D]? = some (.deferred (some []))) := (hkr.block D hDl (fun e => e)).trans HD.out
        have hs2 := hkr.size
        have hk0r := hk0W.trans hkr
        clear hBW hkr a0 a1 HD hk0W
        go_wp2_with fail
        have hBd : BoolAt wr.drew (w.heap.size + 1) false := ⟨hBr.c, hBr.f⟩
        have e1 : w.heap.size < wr.heap.size := by omega
        have e2 : w.heap.size + 2 < wr.heap.size := by omega
        have n1 : ¬ w.heap.size = w.heap.size + 1 := by omega
        have n2 : ¬ w.heap.size + 2 = w.heap.size + 1 := by omega
        go_region_held3 (fun w' => Kept (fun k => k = w.heap.size + 1) wr w' ∧ w'.cell? ⟨w.heap.size, 0, none⟩ = some (.int .i64 set) ∧ w'.cell? ⟨w.heap.size + 2, 0, none⟩ = some (.int .i64 (N : Int)))
          (first | exact ⟨(Kept.refl _ wr).drew, c0, c1⟩ | exact ⟨kx, (kx.cell e1 n1).trans c0, (kx.cell e2 n2).trans c1⟩ | exact ⟨kx.trans (Kept.set1 _ _ 0 _), ((kx.trans (Kept.set1 _ _ 0 _)).cell e1 n1).trans c0, ((kx.trans (Kept.set1 _ _ 0 _)).cell e2 n2).trans c1⟩)
          (first
            | (go_at_call 11; refine (of_any set b hb _).mono ?_; rintro e w5 ⟨rfl, hk5⟩; have kx : Kept (fun k => k = w.heap.size + 1) wr w5 := (Kept.refl _ wr).drew.later hk5 (fun _ _ e => e.elim); have hB5 := hBd.kept hk5 (fun e => e))
            | (go_at_call 10; refine (ref_any set b hb _).mono ?_; rintro e w6 ⟨rfl, hk6⟩; have kx : Kept (fun k => k = w.heap.size + 1) wr w6 := kx.later hk6 (fun _ _ e => e.elim); have hB6 := hB5.kept hk6 (fun e => e))
            | (go_at_call 12; refine (awake_any _).mono ?_; rintro e w7 ⟨rfl, hk7⟩; have kx : Kept (fun k => k = w.heap.size + 1) wr w7 := kx.later hk7 (fun _ _ e => e.elim); have hB7 := hB6.kept hk7 (fun e => e); have b1 := hB7.c; have b2 := hB7.f))
        go_wp2_with fail
        have hB8 := (hB7.set true).c
        have hDn : ¬ D = w.heap.size + 1 := by omega
        have hk8 : Kept0 w (w7.setCell ⟨w.heap.size + 1, 0, none⟩ (.bool true)) := (hk0r.later kx (fun i hi e => by omega)).setCell _ (Or.inl (by simp)) _
        have hD8 : (w7.setCell ⟨w.heap.size + 1, 0, none⟩ (.bool true)).heap[D]? = some (.deferred (some [])) :=
          (Below.heap_setCell _ _ _ _ (by simp; omega)).trans ((kx.block D (by omega) hDn).trans hD5.out)
        have hB9 : ((w7.setCell ⟨w.heap.size + 1, 0, none⟩ (.bool true)).putObj D (.deferred none)).cell? ⟨w.heap.size + 1, 0, none⟩ = some (.bool true) :=
          (World.cell?_of_block (World.putObj_heap_other (by simp; omega))).trans hB8
        refine ⟨by simp, .inl ⟨_, _, rfl, run_takeDeferred hD8, ?_⟩⟩
        refine ⟨.bool true, by simp [results, Try.results3, go_sem, hB9], rfl, ?_⟩
        exact (Kept0.below hk8).trans (below_putObj _ (by omega))
  · intro D c k W _ _ h
    exact h.elim

#print axioms ofs_calls
end Go.Proofs.Ytnnhkejflmjnhaa
