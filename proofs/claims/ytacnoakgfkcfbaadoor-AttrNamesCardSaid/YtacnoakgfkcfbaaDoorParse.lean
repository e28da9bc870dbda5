/-
  What Parse answers.
-/
import Derived.Test.YtacnoakgfkcfbaaDoorSeq
import Derived.Test.YtacnoakgfkcfbaaDoorBitsOf
import Derived.Test.YtacnoakgfkcfbaaDoorFive
namespace Go.Proofs.YtacnoakgfkcfbaaDoor
open Go.RowKit

attribute [local go_sem] Oper.semAt_some

/-- What the first k parts tell together. -/
def orUp (ps : List (List UInt8)) (k : Nat) : Nat := orAll (ps.take k)
theorem orUp_next {ps : List (List UInt8)} {k : Nat} (h : k < ps.length) : orUp ps (k + 1) = orUp ps k ||| bitsP (ps.getD k []) := by
  unfold orUp orAll
  rw [List.take_add_one, List.getElem?_eq_getElem h, List.foldl_append, List.getD, List.getElem?_eq_getElem h]
  rfl
theorem orAll_lt (ps : List (List UInt8)) : orAll ps < 16384 := by
  unfold orAll
  have : ∀ (l : List (List UInt8)) (a : Nat), a < 16384 → l.foldl (fun a p => a ||| bitsP p) a < 16384 := by
    intro l
    induction l with
    | nil => intro a h; exact h
    | cons p l ih => intro a h; exact ih _ (Nat.or_lt_two_pow (n := 14) h (bitsP_lt p))
  exact this ps 0 (by omega)
theorem orUp_lt (ps : List (List UInt8)) (k : Nat) : orUp ps k < 16384 := orAll_lt _

/-- Parse: the attributes, and the error. -/
def parseV (s : List UInt8) : Value := if namesOf (parseN s : Int) == s then .tuple #[.int .i64 (parseN s : Int), .int .i64 0] else .tuple #[.int .i64 0, .int .i64 14]

set_option maxRecDepth 100000 in
set_option maxHeartbeats 4000000 in
theorem parse_any (s : ByteArray) (hs : s.size ≤ 1000) (w : World) (hw : WordsAt w) : Calls Tryd.prog 21 #[.string s] w fun e w' => e = .returned (parseV s.data.toList) ∧ Kept0 w w' := by
  obtain ⟨R, hR⟩ : ∃ R, R = parseV s.data.toList := ⟨_, rfl⟩
  rw [← hR]
  have HP : Hid (R = if namesOf (parseN s.data.toList : Int) == s.data.toList then .tuple #[.int .i64 (parseN s.data.toList : Int), .int .i64 0] else .tuple #[.int .i64 0, .int .i64 14]) := by rw [hR]; rfl
  clear hR
  obtain ⟨ps, hps⟩ : ∃ ps, ps = splitP s.data.toList := ⟨_, rfl⟩
  have hN : parseN s.data.toList = orUp ps ps.length := by unfold parseN orUp; rw [List.take_length, hps]
  refine calls_marks Tryd.func21 rfl ?_
  simp only [Tryd.ntmps21, List.size_toArray, List.length_cons, List.length_nil, Nat.reduceAdd, Nat.reduceSub, Array.replicate_succ, Array.replicate_zero, List.push_toArray, List.append_toArray, List.nil_append, List.cons_append]
  go_wp2_with fail
  obtain ⟨w1, hw1⟩ : ∃ w1, w1 = w.alloc (.cells #[.int .i64 0] 3) := ⟨_, rfl⟩
  have hk1 : Kept0 w w1 := by rw [hw1]; exact (Kept.refl _ w).alloc _
  have ha1 : w1.heap[w.heap.size]? = some (.cells #[.int .i64 0] 3 (0, 0)) := by rw [hw1]; exact heap_new w _
  have hs1 : w.heap.size + 1 = w1.heap.size := by rw [hw1]; simp
  rw [← hw1]
  clear hw1
  refine (seq_any s _).mono ?_
  rintro e w9 ⟨rfl, hw9⟩
  have hA : SeqAt w9 w1.heap.size (w1.heap.size + 1) (w1.heap.size + 2) s := by
    rw [hw9]
    refine ⟨?_, ?_, ?_⟩
    · exact (Below.heap_alloc _ _ _ (by simp; omega)).trans ((Below.heap_alloc _ _ _ (by simp)).trans (heap_new w1 _))
    · have : (((w1.alloc (.cells #[.string s] 9)).alloc (.cells #[.string ⟨#[44]⟩] 9)).alloc (.cells #[.int .i64 0] 3)).heap[w1.heap.size + 1]? = some (.cells #[.string ⟨#[44]⟩] 9 (0, 0)) := (Below.heap_alloc _ _ _ (by simp)).trans (heap_new2 w1 _ _)
      simp only [World.cell?, this]; rfl
    · have : (((w1.alloc (.cells #[.string s] 9)).alloc (.cells #[.string ⟨#[44]⟩] 9)).alloc (.cells #[.int .i64 0] 3)).heap[w1.heap.size + 2]? = some (.cells #[.int .i64 0] 3 (0, 0)) := heap_new3 w1 _ _ _
      simp only [World.cell?, this]; rfl
  have hk9 : Kept0 w1 w9 := by rw [hw9]; exact (((Kept.refl _ w1).alloc _).alloc _).alloc _
  have hs9 : w1.heap.size + 3 = w9.heap.size := by rw [hw9]; simp
  clear hw9
  go_wp2_with fail
  have ha9 := (hk9.block _ (Array.getElem?_eq_some_iff.1 ha1).1 (fun e => e)).trans ha1
  have k09 := hk1.trans hk9
  refine wpIn_wide.1 (wp_rangeS (n := 0) (gf := 45) (lb := #[.pointer (some ⟨w1.heap.size + 1, 0, none⟩), .pointer (some ⟨w1.heap.size, 0, none⟩), .pointer (some ⟨w1.heap.size + 2, 0, none⟩)]) rfl (enters_of Tryd.func45 (by kernel_rfl) rfl)
    (seq_iter w1.heap.size (w1.heap.size + 1) (w1.heap.size + 2) (by omega) (by omega) s hs) (fun b hb => by omega) (fun _ => rfl)
    (fun k W => W.heap[w.heap.size]? = some (.cells #[.int .i64 (orUp ps k : Int)] 3 (0, 0)) ∧ Kept0 w W)
    (fun _ _ _ => False)
    ?_ (fun _ _ _ _ h _ => h) (fun W hb => hA.kept (S := fun _ => False) ⟨hb.os, hb.tape, hb.output, hb.size, fun k hk _ => hb.block k hk⟩ (fun e => e) (fun e => e) (fun e => e)) ⟨ha9, k09⟩ ?_ ?_ ?_)
  · rintro k W W' ⟨h1, h2⟩ hk
    have hlt := (Array.getElem?_eq_some_iff.1 h1).1
    exact ⟨(hk.block _ hlt (by omega)).trans h1, h2.later hk (fun i hi e => by omega)⟩
  · rintro l9 k W hl3 hl4 hk ⟨h1, h2⟩
    rw [← hps] at hk
    have hpa : partArgs s.data.toList k = #[.string (str (ps.getD k []))] := by unfold partArgs; rw [← hps]
    rw [hpa]
    have hnx := orUp_next hk
    obtain ⟨pt, hpt⟩ : ∃ pt, pt = str (ps.getD k []) := ⟨_, rfl⟩
    have hpd : pt.data.toList = ps.getD k [] := by rw [hpt]; simp [str]
    have hB := Lib.hid (fun W (hW : Kept0 w W) => bits_any pt W (hw.kept hW))
    rw [hpd] at hB
    rw [← hpt]
    have hlb := bitsP_lt (ps.getD k [])
    have hlo := orUp_lt ps k
    have hor := i64_or (orUp ps k) (bitsP (ps.getD k [])) (by omega) (by omega)
    rw [← hnx] at hor
    obtain ⟨bv, hbv⟩ : ∃ bv, bv = bitsP (ps.getD k []) := ⟨_, rfl⟩
    obtain ⟨ov, hov⟩ : ∃ ov, ov = orUp ps k := ⟨_, rfl⟩
    obtain ⟨nv, hnv⟩ : ∃ nv, nv = orUp ps (k + 1) := ⟨_, rfl⟩
    rw [← hbv] at hB hor
    rw [← hov] at hor h1
    rw [← hnv] at hor
    have HNV := Lib.hid hnv
    clear hbv hov hnv hnx hpt hpd hpa hps hlb hlo hN hk
    gi_wp2_with fail
    refine ⟨Kept.refl _ W, fun W2 hk2 hb2 => ?_⟩
    have hl1 : w.heap.size < w9.heap.size := by omega
    have g1 : W2.heap[w.heap.size]? = some (.cells #[.int .i64 (ov : Int)] 3 (0, 0)) := (hb2.block _ hl1).trans h1
    have k2 : Kept0 w W2 := h2.thenBelow hb2 (by omega)
    have fin : Hid (∀ w3, Kept0 W2 w3 → roundEndS w9.heap.size (fun b => b = w1.heap.size ∨ b = w1.heap.size + 1 ∨ b = w1.heap.size + 2) (fun k W => W.heap[w.heap.size]? = some (.cells #[.int .i64 (orUp ps k : Int)] 3 (0, 0)) ∧ Kept0 w W) (fun _ _ _ => False) k W2 .normal { tmps := #[], defers := [] } (w3.setCell ⟨w.heap.size, 0, none⟩ (.int .i64 (nv : Int)))) := by
      intro w3 hk3
      have g3 := (hk3.block _ (Array.getElem?_eq_some_iff.1 g1).1 (fun e => e)).trans g1
      refine ⟨?_, ?_, ?_⟩
      · exact hk3.to.trans ((Kept.set1 w3 w.heap.size 0 _).mono (fun b _ e => ⟨by omega, by omega⟩))
      · rw [← HNV.out]
        simp [World.setCell, Array.getElem?_modify, g3]
      · exact (k2.trans hk3).setCell _ (Or.inl (by simp)) _
    have c2 : W2.cell? ⟨w.heap.size, 0, none⟩ = some (.int .i64 (ov : Int)) := by simp [World.cell?, g1]
    have f2 : W2.frozen? ⟨w.heap.size, 0, none⟩ = false := by simp [World.frozen?, g1]
    clear g1 h1 h2 hk2 hb2 hl1 HNV
    gi_wp2_with fail
    refine wpIn_region_any (by kernel_rfl) (wpAnyIn_round (by kernel_rfl) (fun ⟨_, _, h⟩ => h) _ _ _ _ ?_)
    have kd : Kept0 W2 { W2 with drawn := W2.drawn + 1 } := (Kept.refl _ W2).drewN 1
    obtain ⟨w2, hw2⟩ : ∃ w2 : World, w2 = { W2 with drawn := W2.drawn + 1 } := ⟨_, rfl⟩
    rw [← hw2] at kd ⊢
    have c3 := kcell kd c2
    have f3 : w2.frozen? ⟨w.heap.size, 0, none⟩ = false := (kd.frozen (World.block_lt_of_cell? _ _ c2) (fun e => e)).trans f2
    have hBw := hB.out w2 (k2.trans kd)
    clear hw2
    refine wpAny_two (fuel := 4) (i := 0) (j := 1) (by kernel_rfl) ?_ ?_
    · refine wpOp_value (w' := w2) rfl (by kernel_rfl) (.int .i64 (ov : Int)) (by go_simp) ?_
      simp only [Act.put]
      refine wpAny_one (i := 1) (by kernel_rfl) ?_
      refine wpOp_value (w' := w2) rfl (by kernel_rfl) (.string pt) (by go_simp) ?_
      simp only [Act.put]
      refine wpAny_one (i := 2) (by kernel_rfl) ?_
      refine wpOp_enter (w' := w2) rfl (by kernel_rfl) 34 #[.string pt] (by go_simp) (.int .i64 (bv : Int)) _ hBw ?_
      intro w3 k3
      replace k3 := kd.trans k3
      have c4 := kcell k3 c2
      have f4 : w3.frozen? ⟨w.heap.size, 0, none⟩ = false := (k3.frozen (World.block_lt_of_cell? _ _ c2) (fun e => e)).trans f2
      simp only [Act.put]
      refine wpAny_one (i := 3) (by kernel_rfl) ?_
      refine wpOp_value (w' := w3) rfl (by kernel_rfl) (.int .i64 (nv : Int)) (by go_simp) ?_
      simp only [Act.put]
      refine wpAny_one (i := 4) (by kernel_rfl) ?_
      refine wpOp_skip (w' := w3.setCell ⟨w.heap.size, 0, none⟩ (.int .i64 (nv : Int))) rfl (by kernel_rfl) (by go_simp) ?_
      exact wpAny_none (by kernel_rfl) (fin.out w3 k3)
    · refine wpOp_value (w' := w2) rfl (by kernel_rfl) (.string pt) (by go_simp) ?_
      simp only [Act.put]
      refine wpAny_two (fuel := 3) (i := 0) (j := 2) (by kernel_rfl) ?_ ?_
      · refine wpOp_value (w' := w2) rfl (by kernel_rfl) (.int .i64 (ov : Int)) (by go_simp) ?_
        simp only [Act.put]
        refine wpAny_one (i := 2) (by kernel_rfl) ?_
        refine wpOp_enter (w' := w2) rfl (by kernel_rfl) 34 #[.string pt] (by go_simp) (.int .i64 (bv : Int)) _ hBw ?_
        intro w3 k3
        replace k3 := kd.trans k3
        have c4 := kcell k3 c2
        have f4 : w3.frozen? ⟨w.heap.size, 0, none⟩ = false := (k3.frozen (World.block_lt_of_cell? _ _ c2) (fun e => e)).trans f2
        simp only [Act.put]
        refine wpAny_one (i := 3) (by kernel_rfl) ?_
        refine wpOp_value (w' := w3) rfl (by kernel_rfl) (.int .i64 (nv : Int)) (by go_simp) ?_
        simp only [Act.put]
        refine wpAny_one (i := 4) (by kernel_rfl) ?_
        refine wpOp_skip (w' := w3.setCell ⟨w.heap.size, 0, none⟩ (.int .i64 (nv : Int))) rfl (by kernel_rfl) (by go_simp) ?_
        exact wpAny_none (by kernel_rfl) (fin.out w3 k3)
      · refine wpOp_enter (w' := w2) rfl (by kernel_rfl) 34 #[.string pt] (by go_simp) (.int .i64 (bv : Int)) _ hBw ?_
        intro w3 k3
        replace k3 := kd.trans k3
        have c4 := kcell k3 c2
        have f4 : w3.frozen? ⟨w.heap.size, 0, none⟩ = false := (k3.frozen (World.block_lt_of_cell? _ _ c2) (fun e => e)).trans f2
        simp only [Act.put]
        refine wpAny_one (i := 0) (by kernel_rfl) ?_
        refine wpOp_value (w' := w3) rfl (by kernel_rfl) (.int .i64 (ov : Int)) (by go_simp) ?_
        simp only [Act.put]
        refine wpAny_one (i := 3) (by kernel_rfl) ?_
        refine wpOp_value (w' := w3) rfl (by kernel_rfl) (.int .i64 (nv : Int)) (by go_simp) ?_
        simp only [Act.put]
        refine wpAny_one (i := 4) (by kernel_rfl) ?_
        refine wpOp_skip (w' := w3.setCell ⟨w.heap.size, 0, none⟩ (.int .i64 (nv : Int))) rfl (by kernel_rfl) (by go_simp) ?_
        exact wpAny_none (by kernel_rfl) (fin.out w3 k3)
  · rintro D W hD ⟨h1, h2⟩ hDc
    rw [← hps, ← hN] at h1
    have HN := Lib.hid (fun W (hW : Kept0 w W) => names_any (parseN s.data.toList : Int) (by omega) (by have := orAll_lt (splitP s.data.toList); unfold parseN; omega) W (hw.kept hW))
    have c1 : W.cell? ⟨w.heap.size, 0, none⟩ = some (.int .i64 (parseN s.data.toList : Int)) := by simp [World.cell?, h1]
    have HD := Lib.hid hDc
    have hte : ((str (namesOf (parseN s.data.toList : Int))).toList == s.toList) = (namesOf (parseN s.data.toList : Int) == s.data.toList) := by
      rw [Lib.toList_data, Lib.toList_data]; rfl
    obtain ⟨v, hv⟩ : ∃ v, v = parseN s.data.toList := ⟨_, rfl⟩
    obtain ⟨S, hS⟩ : ∃ S, S = str (namesOf (v : Int)) := ⟨_, rfl⟩
    rw [← hv] at c1 HP HN hte
    rw [← hS] at HN hte
    clear hDc h1 hv hS hN hps
    cases ht : (namesOf (v : Int) == s.data.toList)
    · rw [ht] at hte HP
      go_wp2_with fail
      refine (HN.out _ h2).mono ?_
      rintro e W3 ⟨rfl, hk3⟩
      go_wp2_with fail
      have hD3 := (hk3.block D (Array.getElem?_eq_some_iff.1 HD.out).1 (fun e => e)).trans HD.out
      refine ⟨by simp, .inl ⟨_, _, rfl, run_takeDeferred hD3, ?_⟩⟩
      refine ⟨.tuple #[.int .i64 0, .int .i64 14], by simp [results, Tryd.results21, go_sem], by rw [HP.out]; rfl, ?_⟩
      exact (h2.trans hk3).thenBelow (below_putObj _ hD) (by omega)
    · rw [ht] at hte HP
      have hA2 := Array.getElem?_eq_some_iff.1 HD.out
      go_wp2_with fail
      refine (HN.out _ h2).mono ?_
      rintro e W3 ⟨rfl, hk3⟩
      have c3 := kcell hk3 c1
      go_wp2_with fail
      have hD3 := (hk3.block D hA2.1 (fun e => e)).trans HD.out
      refine ⟨by simp, .inl ⟨_, _, rfl, run_takeDeferred hD3, ?_⟩⟩
      refine ⟨.tuple #[.int .i64 (v : Int), .int .i64 0], by simp [results, Tryd.results21, go_sem], by rw [HP.out]; rfl, ?_⟩
      exact (h2.trans hk3).thenBelow (below_putObj _ hD) (by omega)
  · rintro D c k W hD hk h
    exact h.elim
#print axioms parse_any
end Go.Proofs.YtacnoakgfkcfbaaDoor
