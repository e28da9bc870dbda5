/-
  The document's terminal: wipe and scroll.
-/
import Derived.Test.YtlhajbcabpfbkaaGreatDoorVtV
import Derived.Test.YtlhajbcabpfbkaaGreatDoorGlRef
import Derived.Laws.MakeOwn
namespace Go.Proofs.YtlhajbcabpfbkaaGreatDoor
open Go.RowKit
attribute [local go_sem] Oper.semAt_some

theorem Tryz.infoRune : (Tryz.prog.info? 21).map (fun i => (i.zero, i.size, i.bytes)) = some (some (.int .i32 0), 1, 4) := by kernel_rfl
theorem made_runes (w : World) (n : Nat) : RunesAt (w.alloc (.cells (madeCells #[Value.int .i32 0] n) 21)) w.heap.size n (fun _ => 0) := by
  obtain ⟨c, h1, h2, h3⟩ := World.rowIs_made w (.int .i32 0) n 21
  exact ⟨c, h1, fun k hk => h3 k hk⟩

theorem RunesAt.kept0 {w w' : World} {t N : Nat} {f : Nat → Int} (h : RunesAt w t N f) (k : Kept0 w w') : RunesAt w' t N f := h.kept k (fun e => e)
namespace RefIn
variable {w : World} {x lb n : Nat} {v : Vt}
theorem nle (h : RefIn w x lb n v) : n ≤ 65025 := by
  rw [h.size]
  exact Nat.mul_le_mul h.R2 h.C2
end RefIn

set_option maxRecDepth 100000 in
set_option maxHeartbeats 1000000 in
theorem rwipe_any {w : World} {x lb n : Nat} {v : Vt} (h : RefIn w x lb n v) (p Q : Nat) (hp : p ≤ Q) (hQ : Q ≤ n) : Calls Tryz.prog 66 #[ptr x, .int .i64 (p : Int), .int .i64 ((Q : Int) - 1)] w fun e w' => e = .returned (.tuple #[]) ∧ RefIn w' x lb n { v with z := { v.z with F := fun k => if p ≤ k ∧ k < Q then blk else v.z.F k } } ∧ Kept (· = lb) w w' := by
  have hn := h.nle
  have hb : blk.g = 32 := rfl
  have HB := Lib.hid hb
  have H := Lib.hid h
  clear h hb
  go_enter Tryz.func66, Tryz.ntmps66
  go_wp2_with fail
  go_loopw [6] (fun s6 wr => ∃ i : Nat, p ≤ i ∧ i ≤ Q ∧ s6 = .int .i64 (i : Int) ∧ Hid (RunesAt wr lb n (fun k => if p ≤ k ∧ k < i then 32 else (v.z.F k).g)) ∧ Hid (Kept (· = lb) w wr)) (fun s6 _ => Q - (Qu.num s6).toNat)
  case atStart => exact ⟨p, Nat.le_refl _, hp, rfl, H.out.row.congr (fun k _ => by rw [if_neg (by omega)]), Kept.refl _ _⟩
  case round =>
    obtain ⟨i, hi1, hi2, rfl, hr, kr⟩ := hrel
    by_cases hlt : i < Q
    · have hlt' : (i : Int) ≤ (Q : Int) - 1 := by omega
      have hX : w.heap[x]? = some (.cells (headR lb n v) 41 (0, 0)) := H.out.head
      have c2 : wr.cell? ⟨x, 2, none⟩ = some (.slice (some ⟨lb, 0, none⟩) n n) := kcellS kr.out H.out.cL H.out.ne
      have hin : i < n := Nat.lt_of_lt_of_le hlt hQ
      have c3 := hr.out.cell hin
      have f3 := hr.out.frozen i
      have h9 : Hid (RunesAt (wr.setCell ⟨lb, i, none⟩ (.int .i32 32)) lb n (fun k => if p ≤ k ∧ k < i + 1 then 32 else (v.z.F k).g)) := (hr.out.set i 32).congr (fun k _ => by
        unfold updI
        by_cases e : k = i
        · rw [if_pos e, if_pos (by omega)]
        · rw [if_neg e]
          show (if p ≤ k ∧ k < i then (32 : Int) else (v.z.F k).g) = _
          by_cases e2 : p ≤ k ∧ k < i
          · rw [if_pos e2, if_pos (by omega)]
          · rw [if_neg e2, if_neg (by omega)])
      have k9 : Hid (Kept (· = lb) w (wr.setCell ⟨lb, i, none⟩ (.int .i32 32))) := kr.out.trans (Kept.set1 _ _ _ _)
      clear hX hr kr
      go_wp2_with fail
      go_roundw
      case rel => exact ⟨i + 1, Nat.le_succ_of_le hi1, hlt, by go_num, h9, k9⟩
      case measure => simp [Qu.num]; omega
    · have hiQ : i = Q := by omega
      subst hiQ
      have hlt' : ¬ (i : Int) ≤ (i : Int) - 1 := by omega
      go_wp2_with fail
      go_end0
      exact ⟨rfl, H.out.onRow kr.out (hr.out.congr (fun k _ => by
        by_cases e : p ≤ k ∧ k < i
        · rw [if_pos e, if_pos e, HB.out]
        · rw [if_neg e, if_neg e])), kr.out⟩

/-- One glyph of a new row is laid. -/
theorem row_step {w : World} {t N k : Nat} {G : Nat → Int} (hr : RunesAt w t N (fun i => if i < k then G i else 0)) {y : Int} (hy : G k = y) : RunesAt (w.setCell ⟨t, k, none⟩ (.int .i32 y)) t N (fun i => if i < k + 1 then G i else 0) :=
  (hr.set k y).congr (fun i _ => by
    unfold updI
    by_cases e : i = k
    · subst e; rw [if_pos rfl, if_pos (by omega), hy]
    · rw [if_neg e]
      show (if i < k then G i else 0) = _
      by_cases e2 : i < k
      · rw [if_pos e2, if_pos (by omega)]
      · rw [if_neg e2, if_neg (by omega)])
theorem row_step2 {w : World} {t N k : Nat} {G : Nat → Int} (hr : RunesAt w t N (fun i => if i < k then G i else 0)) {x y : Int} (hy : G k = y) : RunesAt ((w.setCell ⟨t, k, none⟩ (.int .i32 x)).setCell ⟨t, k, none⟩ (.int .i32 y)) t N (fun i => if i < k + 1 then G i else 0) :=
  ((hr.set k x).set k y).congr (fun i _ => by
    unfold updI
    by_cases e : i = k
    · subst e; rw [if_pos rfl, if_pos (by omega), hy]
    · rw [if_neg e, if_neg e]
      show (if i < k then G i else 0) = _
      by_cases e2 : i < k
      · rw [if_pos e2, if_pos (by omega)]
      · rw [if_neg e2, if_neg (by omega)])
theorem blk_g : blk.g = 32 := rfl

set_option maxRecDepth 100000 in
set_option maxHeartbeats 2000000 in
theorem rscroll_any {w : World} {x lb n : Nat} {v : Vt} (h : RefIn w x lb n v) (up : Bool) : Calls Tryz.prog 65 #[ptr x, .bool up] w fun e w' => e = .returned (.tuple #[]) ∧ RefIn w' x w.heap.size n { v with z := { v.z with F := upF v.z.R v.z.C v.z.F (if up then 1 else -1) blk } } ∧ Kept (· = x) w w' := by
  have hn := h.nle
  have hC2 := h.C2
  have hsz := Lib.hid h.size
  have hb : blk.g = 32 := rfl
  have HB := Lib.hid hb
  clear hb
  have H := Lib.hid h
  have hlx : x < w.heap.size := h.lt
  have hlb : lb < w.heap.size := h.row.lt
  have c2 := h.cL
  have hmk := run_make_row' (P := Tryz.prog) 39 21 (.int .i32 0) 4 Tryz.underlying39 Tryz.infoRune rfl .i64 .i64 n (by omega) (by omega)
  clear h
  go_enter Tryz.func65, Tryz.ntmps65
  go_wp2_with fail
  have m1 := made_runes w n
  obtain ⟨w1, hw1⟩ : ∃ w1, w1 = w.alloc (.cells (madeCells #[Value.int .i32 0] n) 21) := ⟨_, rfl⟩
  have k1 : Kept0 w w1 := by rw [hw1]; exact (Kept.refl _ w).alloc _
  rw [← hw1] at m1
  obtain ⟨ob, hob⟩ : ∃ ob, ob = w.heap.size := ⟨_, rfl⟩
  rw [← hob] at m1 hlx hlb ⊢
  have HOB := Lib.hid hob
  have hne1 : ¬ lb = ob := by omega
  have hne2 : ¬ ob = lb := by omega
  have hne3 : ¬ x = ob := by omega
  have HK1 := Lib.hid k1
  have M1 := Lib.hid m1
  have c1 := H.out.cC
  replace c1 := kcell k1 c1
  replace c2 := kcell k1 c2
  have hrow1 : Hid (RunesAt w1 lb n (fun i => (v.z.F i).g)) := H.out.row.kept0 k1
  rw [← hw1]
  clear hmk k1 m1 hw1 hob hlx hlb
  go_wp2_with fail
  go_loopw [5, 6] (fun s5 s6 wr => ∃ k : Nat, k ≤ n ∧ s5 = .int .i64 (k : Int) ∧ Hid (RunesAt wr ob n (fun i => if i < k then (upF v.z.R v.z.C v.z.F (if up then 1 else -1) blk i).g else 0)) ∧ Hid (Kept (· = ob) w1 wr)) (fun s5 _ _ => n - (Qu.num s5).toNat)
  case atStart => exact ⟨0, Nat.zero_le _, rfl, M1.out.congr (fun k _ => by rw [if_neg (by omega)]), Kept.refl _ _⟩
  case round =>
    obtain ⟨k, hk, rfl, hr, kr⟩ := hrel
    replace c1 := kcellS kr.out c1 hne3
    replace c2 := kcellS kr.out c2 hne3
    by_cases hlt : k < n
    · have hlt' : (k : Int) < (n : Int) := by omega
      have c3 := hr.out.cell hlt
      have f3 := hr.out.frozen k
      have kn : Kept (· = ob) w1 (wr.setCell ⟨ob, k, none⟩ (.int .i32 32)) := kr.out.trans (Kept.set1 _ _ _ _)
      have k32 := Lib.hid kn
      have k33 : ∀ g : Int, Hid (Kept (· = ob) w1 ((wr.setCell ⟨ob, k, none⟩ (.int .i32 32)).setCell ⟨ob, k, none⟩ (.int .i32 g))) := fun g => kn.trans (Kept.set1 _ _ _ _)
      have K33 := Lib.hid k33
      have HR := Lib.hid hr.out
      have hkn : k < v.z.R * v.z.C := hsz.out ▸ hlt
      have HKN := Lib.hid hkn
      clear kn k33 hkn
      have hk16 : (k : Int) < 65025 := by omega
      have hC' : (v.z.C : Int) ≤ 255 := by omega
      have w1' : IntKind.i64.wrap ((k : Int) - v.z.C) = (k : Int) - v.z.C := by rw [IntKind.wrap_i64]; omega
      have w2' : IntKind.i64.wrap ((k : Int) + v.z.C) = (k : Int) + v.z.C := by rw [IntKind.wrap_i64]; omega
      have w3' : IntKind.i64.wrap ((k : Int) + 1) = (k : Int) + 1 := by rw [IntKind.wrap_i64]; omega
      cases up with
      | true =>
        by_cases hf : k + v.z.C < n
        · have d1 : (0 : Int) ≤ (k : Int) + v.z.C := by omega
          have d2 : (k : Int) + v.z.C < (n : Int) := by omega
          have c4 := (hrow1.out.kept kr.out hne1).cell hf
          have hG : Hid ((upF v.z.R v.z.C v.z.F 1 blk k).g = (v.z.F (k + v.z.C)).g) := by
            show (upF v.z.R v.z.C v.z.F 1 blk k).g = (v.z.F (k + v.z.C)).g
            rw [up_one k HKN.out, if_pos (hsz.out ▸ hf)]
          go_wp2_with fail
          go_roundw
          case rel => exact ⟨k + 1, hlt, by go_num, row_step2 HR.out hG.out, K33.out _⟩
          case measure => simp [Qu.num]; omega
        · have d1 : (0 : Int) ≤ (k : Int) + v.z.C := by omega
          have d2 : ¬ (k : Int) + v.z.C < (n : Int) := by omega
          have hG : Hid ((upF v.z.R v.z.C v.z.F 1 blk k).g = 32) := by
            show (upF v.z.R v.z.C v.z.F 1 blk k).g = 32
            rw [up_one k HKN.out, if_neg (hsz.out ▸ hf), blk_g]
          go_wp2_with fail
          go_roundw
          case rel => exact ⟨k + 1, hlt, by go_num, row_step HR.out hG.out, k32.out⟩
          case measure => simp [Qu.num]; omega
      | false =>
        by_cases hf : v.z.C ≤ k
        · have d1 : (0 : Int) ≤ (k : Int) - v.z.C := by omega
          have d2 : (k : Int) - v.z.C < (n : Int) := by omega
          have d3 : ((k : Int) - v.z.C).toNat = k - v.z.C := by omega
          have c4 := (hrow1.out.kept kr.out hne1).cell (show k - v.z.C < n by omega)
          have hG : Hid ((upF v.z.R v.z.C v.z.F (-1) blk k).g = (v.z.F (k - v.z.C)).g) := by
            show (upF v.z.R v.z.C v.z.F (-1) blk k).g = (v.z.F (k - v.z.C)).g
            rw [up_back k HKN.out, if_pos hf]
          go_wp2_with fail
          go_roundw
          case rel => exact ⟨k + 1, hlt, by go_num, row_step2 HR.out hG.out, K33.out _⟩
          case measure => simp [Qu.num]; omega
        · have d1 : ¬ (0 : Int) ≤ (k : Int) - v.z.C := by omega
          have hG : Hid ((upF v.z.R v.z.C v.z.F (-1) blk k).g = 32) := by
            show (upF v.z.R v.z.C v.z.F (-1) blk k).g = 32
            rw [up_back k HKN.out, if_neg hf, blk_g]
          go_wp2_with fail
          go_roundw
          case rel => exact ⟨k + 1, hlt, by go_num, row_step HR.out hG.out, k32.out⟩
          case measure => simp [Qu.num]; omega
    · have hkn : k = n := by omega
      have hlt' : ¬ (k : Int) < (n : Int) := by omega
      subst hkn
      have hX : Hid (RefIn wr x lb k v) := (H.out.kept0 HK1.out).kept kr.out hne3 hne1
      have hlx := hX.out.lt
      have fx := hX.out.fz 2
      have HQ : Hid (RefIn (wr.setCell ⟨x, 2, none⟩ (.slice (some ⟨ob, 0, none⟩) k k)) x ob k { v with z := { v.z with F := upF v.z.R v.z.C v.z.F (if up then 1 else -1) blk } }) := hX.out.newRow (hr.out.congr (fun i hi => by rw [if_pos hi])) hne3
      have KQ : Hid (Kept (· = x) w (wr.setCell ⟨x, 2, none⟩ (.slice (some ⟨ob, 0, none⟩) k k))) := (Kept0.to (HK1.out.later kr.out (fun i hi e => by have := HOB.out; omega))).trans (Kept.set1 _ _ _ _)
      clear hr kr hsz
      cases up
      all_goals
        go_wp2_with fail
        go_end0
        rw [← HOB.out]
        exact ⟨rfl, HQ.out, KQ.out⟩

end Go.Proofs.YtlhajbcabpfbkaaGreatDoor
