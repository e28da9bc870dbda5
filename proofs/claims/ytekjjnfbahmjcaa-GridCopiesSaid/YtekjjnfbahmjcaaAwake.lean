/-
  The example of the chapter: awake answers true.
-/
import Derived.Test.YtekjjnfbahmjcaaRowsC
namespace Go.Proofs.Ytekjjnfbahmjcaa
open Go.RowKit

theorem new_int (r c x : Int) (w : World) (h : 1 ≤ r ∧ r ≤ 255 ∧ 1 ≤ c ∧ c ≤ 255) :
    Calls Try.prog 13 #[.agg #[.int .i64 r, .int .i64 c], .int .i64 x] w fun e w' => ∃ g t, e = .returned (.tuple #[.pointer (some ⟨g, 0, none⟩), .int .i64 0]) ∧ w.heap.size ≤ g ∧ w.heap.size ≤ t ∧ GridAt w' g t (r.toNat * c.toNat) r.toNat c.toNat (fun _ => x) ∧ Kept0 w w' := by
  have := new_yes r.toNat c.toNat x w (by omega) (by omega) (by omega) (by omega)
  rwa [Int.toNat_of_nonneg (by omega), Int.toNat_of_nonneg (by omega)] at this

def three (a b c : Int) : Nat → Int := fun k => if k = 0 then a else if k = 1 then b else c
theorem lit3 (w : World) (a b c : Int) : IntsAt (w.alloc (.cells #[.int .i64 a, .int .i64 b, .int .i64 c] 3)) w.heap.size 3 (three a b c) :=
  ⟨_, heap_new w _, fun k hk => by
    match k, hk with
    | 0, _ => rfl
    | 1, _ => rfl
    | 2, _ => rfl⟩

set_option maxHeartbeats 1000000 in
theorem awake_any (w : World) : Calls Try.prog 12 #[] w fun e w' => e = .returned (.bool true) ∧ Kept0 w w' := by
  go_enter Try.func12, Try.ntmps12
  go_wp2_with fail
  refine (new_int _ _ _ _ (by omega)).mono ?_
  rintro e w1 ⟨g, t, rfl, hg1, ht1, hG, hk1⟩
  change GridAt w1 g t 3 1 3 (fun _ => 0) at hG
  go_wp2_with fail
  go_loopw [3] (fun i wr => ∃ k : Nat, k ≤ 3 ∧ i = .int .i64 k ∧ GridAt wr g t 3 1 3 (fun j => if j < k then (j : Int) + 1 else 0) ∧ Kept0 w wr) (fun i _ => 3 - (intOf i).toNat)
  case atStart => exact ⟨0, by omega, rfl, hG.congr (fun k _ => by simp), hk1⟩
  case round =>
    obtain ⟨k, hk, rfl, hGr, hkr⟩ := hrel
    clear hG hk1
    by_cases hlt : k < 3
    · go_wp2_with fail
      refine (set_in g t 3 1 3 _ _ _ _ _ hGr ?_).mono ?_
      · exact ⟨by omega, by omega, by omega, by omega⟩
      rintro e w2 ⟨rfl, hG2, hk2⟩
      go_wp2_with fail
      go_roundw
      case rel =>
        refine ⟨k + 1, by omega, by go_num, hG2.congr (fun j _ => ?_), hkr.later hk2 (fun i hi e => by omega)⟩
        simp only [upd, idx]
        grind
      case measure => simp [intOf]; omega
    · obtain rfl : k = 3 := by omega
      go_wp2_with fail
      have hidx : idx 3 0 0 = 0 ∧ idx 3 0 2 = 2 := by decide
      refine (slide_in g t 3 1 3 _ _ _ _ _ _ _ hGr ?_ ?_ (by decide)).mono ?_
      · exact ⟨by omega, by omega, by omega, by omega⟩
      · exact ⟨by omega, by omega, by omega, by omega⟩
      generalize hF : moveF (fun j => if j < 3 then (j : Int) + 1 else 0) (idx 3 0 0) (idx 3 0 2 + 1 - idx 3 0 0) (bnd 1 ((idx 3 0 2 + 1 - idx 3 0 0 : Nat) : Int)) 9 = F
      have hF0 : F 0 = 2 ∧ F 1 = 3 ∧ F 2 = 9 := by rw [← hF]; decide
      have HF := Lib.hid hF0
      clear hF hF0 hidx
      rintro e w2 ⟨rfl, hG2, hk2⟩
      have kk2 : Kept0 w w2 := hkr.later hk2 (fun i hi e => by omega)
      clear hGr hkr hk2
      go_wp2_with fail
      refine (rows_any g t 3 1 3 F _ hG2).mono ?_
      rintro e w3 ⟨l3, rfl, hl3, hR3, hk3⟩
      obtain ⟨t3, cap3, r31, r32, r33, r34⟩ := hR3.len 0 (by omega)
      have hG3 := hG2.kept hk3 (fun e => e) (fun e => e)
      have kk3 := kk2.trans hk3
      have hs2 := kk2.size
      have hgl := hG2.lt
      have htl := hG2.row.lt
      clear hR3 hG2 kk2
      go_wp2_with fail
      refine (slide_in g t 3 1 3 _ _ _ _ _ _ _ hG3 ?_ ?_ (by decide)).mono ?_
      · exact ⟨by omega, by omega, by omega, by omega⟩
      · exact ⟨by omega, by omega, by omega, by omega⟩
      generalize hF' : moveF F (idx 3 0 0) (idx 3 0 2 + 1 - idx 3 0 0) (bnd (-2) ((idx 3 0 2 + 1 - idx 3 0 0 : Nat) : Int)) 7 = F'
      have hF0' : F' 0 = 7 ∧ F' 1 = 7 ∧ F' 2 = 2 := by
        rw [← hF']
        refine ⟨rfl, rfl, ?_⟩
        show F 0 = 2
        exact HF.out.1
      have HF' := Lib.hid hF0'
      clear hF' hF0'
      rintro e w4 ⟨rfl, hG4, hk4⟩
      have kk4 : Kept0 w w4 := kk3.later hk4 (fun i hi e => by omega)
      have r41 : w4.cell? ⟨l3, 0, none⟩ = _ := (hk4.cell (World.block_lt_of_cell? _ _ r31) (show ¬ l3 = t by omega)).trans r31
      have r44 : IntsAt w4 t3 3 _ := r34.kept hk4 (by omega)
      clear r31 r34 hG3 hk3 kk3 hk4
      go_wp2_with fail
      refine (rows_any g t 3 1 3 F' _ hG4).mono ?_
      rintro e w5 ⟨l5, rfl, hl5, hR5, hk5⟩
      obtain ⟨t5, cap5, r51, r52, r53, r54⟩ := hR5.len 0 (by omega)
      have r61 := kcell hk5 r41
      have r64 := r44.kept hk5 (fun e => e)
      have kk5 := kk4.trans hk5
      clear r41 r44 hR5 hG4 kk4 hk5
      go_wp2_with fail
      refine (ints_eq _ _ _ _ _ _ _ 3 3 _ _ _ (r64.alloc _) (lit3 w5 2 3 9) (by omega) (by omega) (by omega) ?_).mono ?_
      · intro k hk
        obtain ⟨q0, q1, q2⟩ := HF.out
        match k, hk with
        | 0, _ => exact q0
        | 1, _ => exact q1
        | 2, _ => exact q2
      rintro e w6 ⟨rfl, hk6⟩
      have k56 : Kept0 w5 w6 := ((Kept.refl _ w5).alloc _).later hk6 (fun _ _ e => e)
      have r71 := kcell k56 r51
      have r74 := r54.kept k56 (fun e => e)
      have kk6 := kk5.trans k56
      clear r51 r54 k56 hk6 kk5
      go_wp2_with fail
      refine (ints_eq _ _ _ _ _ _ _ 3 3 _ _ _ (r74.alloc _) (lit3 w6 7 7 2) (by omega) (by omega) (by omega) ?_).mono ?_
      · intro k hk
        obtain ⟨q0, q1, q2⟩ := HF'.out
        match k, hk with
        | 0, _ => exact q0
        | 1, _ => exact q1
        | 2, _ => exact q2
      rintro e w7 ⟨rfl, hk7⟩
      go_wp2
      go_ret
      exact ⟨rfl, (kk6.alloc _).later hk7 (fun _ _ e => e)⟩
end Go.Proofs.Ytekjjnfbahmjcaa
