/-
  Ahead, and the document's Next.
-/
import Derived.Test.YtkdnjkcebfckiaaNear
namespace Go.Proofs.Ytkdnjkcebfckiaa
open Go.RowKit

set_option maxHeartbeats 1000000 in
theorem ahead_plain (R C r c : Int) (w : World) :
    Calls Try.prog 31 #[pos R C, place r c false] w fun e w' => e = .returned (.tuple #[pos (nearR R C r) (nearC R C c), .bool false]) ∧ Kept0 w w' := by
  go_enter Try.func31, Try.ntmps31
  go_wp2_with fail
  refine (near_any _ _ _ _ _).mono ?_
  rintro e w1 ⟨rfl, hk1⟩
  have hs : Three w1 (w.heap.size + 1) r c false := (Three.of (heap_old _ _ (heap_new2 _ _ _))).kept0 hk1
  have ho : Two w1 (w.heap.size + 1 + 1) 0 0 := (Two.of (heap_newC _ _ _ _)).kept0 hk1
  have hk : Kept0 w w1 := ((((Kept.refl _ w).alloc _).alloc _).alloc _).trans hk1
  have hl := hs.lt
  have hl2 := ho.lt
  clear hk1
  obtain ⟨s0, s1, s2, s3, s4, s5⟩ := hs
  obtain ⟨o0, o1, o2, o3⟩ := ho
  go_wp2_with fail
  exact bodyPost_ret (v := .tuple #[pos (nearR R C r) (nearC R C c), .bool false]) (by simp [results, Try.results31, go_sem, *]) rfl ⟨rfl, ((hk.setCell _ (Or.inl (Nat.le_add_right _ 2)) _).setCell _ (Or.inl (Nat.le_add_right _ 2)) _).alloc _⟩

set_option maxHeartbeats 1000000 in
theorem ahead_pend (R C r c : Int) (hm : may R C) (w : World) :
    Calls Try.prog 31 #[pos R C, place r c true] w fun e w' => e = .returned (.tuple #[pos (nextR R (nr r R)) 0, .bool (nr r R == R - 1)]) ∧ Kept0 w w' := by
  have g1 : nearR R C r = nr r R := if_pos hm
  have g2 : nearC R C c = nr c C := if_pos hm
  have hq := mayEyes hm
  have e1 : IntKind.i64.wrap (nr r R + 1) = nr r R + 1 := IntWalk.i64_in _ (by have := nr_lo r R; have := nr_hi r R hm.1; have := hm.2.1; constructor <;> omega)
  have e2 : IntKind.i64.wrap (R - 1) = R - 1 := IntWalk.i64_in _ (by have := hm.1; have := hm.2.1; constructor <;> omega)
  have HQ := Lib.hid hq
  have HG1 := Lib.hid g1
  have HG2 := Lib.hid g2
  clear hq g1 g2 hm
  go_enter Try.func31, Try.ntmps31
  go_wp2_with fail
  refine (near_any _ _ _ _ _).mono ?_
  rintro e w1 ⟨rfl, hk1⟩
  rw [HG1.out, HG2.out]
  have hs0 : Two w1 w.heap.size R C := (Two.of (heap_old _ _ (heap_old _ _ (heap_new _ _)))).kept0 hk1
  have hs : Three w1 (w.heap.size + 1) r c true := (Three.of (heap_old _ _ (heap_new2 _ _ _))).kept0 hk1
  have ho : Two w1 (w.heap.size + 1 + 1) 0 0 := (Two.of (heap_newC _ _ _ _)).kept0 hk1
  have hk : Kept0 w w1 := ((((Kept.refl _ w).alloc _).alloc _).alloc _).trans hk1
  have hl := hs.lt
  have hl2 := ho.lt
  have hl3 := hs0.lt
  clear hk1
  obtain ⟨r0, r1, r2, r3⟩ := hs0
  obtain ⟨s0, s1, s2, s3, s4, s5⟩ := hs
  go_wp2_with fail
  refine (may_any _ _ _).mono ?_
  rintro e w2 ⟨rfl, hk2⟩
  rw [HQ.out]
  have hat : Two w2 w1.heap.size (nr r R) (nr c C) := (Two.of (heap_new _ _)).kept0 hk2
  have ka := ((Kept.refl (fun _ => False) w1).alloc _).trans hk2
  have hs0 : Two w2 w.heap.size R C := Two.kept0 ⟨r0, r1, r2, r3⟩ ka
  have ho := ho.kept0 ka
  have hk := hk.trans ka
  generalize w1.heap.size = at0 at *
  clear r0 r1 r2 r3 s0 s1 s2 s3 s4 s5 ka hk2
  obtain ⟨r0, r1, r2, r3⟩ := hs0
  obtain ⟨t0, t1, t2, t3⟩ := hat
  obtain ⟨o0, o1, o2, o3⟩ := ho
  go_wp2_with fail
  have n1 : ¬ (at0 = w.heap.size + 1 + 1) := by omega
  have n2 : ¬ (w.heap.size + 1 + 1 = at0) := by omega
  go_region_held3 (fun w' => w'.cell? ⟨at0, 0, none⟩ = some (.int .i64 (nr r R))) (go_keep) (fail)
  rw [show (if R - 1 < nr r R + 1 then R - 1 else nr r R + 1) = nextR R (nr r R) from rfl]
  go_wp2_with fail
  exact bodyPost_ret (v := .tuple #[pos (nextR R (nr r R)) 0, .bool (nr r R == R - 1)]) (by simp [results, Try.results31, go_sem, *]) rfl ⟨rfl, ((hk.setCell _ (Or.inl (Nat.le_add_right _ 2)) _).setCell _ (Or.inl (Nat.le_add_right _ 2)) _).drew⟩

set_option maxHeartbeats 1000000 in
/-- Of a size that may not be. -/
theorem ahead_no (R C r c : Int) (v : Bool) (hm : ¬ may R C) (w : World) :
    Calls Try.prog 31 #[pos R C, place r c v] w fun e w' => e = .returned (.tuple #[pos 0 0, .bool false]) ∧ Kept0 w w' := by
  have g1 : nearR R C r = 0 := if_neg hm
  have g2 : nearC R C c = 0 := if_neg hm
  cases v
  · refine (ahead_plain R C r c w).mono ?_
    rw [g1, g2]
    exact fun _ _ h => h
  · have HQ := Lib.hid (mayEno hm)
    clear hm
    go_enter Try.func31, Try.ntmps31
    go_wp2_with fail
    refine (near_any _ _ _ _ _).mono ?_
    rintro e w1 ⟨rfl, hk1⟩
    rw [g1, g2]
    have hs0 : Two w1 w.heap.size R C := (Two.of (heap_old _ _ (heap_old _ _ (heap_new _ _)))).kept0 hk1
    have hs : Three w1 (w.heap.size + 1) r c true := (Three.of (heap_old _ _ (heap_new2 _ _ _))).kept0 hk1
    have ho : Two w1 (w.heap.size + 1 + 1) 0 0 := (Two.of (heap_newC _ _ _ _)).kept0 hk1
    have hk : Kept0 w w1 := ((((Kept.refl _ w).alloc _).alloc _).alloc _).trans hk1
    have hl := hs.lt
    have hl2 := ho.lt
    have hl3 := hs0.lt
    clear hk1
    obtain ⟨r0, r1, r2, r3⟩ := hs0
    obtain ⟨s0, s1, s2, s3, s4, s5⟩ := hs
    go_wp2_with fail
    refine (may_any _ _ _).mono ?_
    rintro e w2 ⟨rfl, hk2⟩
    rw [HQ.out]
    have hat : Two w2 w1.heap.size 0 0 := (Two.of (heap_new _ _)).kept0 hk2
    have ka := ((Kept.refl (fun _ => False) w1).alloc _).trans hk2
    have ho := ho.kept0 ka
    have hk := hk.trans ka
    generalize w1.heap.size = at0 at *
    clear r0 r1 r2 r3 s0 s1 s2 s3 s4 s5 ka hk2
    obtain ⟨t0, t1, t2, t3⟩ := hat
    obtain ⟨o0, o1, o2, o3⟩ := ho
    go_wp2_with fail
    exact bodyPost_ret (v := .tuple #[pos 0 0, .bool false]) (by simp [results, Try.results31, go_sem, *]) rfl ⟨rfl, (hk.setCell _ (Or.inl (Nat.le_add_right _ 2)) _).setCell _ (Or.inl (Nat.le_add_right _ 2)) _⟩

set_option maxHeartbeats 1000000 in
theorem refNext_any (R C r c : Int) (h0 : 1 ≤ R) (h1 : R ≤ 255) (h2 : 0 ≤ r) (h3 : r < R) (w : World) :
    Calls Try.prog 40 #[pos R C, pos r c] w fun e w' => e = .returned (.tuple #[pos (nextR R r) 0, .bool (r == R - 1)]) ∧ Kept0 w w' := by
  by_cases h : r = R - 1
  · have hn : nextR R r = r := by unfold nextR; split <;> omega
    have hb : (r == R - 1) = true := by simpa using h
    rw [hn, hb]
    clear h hn
    go_enter Try.func40, Try.ntmps40
    go_wp2_with fail
    exact bodyPost_ret (v := .tuple #[pos r 0, .bool true]) (by simp [results, Try.results40, go_sem]) rfl ⟨rfl, (((Kept.refl _ w).alloc _).alloc _).alloc _⟩
  · have hn : nextR R r = r + 1 := by unfold nextR; split <;> omega
    have hb : (r == R - 1) = false := by simpa using h
    rw [hn, hb]
    clear h hn
    go_enter Try.func40, Try.ntmps40
    go_wp2_with fail
    exact bodyPost_ret (v := .tuple #[pos (r + 1) 0, .bool false]) (by simp [results, Try.results40, go_sem]) rfl ⟨rfl, (((Kept.refl _ w).alloc _).alloc _).alloc _⟩

end Go.Proofs.Ytkdnjkcebfckiaa
