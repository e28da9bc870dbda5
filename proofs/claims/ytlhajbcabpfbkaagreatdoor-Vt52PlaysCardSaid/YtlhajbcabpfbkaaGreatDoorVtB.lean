/-
  The builds of vt52's tables, and the things that a byte may do as function values.
-/
import Derived.Test.YtlhajbcabpfbkaaGreatDoorVtT
namespace Go.Proofs.YtlhajbcabpfbkaaGreatDoor
open Go.RowKit

def begF (c1 c2 c3 c4 c5 c6 c7 c8 c9 c10 c11 : Array Value) (b : Nat) : Value :=
  if b = 65 then .func (.func 93) #[] c1 else if b = 66 then .func (.func 93) #[] c2 else if b = 67 then .func (.func 93) #[] c3 else if b = 68 then .func (.func 93) #[] c4 else if b = 72 then .func (.func 77) #[] #[] else if b = 73 then .func (.func 95) #[] c5
  else if b = 89 then .func (.func 61) #[] #[] else if b = 74 then .func (.func 78) #[] #[] else if b = 75 then .func (.func 79) #[] #[] else if b = 70 then .func (.func 102) #[] c6 else if b = 71 then .func (.func 102) #[] c7 else if b = 61 then .func (.func 103) #[] c8 else if b = 62 then .func (.func 103) #[] c9
  else if b = 91 then .func (.func 104) #[] c10 else if b = 92 then .func (.func 104) #[] c11 else if b = 90 then .func (.func 83) #[] #[] else .nilFunc
set_option maxRecDepth 100000 in
theorem build_beg (c1 c2 c3 c4 c5 c6 c7 c8 c9 c10 c11 : Array Value) (w : World) :
    (Instr.build 98 #[(65, .func (.func 93) #[] c1), (66, .func (.func 93) #[] c2), (67, .func (.func 93) #[] c3), (68, .func (.func 93) #[] c4), (72, .func (.func 77) #[] #[]), (73, .func (.func 95) #[] c5), (89, .func (.func 61) #[] #[]), (74, .func (.func 78) #[] #[]), (75, .func (.func 79) #[] #[]), (70, .func (.func 102) #[] c6), (71, .func (.func 102) #[] c7), (61, .func (.func 103) #[] c8), (62, .func (.func 103) #[] c9), (91, .func (.func 104) #[] c10), (92, .func (.func 104) #[] c11), (90, .func (.func 83) #[] #[])]).run Tryz.prog w
      = .ok (.agg (rowA 256 (begF c1 c2 c3 c4 c5 c6 c7 c8 c9 c10 c11))) w := by kernel_rfl
def outF0 (c1 c2 : Array Value) (b : Nat) : Value :=
  if b = 8 then .func (.func 93) #[] c1 else if b = 9 then .func (.func 72) #[] #[] else if b = 10 then .func (.func 95) #[] c2 else if b = 13 then .func (.func 74) #[] #[] else .nilFunc
set_option maxRecDepth 100000 in
theorem build_out (c1 c2 : Array Value) (w : World) :
    (Instr.build 98 #[(8, .func (.func 93) #[] c1), (9, .func (.func 72) #[] #[]), (10, .func (.func 95) #[] c2), (13, .func (.func 74) #[] #[])]).run Tryz.prog w = .ok (.agg (rowA 256 (outF0 c1 c2))) w := by kernel_rfl

/-- What fill makes of one part that is a row. -/
theorem fold_row (xs : List Value) (o : Nat) : ∀ (i : Nat) (cs : Array Value), o + i + xs.length ≤ cs.size → ∀ k, ((xs.zipIdx i).foldl (fun cs (p : Value × Nat) => cs.setIfInBounds (o + p.2) p.1) cs)[k]? = if o + i ≤ k ∧ k < o + i + xs.length then xs[k - (o + i)]? else cs[k]? := by
  induction xs with
  | nil => intro i cs _ k; simp; omega
  | cons x xs ih =>
    intro i cs h k
    rw [List.zipIdx_cons, List.foldl_cons, ih (i + 1) _ (by simp at h ⊢; omega) k]
    simp only [List.length_cons, Array.getElem?_setIfInBounds]
    simp only [List.length_cons] at h
    by_cases h1 : k = o + i
    · subst h1
      rw [if_neg (by omega), if_pos (by omega), if_pos (by omega), if_pos (by omega)]
      simp
    · by_cases h2 : o + i ≤ k ∧ k < o + i + (xs.length + 1)
      · rw [if_pos h2, if_pos (by omega)]
        obtain ⟨j, rfl⟩ : ∃ j, k = o + i + (j + 1) := ⟨k - (o + i) - 1, by omega⟩
        have e1 : o + i + (j + 1) - (o + (i + 1)) = j := by omega
        have e2 : o + i + (j + 1) - (o + i) = j + 1 := by omega
        rw [e1, e2]
        simp
      · rw [if_neg h2, if_neg (by omega), if_neg (fun e => h1 e.symm)]
theorem fold_size (xs : List (Value × Nat)) (o : Nat) : ∀ (cs : Array Value), (xs.foldl (fun cs (p : Value × Nat) => cs.setIfInBounds (o + p.2) p.1) cs).size = cs.size := by
  induction xs with
  | nil => intro cs; rfl
  | cons x xs ih => intro cs; rw [List.foldl_cons, ih]; simp
theorem fill_row {place : Nat → Option (Nat × Nat)} {i off n : Nat} {f g : Nat → Value} {m : Nat} {rest : List (Nat × Value)} (hp : place i = some (off, n)) (ho : off + n ≤ m) :
    Instr.fill place (rowA m g) ((i, .agg (rowA n f)) :: rest) = Instr.fill place (rowA m (fun k => if off ≤ k ∧ k < off + n then f (k - off) else g k)) rest := by
  have hs : (rowA n f).size = n := rowA_size n f
  have e : (rowA n f).zipIdx.foldl (fun cs (p : Value × Nat) => cs.setIfInBounds (off + p.2) p.1) (rowA m g) = rowA m (fun k => if off ≤ k ∧ k < off + n then f (k - off) else g k) := by
    have hl : (rowA n f).toList.length = n := by rw [Array.length_toList]; exact hs
    have e0 : (rowA n f).zipIdx.foldl (fun cs (p : Value × Nat) => cs.setIfInBounds (off + p.2) p.1) (rowA m g) = ((rowA n f).toList.zipIdx 0).foldl (fun cs (p : Value × Nat) => cs.setIfInBounds (off + p.2) p.1) (rowA m g) := by
      rw [← Array.foldl_toList, Array.toList_zipIdx]
    rw [e0]
    refine rowA_of (by rw [fold_size, rowA_size]) fun k hk => ?_
    rw [fold_row _ off 0 _ (by rw [rowA_size, hl]; omega) k, hl]
    by_cases h : off ≤ k ∧ k < off + n
    · rw [if_pos (by omega), if_pos h, Array.getElem?_toList]
      exact rowA_get f (by omega)
    · rw [if_neg (by omega), if_neg h, rowA_get g hk]
  conv => lhs; unfold Instr.fill
  simp only [hp, Value.cells, hs, rowA_size]
  rw [if_neg (by simp; omega)]
  exact congrArg (fun x => Instr.fill place x rest) e

set_option maxRecDepth 100000 in
theorem build100 (f : Nat → Value) (w : World) : (Instr.build 100 #[(0, .agg (rowA 256 f))]).run Tryz.prog w = .ok (.agg (rowA 256 f)) w := by kernel_rfl
theorem zero101 (w : World) : (zeroValue 101).run Tryz.prog w = .ok (.agg (rowA 1024 fun _ => .nilFunc)) w := by kernel_rfl
def allF (f0 f1 f2 f3 : Nat → Value) (k : Nat) : Value := if k < 256 then f0 k else if k < 512 then f1 (k - 256) else if k < 768 then f2 (k - 512) else f3 (k - 768)
theorem allF_eq (f0 f1 f2 f3 : Nat → Value) (k : Nat) (hk : k < 1024) : (if 768 ≤ k ∧ k < 768 + 256 then f3 (k - 768) else if 512 ≤ k ∧ k < 512 + 256 then f2 (k - 512) else if 256 ≤ k ∧ k < 256 + 256 then f1 (k - 256) else if 0 ≤ k ∧ k < 0 + 256 then f0 (k - 0) else Value.nilFunc) = allF f0 f1 f2 f3 k := by
  unfold allF
  by_cases h0 : k < 256
  · rw [if_pos h0, if_neg (by omega), if_neg (by omega), if_neg (by omega), if_pos (by omega), Nat.sub_zero]
  · rw [if_neg h0]
    by_cases h1 : k < 512
    · rw [if_pos h1, if_neg (by omega), if_neg (by omega), if_pos (by omega)]
    · rw [if_neg h1]
      by_cases h2 : k < 768
      · rw [if_pos h2, if_neg (by omega), if_pos (by omega)]
      · rw [if_neg h2, if_pos (by omega)]
def place256 (i : Nat) : Option (Nat × Nat) := some (i * 256, 256)
theorem fill_all (f0 f1 f2 f3 : Nat → Value) : Instr.fill place256 (rowA 1024 fun _ => .nilFunc) [(0, .agg (rowA 256 f0)), (1, .agg (rowA 256 f1)), (2, .agg (rowA 256 f2)), (3, .agg (rowA 256 f3))] = some (rowA 1024 (allF f0 f1 f2 f3)) := by
  refine (fill_row (place := place256) (i := 0) (off := 0) (n := 256) (m := 1024) rfl (by omega)).trans ?_
  refine (fill_row (place := place256) (i := 1) (off := 256) (n := 256) (m := 1024) rfl (by omega)).trans ?_
  refine (fill_row (place := place256) (i := 2) (off := 512) (n := 256) (m := 1024) rfl (by omega)).trans ?_
  refine (fill_row (place := place256) (i := 3) (off := 768) (n := 256) (m := 1024) rfl (by omega)).trans ?_
  unfold Instr.fill
  exact congrArg some (rowA_congr (allF_eq f0 f1 f2 f3))
theorem build_array {P : Program} {t elem : TypeId} {n size : Nat} {place : Nat → Option (Nat × Nat)} {cells : Array Value} {zs : Array Value} (parts : Array (Nat × Value)) (w : World) (hz : (zeroValue t).run P w = .ok (.agg zs) w) (hu : P.underlying t = some (.array n elem)) (hs : (sizeOf elem).run P w = .ok size w)
    (hp : place = fun i => some (i * size, size)) (hf : Instr.fill place zs parts.toList = some cells) : (Instr.build t parts).run P w = .ok (.agg cells) w := by
  subst hp
  unfold Instr.build
  rw [Sem.run_bind, hz, Result.andThen_ok, Sem.run_bind, run_underlying hu, Result.andThen_ok]
  simp only [Sem.run_bind, hs, Result.andThen_ok, Value.cells, hf, Sem.run_pure]
theorem build101 (f0 f1 f2 f3 : Nat → Value) (w : World) : (Instr.build 101 #[(0, .agg (rowA 256 f0)), (1, .agg (rowA 256 f1)), (2, .agg (rowA 256 f2)), (3, .agg (rowA 256 f3))]).run Tryz.prog w = .ok (.agg (rowA 1024 (allF f0 f1 f2 f3))) w :=
  build_array (elem := 100) (n := 4) (size := 256) (place := place256) _ w (zero101 w) (by kernel_rfl) (by kernel_rfl) rfl (fill_all f0 f1 f2 f3)
end Go.Proofs.YtlhajbcabpfbkaaGreatDoor
