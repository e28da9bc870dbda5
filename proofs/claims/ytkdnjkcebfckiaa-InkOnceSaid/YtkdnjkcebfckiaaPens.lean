/-
  A pen: its place, its cursor, its cells; how places are compared.
-/
import Derived.Test.YtkdnjkcebfckiaaSameG
import Derived.Test.YtkdnjkcebfckiaaRing
import Derived.Deep.AppendLies
namespace Go.Proofs.Ytkdnjkcebfckiaa
open Go.RowKit

/-- A pen as a value. -/
abbrev penV (r c : Int) (b : Bool) (k : Int) (s : ByteArray) : Value := .agg #[.int .i64 r, .int .i64 c, .bool b, .int .i64 k, .string s]

/-- A pen in a block. -/
structure PenAt (w : World) (q : Nat) (r c : Int) (b : Bool) (k : Int) (s : ByteArray) : Prop where
  c0 : w.cell? ⟨q, 0, none⟩ = some (.int .i64 r)
  c1 : w.cell? ⟨q, 1, none⟩ = some (.int .i64 c)
  c2 : w.cell? ⟨q, 2, none⟩ = some (.bool b)
  c3 : w.cell? ⟨q, 3, none⟩ = some (.int .i64 k)
  c4 : w.cell? ⟨q, 4, none⟩ = some (.string s)
theorem PenAt.kept {S : Nat → Prop} {w w' : World} {q : Nat} {r c : Int} {b : Bool} {k : Int} {s : ByteArray} (h : PenAt w q r c b k s) (kk : Kept S w w') (hs : ¬ S q) : PenAt w' q r c b k s :=
  ⟨kcellS kk h.c0 hs, kcellS kk h.c1 hs, kcellS kk h.c2 hs, kcellS kk h.c3 hs, kcellS kk h.c4 hs⟩
theorem PenAt.lt {w : World} {q : Nat} {r c : Int} {b : Bool} {k : Int} {s : ByteArray} (h : PenAt w q r c b k s) : q < w.heap.size := World.block_lt_of_cell? w _ h.c0

set_option maxHeartbeats 400000 in
theorem place_any (r c k : Int) (b : Bool) (s : ByteArray) (w : World) :
    Calls Try.prog 13 #[penV r c b k s] w fun e w' => e = .returned (place r c b) ∧ Kept0 w w' := by
  go_enter Try.func13, Try.ntmps13
  go_wp2_with fail
  exact bodyPost_ret (v := place r c b) (by simp [results, Try.results13, go_sem]) rfl ⟨rfl, ((Kept.refl _ w).alloc _).alloc _⟩

set_option maxHeartbeats 400000 in
theorem cursor_any (r c k : Int) (b : Bool) (s : ByteArray) (w : World) :
    Calls Try.prog 14 #[penV r c b k s] w fun e w' => e = .returned (place r c b) ∧ Kept0 w w' := by
  go_enter Try.func14, Try.ntmps14
  go_wp2_with fail
  exact bodyPost_ret (v := place r c b) (by simp [results, Try.results14, go_sem]) rfl ⟨rfl, ((Kept.refl _ w).alloc _).alloc _⟩

theorem same_pos (a b : Int) (w : World) : (Op.equalIn 10000 26 (.agg #[.int .i64 a, .int .i64 b]) (.agg #[.int .i64 a, .int .i64 b])).run Try.prog w = .ok true w := by
  rw [run_equalIn_agg w 9999 26 _ _ (by kernel_rfl) (by kernel_rfl)]
  simp [go_sem]
theorem eq_pos (a b c d : Int) (w : World) : (Op.equalIn 10000 26 (.agg #[.int .i64 a, .int .i64 b]) (.agg #[.int .i64 c, .int .i64 d])).run Try.prog w = .ok (decide (a = c ∧ b = d)) w := by
  rw [run_equalIn_agg w 9999 26 _ _ (by kernel_rfl) (by kernel_rfl)]
  simp [go_sem]
  by_cases h1 : a = c <;> by_cases h2 : b = d <;> simp [h1, h2]
theorem same_place (a b : Int) (v : Bool) (w : World) : (Op.equalIn 10000 39 (.agg #[.int .i64 a, .int .i64 b, .bool v]) (.agg #[.int .i64 a, .int .i64 b, .bool v])).run Try.prog w = .ok true w := by
  rw [run_equalIn_agg w 9999 39 _ _ (by kernel_rfl) (by kernel_rfl)]
  simp [go_sem]
theorem eq_cel (x y : Cel) (w : World) : (Op.equalIn 10000 36 x.v y.v).run Try.prog w = .ok (decide (x = y)) w := by
  obtain ⟨xg, xa, xb, xm⟩ := x
  obtain ⟨yg, ya, yb, ym⟩ := y
  rw [run_equalIn_agg w 9999 36 _ _ (by kernel_rfl) (by kernel_rfl)]
  simp [go_sem]
  by_cases h1 : xg = yg <;> by_cases h2 : xa = ya <;> by_cases h3 : xb = yb <;> by_cases h4 : xm = ym <;> simp [h1, h2, h3, h4]

set_option maxHeartbeats 400000 in
theorem like_any (r c : Int) (b : Bool) (w : World) :
    Calls Try.prog 17 #[place r c b, place r c b] w fun e w' => e = .returned (.bool true) ∧ Kept0 w w' := by
  have hs := same_pos r c
  go_enter Try.func17, Try.ntmps17
  go_wp2_with fail
  go_ret
  refine ⟨?_, ((Kept.refl _ w).alloc _).alloc _⟩
  simp

/-- Is a board, and a pen, not too great? -/
def fewP (L : Nat) (C : Int) (n : Nat) : Bool := fewB L C && decide (n ≤ 60)

set_option maxHeartbeats 400000 in
theorem fewP_any (a : Option Addr) (L cap : Nat) (C r c k : Int) (b : Bool) (s : ByteArray) (w : World) (hL : L ≤ 9223372036854775807) :
    Calls Try.prog 9 #[.agg #[.slice a L cap, .int .i64 C], penV r c b k s] w fun e w' => e = .returned (.bool (fewP L C s.size)) ∧ Kept0 w w' := by
  obtain ⟨B, hB⟩ : ∃ B, B = fewB L C := ⟨_, rfl⟩
  have HF : Hid (∀ w', Calls Try.prog 32 #[.agg #[.slice a L cap, .int .i64 C]] w' fun e w'' => e = .returned (.bool B) ∧ Kept0 w' w'') := fun w' => by rw [hB]; exact few_any a L cap C w' hL
  unfold fewP
  rw [← hB]
  clear hB
  have hk0 : Kept0 w ((w.alloc (.cells #[.slice a L cap, .int .i64 C] 24)).alloc (.cells #[.int .i64 r, .int .i64 c, .bool b, .int .i64 k, .string s] 28)) := ((Kept.refl _ w).alloc _).alloc _
  have e4 : ((w.alloc (.cells #[.slice a L cap, .int .i64 C] 24)).alloc (.cells #[.int .i64 r, .int .i64 c, .bool b, .int .i64 k, .string s] 28)).cell? ⟨w.heap.size + 1, 4, none⟩ = some (.string s) := by simp [go_sem]
  cases B
  · go_enter Try.func9, Try.ntmps9
    go_wp2_with fail
    refine (HF.out _).mono ?_
    rintro e w1 ⟨rfl, hk1⟩
    go_wp2_with fail
    go_ret
    exact ⟨rfl, hk0.trans hk1⟩
  · go_enter Try.func9, Try.ntmps9
    go_wp2_with fail
    refine (HF.out _).mono ?_
    rintro e w1 ⟨rfl, hk1⟩
    replace e4 := kcell hk1 e4
    go_wp2_with fail
    go_ret
    refine ⟨ret_bool ?_, hk0.trans hk1⟩
    simp
    omega

/-- The cells of bytes. -/
def textF (s : ByteArray) : Nat → Cel := fun j => celB (byteN s j)

set_option maxHeartbeats 2000000 in
theorem cells_any (s : ByteArray) (w : World) (hs : s.size ≤ 60) :
    Calls Try.prog 27 #[.string s] w fun e w' => ∃ v, e = .returned v ∧ w'.ownsRow w.heap.size 36 4 v s.size (parts (textF s) 0 s.size) ∧ Kept0 w w' := by
  obtain ⟨i0, hi0, hz0, hz1, hz2⟩ := info_parts Try.info36
  go_enter Try.func27, Try.ntmps27
  go_wp2_with fail
  go_loopw [3, 4] (fun s3 i wr => ∃ k : Nat, k ≤ s.size ∧ i = .int .i64 (k : Int) ∧ wr.ownsRow w.heap.size 36 4 s3 k (parts (textF s) 0 k) ∧ Kept0 w wr) (fun _ i _ => ((s.size : Int) - intOf i).toNat)
  case atStart => exact ⟨0, by omega, rfl, World.ownsRow_nil _ _ _ _, Kept.refl _ _⟩
  case round =>
    obtain ⟨k, hk, rfl, hown, hkr⟩ := hrel
    have hsz := hkr.size
    by_cases hlt : k < s.size
    · have d1 : decide ((k : Int) < (s.size : Int)) = true := by simp; omega
      go_wp2_with fail
      refine (cellL _ _ (by omega) (by have := UInt8.toNat_lt s[k]; omega)).mono ?_
      rintro e w4 ⟨rfl, hk4⟩
      obtain ⟨y, hy⟩ : ∃ y, y = celB (s[k].toNat : Int) := ⟨_, rfl⟩
      have hyF : Hid (y = textF s k) := by
        show y = textF s k
        rw [hy]
        unfold textF byteN
        rw [dif_pos hlt]
      rw [← hy]
      clear hy
      have hown4 : w4.ownsRow w.heap.size 36 4 u3 k (parts (textF s) 0 k) := hown.kept (row := none) ⟨hk4.os, hk4.tape, hk4.output, hk4.size, fun i hi _ => hk4.block i hi (fun e => e)⟩ (by cases h : Value.ownBlock u3 <;> simp)
      have hs4 := hk4.size
      have kk4 := hkr.trans hk4
      have HNW : ∀ (j : Nat) (q : Value), [Value.int .i32 y.g, .int .i64 y.a, .bool y.b, .int .i64 y.m][j]? = some q → (w4.alloc (.cells #[.int .i32 y.g, .int .i64 y.a, .bool y.b, .int .i64 y.m] 36)).cell? ((⟨w4.heap.size, 0, none⟩ : Addr).add j) = some q := fun j q hq => by
        obtain ⟨n0, n1, n2, n3⟩ := CelAt.new w4 y 36
        rw [addr_add]
        rcases j with _ | _ | _ | _ | j
        · simp only [List.getElem?_cons_zero, Option.some.injEq] at hq; rw [← hq]; exact n0
        · simp only [List.getElem?_cons_succ, List.getElem?_cons_zero, Option.some.injEq] at hq; rw [← hq]; exact n1
        · simp only [List.getElem?_cons_succ, List.getElem?_cons_zero, Option.some.injEq] at hq; rw [← hq]; exact n2
        · simp only [List.getElem?_cons_succ, List.getElem?_cons_zero, Option.some.injEq] at hq; rw [← hq]; exact n3
        · simp at hq
      clear hk4 hown
      go_wp2_with (at_builtin; refine wpList_append_own _ rfl _ _ 64 rfl w.heap.size 36 i0 (.agg #[.int .i32 0, .int .i64 0, .bool false, .int .i64 0]) 4 32 Try.underlying64 hi0 hz0 hz1 hz2 rfl (by decide) _ _ _ rfl (hown4.alloc _) ⟨w4.heap.size, 0, none⟩ 1 1 [.int .i32 y.g, .int .i64 y.a, .bool y.b, .int .i64 y.m] rfl (by simp) HNW (by simp [Value.oneCell']) (by unfold maxLen; omega) (by omega) (by simp; omega) ?_)
      intro v' w5 hown5 hgrow _
      have hk5 : Kept0 w w5 := (kk4.alloc _).later (Kept.ofGrown hgrow) (fun i hi e => by have := (hown4.lt _ e.symm).1; omega)
      have HO5 : Hid (w5.ownsRow w.heap.size 36 4 v' (k + 1) (parts (textF s) 0 (k + 1))) := by
        show w5.ownsRow w.heap.size 36 4 v' (k + 1) (parts (textF s) 0 (k + 1))
        rw [parts_succ, ← hyF.out]
        exact hown5
      clear hown5 hgrow hown4 kk4 HNW
      go_wp2_with fail
      refine ⟨⟨k + 1, by omega, by simp, HO5.out, hk5⟩, ?_⟩
      simp [intOf]
      omega
    · obtain rfl : k = s.size := by omega
      have d1 : decide ((s.size : Int) < (s.size : Int)) = false := by simp
      have HO := Lib.hid hown
      clear hown
      go_wp2_with fail
      go_ret
      exact ⟨_, rfl, HO.out, hkr⟩
end Go.Proofs.Ytkdnjkcebfckiaa
