/-
  The nil calls, All, Rows, and the answer of the document on sizes.
-/
import Derived.Test.YtekjjnfbahmjcaaRoll
namespace Go.Proofs.Ytekjjnfbahmjcaa
open Go.RowKit

theorem rows_nil (w : World) : Calls Try.prog 20 #[.pointer none] w fun e w' => e = .returned (.slice none 0 0) ∧ Kept0 w w' := by
  go_enter Try.func20, Try.ntmps20
  go_wp2
  go_ret
  exact ⟨rfl, Kept.refl _ w⟩

theorem copy_nil (w : World) : Calls Try.prog 19 #[.pointer none] w fun e w' => e = .returned (.pointer none) ∧ Kept0 w w' := by
  go_enter Try.func19, Try.ntmps19
  go_wp2
  go_ret
  exact ⟨rfl, Kept.refl _ w⟩

theorem resize_nil (r c x : Int) (w : World) : Calls Try.prog 28 #[.pointer none, .agg #[.int .i64 r, .int .i64 c], .int .i64 x] w fun e w' => e = .returned (.int .i64 2) ∧ Kept0 w w' := by
  go_enter Try.func28, Try.ntmps28
  go_wp2
  go_ret
  exact ⟨rfl, (Kept.refl _ w).alloc _⟩

theorem sizeOf_any (r c : Int) (w : World) : Calls Try.prog 32 #[.agg #[.int .i64 r, .int .i64 c]] w fun e w' => e = .returned (.agg #[.int .i64 r, .int .i64 c]) ∧ Kept0 w w' := by
  go_enter Try.func32, Try.ntmps32
  go_wp2
  exact bodyPost_ret (v := .agg #[.int .i64 r, .int .i64 c]) (by simp [results, Try.results32, go_sem]) rfl ⟨rfl, ((Kept.refl _ w).alloc _).alloc _⟩

theorem all_any (p : Option Addr) (w : World) : Calls Try.prog 26 #[.pointer p] w fun e w' => e = .returned (.func (.func 45) #[] #[.pointer (some ⟨w.heap.size, 0, none⟩)]) ∧ w' = w.alloc (.cells #[.pointer p] 28) := by
  have hmf : ∀ (fn : Fn) (first cap : Array Value) (w : World), (Instr.makeFunc fn first cap).run Try.prog w = .ok (.func fn first cap) w := fun _ _ _ _ => rfl
  go_enter Try.func26, Try.ntmps26
  go_wp2
  go_ret
  exact ⟨rfl, rfl⟩

theorem mayR_any (r c : Int) (w : World) : Calls Try.prog 10 #[.int .i64 r, .int .i64 c] w fun e w' => e = .returned (.bool (decide (1 ≤ r ∧ r ≤ 255 ∧ 1 ≤ c ∧ c ≤ 255))) ∧ w = w' := by
  go_enter Try.func10, Try.ntmps10
  go_wp2
  all_goals
    go_ret
    refine ⟨?_, rfl⟩
    simp [*]
    try omega

/-- A list of rows, each a row of numbers of its own. -/
structure RowsAt (w : World) (B l R C : Nat) (f : Nat → Nat → Int) : Prop where
  len : ∀ i, i < R → ∃ t cap, w.cell? ⟨l, i, none⟩ = some (.slice (some ⟨t, 0, none⟩) C cap) ∧ B ≤ t ∧ t ≠ l ∧ IntsAt w t C (f i)

theorem Try.info48 : (Try.prog.info? 48).map (fun i => (i.zero, i.size, i.bytes)) = some (some (.slice none 0 0), 1, 24) := by kernel_rfl

theorem RowsAt.kept {w w' : World} {B l R C : Nat} {f : Nat → Nat → Int} (h : RowsAt w B l R C f) {S : Nat → Prop} (k : Kept S w w') (hl : l < w.heap.size) (hS : ∀ b, B ≤ b → ¬ S b) (hBl : B ≤ l) : RowsAt w' B l R C f :=
  ⟨fun i hi => by
    obtain ⟨t, cap, h1, h2, h3, h4⟩ := h.len i hi
    exact ⟨t, cap, (k.cell hl (hS l hBl)).trans h1, h2, h3, h4.kept k (hS t h2)⟩⟩

theorem Kept.set1 (w : World) (b o : Nat) (v : Value) : Kept (· = b) w (w.setCell ⟨b, o, none⟩ v) :=
  Kept.setCell (S := (· = b)) (Kept.refl _ w) ⟨b, o, none⟩ (Or.inr rfl) v

theorem rows_step {w w2 : World} {B l k C t2 cap2 : Nat} {F : Nat → Nat → Int} {cur : Array Value} {R : Nat} (h : RowsAt w B l k C F) (hk : Kept0 w w2) (hcur : w.heap[l]? = some (.cells cur 48 (0, 0))) (hcs : cur.size = R) (hkR : k < R) (ht : w.heap.size ≤ t2) (hB : B ≤ l) (hI : IntsAt w2 t2 C (F k)) :
    RowsAt (w2.setCell ⟨l, k, none⟩ (.slice (some ⟨t2, 0, none⟩) C cap2)) B l (k + 1) C F ∧ ∃ cur', (w2.setCell ⟨l, k, none⟩ (.slice (some ⟨t2, 0, none⟩) C cap2)).heap[l]? = some (.cells cur' 48 (0, 0)) ∧ cur'.size = R := by
  have hl : l < w.heap.size := (Array.getElem?_eq_some_iff.1 hcur).1
  have hc2 : w2.heap[l]? = some (.cells cur 48 (0, 0)) := (hk.block l hl (fun e => e)).trans hcur
  have ks := Kept.set1 w2 l k (.slice (some ⟨t2, 0, none⟩) C cap2)
  have hb : (w2.setCell ⟨l, k, none⟩ (.slice (some ⟨t2, 0, none⟩) C cap2)).heap[l]? = some (.cells (cur.setIfInBounds k (.slice (some ⟨t2, 0, none⟩) C cap2)) 48 (0, 0)) := by
    simp [World.setCell, Array.getElem?_modify, hc2]
  refine ⟨⟨fun i hi => ?_⟩, _, hb, by simpa using hcs⟩
  by_cases e : i = k
  · subst e
    refine ⟨t2, cap2, ?_, by omega, by omega, hI.kept ks (by omega)⟩
    have hlt : i < cur.size := by omega
    simp only [World.cell?, hb]
    simp [hlt]
  · obtain ⟨t, cap, h1, h2, h3, h4⟩ := h.len i (by omega)
    refine ⟨t, cap, ?_, h2, h3, (h4.kept hk (fun e => e)).kept ks h3⟩
    have := kcell hk h1
    simp only [World.cell?, hc2] at this
    simp only [World.cell?, hb]
    simp at this ⊢
    rw [Array.getElem?_setIfInBounds_ne (by omega)]
    exact this

set_option maxHeartbeats 400000 in
theorem rows_any (g t cap R C : Nat) (f : Nat → Int) (w : World) (hg : GridAt w g t cap R C f) :
    Calls Try.prog 20 #[.pointer (some ⟨g, 0, none⟩)] w fun e w' => ∃ l, e = .returned (.slice (some ⟨l, 0, none⟩) R R) ∧ w.heap.size ≤ l ∧ RowsAt w' w.heap.size l R C (fun i k => f (i * C + k)) ∧ Kept0 w w' := by
  have hC1 := hg.C1
  have hC2 := hg.C2
  have hR2 := hg.R2
  have c0 := hg.c0
  have hgl := hg.lt
  have hcap := hg.cap
  have hRC : R * C ≤ 65025 := Nat.mul_le_mul hR2 hC2
  obtain ⟨N, hN⟩ : ∃ N, N = R * C := ⟨_, rfl⟩
  have hrow := hg.row
  have hmk := run_make_row' (P := Try.prog) 46 48 (.slice none 0 0) 24 Try.underlying46 Try.info48 rfl .i64 .i64 R (by omega) (by omega)
  have HN := Lib.hid hN
  rw [← hN] at hcap hRC hrow
  clear hN
  go_enter Try.func20, Try.ntmps20
  go_wp2
  go_loopw [4, 5, 16] (fun s4 s5 i wr => ∃ k : Nat, k ≤ R ∧ i = .int .i64 k ∧ (∃ cur, wr.heap[w.heap.size]? = some (.cells cur 48 (0, 0)) ∧ cur.size = R) ∧ RowsAt wr w.heap.size w.heap.size k C (fun i k => f (i * C + k)) ∧ Kept0 w wr) (fun _ _ i _ => R - (intOf i).toNat)
  case atStart => exact ⟨0, by omega, rfl, ⟨_, heap_new w _, by simp [size_madeCells]⟩, ⟨fun i hi => by omega⟩, (Kept.refl _ w).alloc _⟩
  case round =>
    obtain ⟨k, hk, rfl, ⟨cur, hcur, hcs⟩, hro, hkp⟩ := hrel
    have hlw : w.heap.size < wr.heap.size := (Array.getElem?_eq_some_iff.1 hcur).1
    by_cases hlt : k < R
    · have hth : There R C (k : Int) 0 := ⟨by omega, by omega, by omega, by omega⟩
      have hgr := hg.kept hkp (fun e => e) (fun e => e)
      have hil : idx C (k : Int) 0 + C ≤ N := by
        have := place_lt (a := k) (b := C - 1) (R := R) (C := C) hlt (by omega)
        have hn := HN.out
        simp [idx]; omega
      have hie : Hid (idx C (k : Int) 0 = k * C) := by simp [Hid, idx]
      clear hmk c0 hth
      go_wp2_with fail
      refine (index_any g _ _ C _ hgr.c1 (by omega) (by omega) (by omega) (by omega) hC2).mono ?_
      generalize hi : idx C (k : Int) 0 = i at *
      rintro e w1 ⟨rfl, hk1⟩
      clear hi
      have hg1 := hgr.kept hk1 (fun e => e) (fun e => e)
      have c1 := hg1.c1
      have c2 := hg1.c2
      rw [← HN.out] at c2
      have hs : IntKind.i64.wrap ((i : Int) + (C : Int)) = (i : Int) + (C : Int) := by rw [IntWalk.i64_left]; exact w64 (by omega) (by omega)
      have hne : ¬ cap = i := by omega
      have htl : ((i : Int) + (C : Int)).toNat = i + C := by omega
      obtain ⟨v0, hv0⟩ : ∃ v0, w1.cell? ⟨w.heap.size, k, none⟩ = some v0 := by
        refine ⟨cur[k]'(by omega), ?_⟩
        have := hk1.cell (b := w.heap.size) (o := k) hlw (fun e => e)
        rw [this]
        simp [World.cell?, hcur]
      have hf0 : w1.frozen? ⟨w.heap.size, k, none⟩ = false := by
        rw [hk1.frozen (b := w.heap.size) (o := k) hlw (fun e => e)]
        simp [World.frozen?, hcur]
      have hlw1 : w.heap.size < w1.heap.size := by have := hk1.size; omega
      have hkp1 : Kept0 w w1 := hkp.trans hk1
      have hgn1 : ¬ g = w.heap.size := by omega
      have hgn2 : ¬ w.heap.size = g := by omega
      have bi1 : (0 : Int) ≤ (i : Int) := by omega
      have bi2 : (0 : Int) ≤ (i : Int) + (C : Int) := by omega
      have bi3 : (i : Int) + (C : Int) ≤ (cap : Int) := by omega
      have bi4 : (i : Int) ≤ (i : Int) + (C : Int) := by omega
      have bi5 : i ≤ i + C := by omega
      go_wp2_with fail
      go_region_held3 (fun w' => w'.cell? ⟨g, 1, none⟩ = some (.int .i64 C) ∧ w'.cell? ⟨g, 2, none⟩ = some (.slice (some ⟨t, 0, none⟩) N cap)) (go_keep)
        (first
          | (go_at_call 41; refine (clone_any t i C _ N f _ (hrow.kept (Kept.drew (S := fun _ => False) hkp1) (fun e => e)) hil hC1 (by omega)).mono ?_; rintro e w2 ⟨t2, cap2, rfl, h1, h2, h3, h4⟩; have z1 := kcell h4 c1; have z2 := kcell h4 c2; have z3 := kcell h4 hv0; have z4 := (h4.frozen (b := w.heap.size) (o := k) hlw1 (fun e => e)).trans hf0))
      have hst := rows_step (cap2 := cap2) hro (hk1.trans (Kept.later (Kept.refl (fun _ => False) w1).drew h4 (fun _ _ e => e))) hcur hcs hlt (by have := hk1.size; have h9 : w1.heap.size ≤ t2 := h1; omega) (Nat.le_refl _) (h3.congr (fun j _ => by rw [hie.out]))
      have hkf : Kept0 w (w2.setCell ⟨w.heap.size, k, none⟩ (.slice (some ⟨t2, 0, none⟩) C cap2)) := (hkp1.drew.later h4 (fun _ _ e => e)).setCell _ (Or.inl (Nat.le_refl _)) _
      have HST := Lib.hid hst
      clear hst hro
      go_wp2
      go_roundw
      case rel => exact ⟨k + 1, by omega, by go_num, HST.out.2, HST.out.1, hkf⟩
      case measure => simp [intOf]; omega
    · go_wp2
      go_ret
      obtain rfl : k = R := by omega
      exact ⟨_, rfl, Nat.le_refl _, hro, hkp⟩
end Go.Proofs.Ytekjjnfbahmjcaa
