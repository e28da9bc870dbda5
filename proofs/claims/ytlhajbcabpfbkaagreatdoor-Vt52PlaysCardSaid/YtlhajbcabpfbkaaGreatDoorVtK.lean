/-
  Reset, On, what is asked of a terminal; the laws' own made and awake.
-/
import Derived.Test.YtlhajbcabpfbkaaGreatDoorVtH
namespace Go.Proofs.YtlhajbcabpfbkaaGreatDoor
open Go.RowKit

def resetV (v : Vt) : Vt := { v with z := wipeZ (moveZ v.z 0 0) (moveZ v.z 0 0).r (moveZ v.z 0 0).c ((v.z.R : Int) - 1) ((v.z.C : Int) - 1), g := false, k := false, h := false, pre := [] }
def newV (R C most : Nat) : Vt := ⟨⟨R, C, fun _ => blk, fun _ => false, 0, 0, false⟩, most, [], false, false, false, false, []⟩

section
variable {w : World} {a : Bl} {v : Vt}

set_option maxRecDepth 100000 in
set_option maxHeartbeats 400000 in
theorem reset_vt (h : VtIn w a v) : Calls Tryz.prog 9 #[ptr a.tm] w (Ends a (resetV v) w) := by
  have c := h.cS
  have c2 := h.cG
  have c3 := h.cK
  have c4 := h.cH
  have f2 := h.fz 2
  have f3 := h.fz 3
  have f4 := h.fz 4
  have H : Hid (VtIn (((w.setCell ⟨a.tm, 2, none⟩ (.bool false)).setCell ⟨a.tm, 3, none⟩ (.bool false)).setCell ⟨a.tm, 4, none⟩ (.bool false)) a { v with g := false, k := false, h := false }) := ((h.setG false).setK false).setH false
  have K : Hid (Kept a.O w (((w.setCell ⟨a.tm, 2, none⟩ (.bool false)).setCell ⟨a.tm, 3, none⟩ (.bool false)).setCell ⟨a.tm, 4, none⟩ (.bool false))) := ((setTm w a 2 _).trans (setTm _ a 3 _)).trans (setTm _ a 4 _)
  clear h
  go_enter Tryz.func9, Tryz.ntmps9
  go_wp2_with fail
  refine (drop_vt H.out).mono ?_
  rintro e w1 ⟨rfl, h1, k1⟩
  have c' := h1.cS
  have H1 := Lib.hid h1
  have K1 := Lib.hid (K.out.trans k1)
  clear h1 k1 H K c c2 c3 c4 f2 f3 f4
  go_wp2_with fail
  refine (vmove H1.out 0 0).mono ?_
  rintro e w2 ⟨rfl, h2, k2⟩
  have H2 := Lib.hid h2
  have K2 := Lib.hid (K1.out.trans k2)
  clear h2 k2 c' H1 K1
  go_wp2_with fail
  refine (last_vt H2.out).mono ?_
  rintro e w3 ⟨rfl, k3⟩
  have H3 := Lib.hid (H2.out.kept0 k3)
  have K3 : Hid (Kept a.O w w3) := K2.out.trans (Kept0.to k3)
  clear k3 H2 K2
  go_wp2_with fail
  refine (wipe_vt H3.out _ _).mono ?_
  rintro e w4 ⟨rfl, h4, k4⟩
  have H4 := Lib.hid h4
  have K4 := Lib.hid (K3.out.trans k4)
  clear h4 k4
  go_wp2_with fail
  go_end0
  exact ⟨rfl, H4.out, K4.out⟩

theorem pending_vt (h : VtIn w a v) : Calls Tryz.prog 17 #[ptr a.tm] w fun e w' => e = .returned (.string (Qu.str v.pre)) ∧ Kept0 w w' := by
  have c := h.cP
  clear h
  go_enter Tryz.func17, Tryz.ntmps17
  go_wp2_with fail
  go_ret
  exact ⟨rfl, Kept.refl _ w⟩

set_option maxRecDepth 100000 in
theorem modes_vt (h : VtIn w a v) : Calls Tryz.prog 30 #[ptr a.tm] w fun e w' => e = .returned (.agg #[.bool v.g, .bool v.k, .bool v.h]) ∧ Kept0 w w' := by
  have c2 := h.cG
  have c3 := h.cK
  have c4 := h.cH
  have hl := h.ltm
  clear h
  go_enter Tryz.func30, Tryz.ntmps30
  go_wp2_with fail
  exact bodyPost_ret (v := .agg #[.bool v.g, .bool v.k, .bool v.h]) (by simp [results, Tryz.results30, go_sem]) rfl ⟨rfl, (Kept.refl (fun _ => False) w).alloc _⟩
end

theorem on_any (s q : Nat) (w : World) : Calls Tryz.prog 23 #[ptr s, ptr q] w fun e w' => e = .returned (.tuple #[ptr w.heap.size, .int .i64 0]) ∧ w' = w.alloc (.cells #[ptr s, ptr q, .bool false, .bool false, .bool false, .string ⟨#[]⟩] 66) := by
  go_enter Tryz.func23, Tryz.ntmps23
  go_wp2_with fail
  go_ret2
  exact ⟨rfl, rfl⟩
theorem on_none (s q : Option Addr) (h : s = none ∨ q = none) (w : World) : Calls Tryz.prog 23 #[.pointer s, .pointer q] w fun e w' => e = .returned (.tuple #[.pointer none, .int .i64 2]) ∧ w' = w := by
  cases s with
  | none =>
    clear h
    go_enter Tryz.func23, Tryz.ntmps23
    go_wp2_with fail
    go_ret2
    exact ⟨rfl, rfl⟩
  | some s =>
    obtain rfl : q = none := by simpa using h
    clear h
    go_enter Tryz.func23, Tryz.ntmps23
    go_wp2_with fail
    go_ret2
    exact ⟨rfl, rfl⟩

/-- Block b is a world of the laws'. -/
structure WoIn (w : World) (b : Nat) (a : Bl) (v : Vt) : Prop where
  head : w.heap[b]? = some (.cells #[ptr a.s, ptr a.q, ptr a.tm] 36 (0, 0))
  vt : VtIn w a v
  nb : ¬ a.O b
namespace WoIn
variable {w w' : World} {a : Bl} {v v' : Vt} {b : Nat}
theorem lt (h : WoIn w b a v) : b < w.heap.size := (Array.getElem?_eq_some_iff.1 h.head).1
theorem c0 (h : WoIn w b a v) : w.cell? ⟨b, 0, none⟩ = some (ptr a.s) := by simp [World.cell?, h.head]
theorem c1 (h : WoIn w b a v) : w.cell? ⟨b, 1, none⟩ = some (ptr a.q) := by simp [World.cell?, h.head]
theorem c2 (h : WoIn w b a v) : w.cell? ⟨b, 2, none⟩ = some (ptr a.tm) := by simp [World.cell?, h.head]
theorem turn (h : WoIn w b a v) (k : Kept a.O w w') (hv : VtIn w' a v') : WoIn w' b a v' := ⟨(k.block b h.lt h.nb).trans h.head, hv, h.nb⟩
theorem kept0 (h : WoIn w b a v) (k : Kept0 w w') : WoIn w' b a v := ⟨(k.block b h.lt (fun e => e)).trans h.head, h.vt.kept0 k, h.nb⟩
theorem kept (h : WoIn w b a v) {T : Nat → Prop} (k : Kept T w w') (hT : ∀ i, a.O i ∨ i = b → ¬ T i) (h0 : ¬ T 0) : WoIn w' b a v :=
  ⟨(k.block b h.lt (hT b (Or.inr rfl))).trans h.head, h.vt.kept k (fun i hi => hT i (Or.inl hi)) h0, h.nb⟩
end WoIn

set_option maxRecDepth 100000 in
set_option maxHeartbeats 4000000 in
theorem made_any (R C most : Nat) (w : World) (hb : Blank w) (h : 1 ≤ R ∧ R ≤ 255 ∧ 1 ≤ C ∧ C ≤ 255) (hm : most ≤ 4096) :
    Calls Tryz.prog 7 #[.int .i64 R, .int .i64 C, .int .i64 most] w fun e w' => ∃ b a, e = .returned (.tuple #[ptr b, .bool true]) ∧ WoIn w' b a (newV R C most) ∧ (∀ i, a.O i ∨ i = b → w.heap.size ≤ i) ∧ Kept0 w w' := by
  have HB := Lib.hid hb
  have H := Lib.hid h
  have HM := Lib.hid hm
  have h0 : 0 < w.heap.size := hb.lt
  clear h hb hm
  go_enter Tryz.func7, Tryz.ntmps7
  go_wp2_with fail
  refine (snew_yes R C w HB.out H.out).mono ?_
  rintro e w1 ⟨s, g, t, cap, tb, m, rfl, hO, hS, k1⟩
  have HO := Lib.hid hO
  have HS := Lib.hid hS
  have K1 := Lib.hid k1
  clear hO hS k1
  go_wp2_with fail
  refine (Qu.new_yes most w1 HM.out).mono ?_
  rintro e w2 ⟨q, gq, rfl, hQ, hq, hgq, k2⟩
  have HQ := Lib.hid hQ
  have K2 : Hid (Kept0 w w2) := K1.out.trans k2
  have HS2 := Lib.hid (HS.out.kept0 k2)
  have Hq : Hid (w1.heap.size ≤ q ∧ w1.heap.size ≤ gq) := ⟨hq, hgq⟩
  have hqs : ¬ q = 0 := by have := K1.out.size; omega
  have hss : ¬ s = 0 := by have := HO.out s (Or.inl rfl); omega
  clear hQ hq hgq k2
  go_wp2_with fail
  refine (on_any s q _).mono ?_
  rintro e w3 ⟨rfl, hw3⟩
  go_wp2_with fail
  go_ret2
  obtain ⟨W, hW⟩ : ∃ W, W = (w2.alloc (.cells #[ptr s, ptr q, .bool false, .bool false, .bool false, .string ⟨#[]⟩] 66)).alloc (.cells #[ptr s, ptr q, ptr w2.heap.size] 36) := ⟨_, rfl⟩
  have k3 : Kept0 w2 W := by rw [hW]; exact ((Kept.refl _ w2).alloc _).alloc _
  have hT : W.heap[w2.heap.size]? = some (.cells #[ptr s, ptr q, .bool false, .bool false, .bool false, .string ⟨#[]⟩] 66 (0, 0)) := by
    rw [hW]; exact (Below.heap_alloc _ _ _ (by simp)).trans (heap_new w2 _)
  have hH : W.heap[w2.heap.size + 1]? = some (.cells #[ptr s, ptr q, ptr w2.heap.size] 36 (0, 0)) := by rw [hW]; exact heap_new2 w2 _ _
  show ∃ b a, Ending.returned (.tuple #[ptr (w2.heap.size + 1), .bool true]) = .returned (.tuple #[ptr b, .bool true]) ∧ WoIn ((w2.alloc (.cells #[ptr s, ptr q, .bool false, .bool false, .bool false, .string ⟨#[]⟩] 66)).alloc (.cells #[ptr s, ptr q, ptr w2.heap.size] 36)) b a (newV R C most) ∧ (∀ i, a.O i ∨ i = b → w.heap.size ≤ i) ∧ Kept0 w ((w2.alloc (.cells #[ptr s, ptr q, .bool false, .bool false, .bool false, .string ⟨#[]⟩] 66)).alloc (.cells #[ptr s, ptr q, ptr w2.heap.size] 36))
  rw [← hW]
  have hs1 := K1.out.size
  have hs2 := K2.out.size
  have hlt : ∀ i, Own s g t tb m i → i < w1.heap.size := HS.out.all_lt
  have hq1 := Hq.out.1
  have hq2 := Hq.out.2
  have hq3 := HQ.out.lt
  have hq4 := HQ.out.ltg
  have hge := HO.out
  refine ⟨w2.heap.size + 1, ⟨s, g, t, cap, tb, m, w2.heap.size, q, gq⟩, rfl, ⟨hH, ⟨HS2.out.kept0 k3, HQ.out.kept0 k3, hT, ⟨?_, ?_, ?_, ?_, ?_, ?_⟩, HB.out.kept0 (K2.out.trans k3)⟩, ?_⟩, ?_, K2.out.trans k3⟩
  · intro e; have := hlt _ e; have : w1.heap.size ≤ w2.heap.size := Nat.le_trans hq1 (Nat.le_of_lt hq3); simp only at *; omega
  · intro e; have := hlt _ e; simp only at *; omega
  · intro e; have := hlt _ e; simp only at *; omega
  · simp only; omega
  · simp only; omega
  · rintro (e | e | e | e)
    · have := hge _ e; omega
    · simp only at e; omega
    · simp only at e; omega
    · simp only at e; omega
  · rintro (e | e | e | e)
    · have := hlt _ e; omega
    · simp only at e; omega
    · simp only at e; omega
    · simp only at e; omega
  · rintro i ((e | e | e | e) | e)
    · exact hge _ e
    · simp only at e; omega
    · simp only at e; omega
    · simp only at e; omega
    · omega
end Go.Proofs.YtlhajbcabpfbkaaGreatDoor
