/-
  What visit does to a cell, and turn to those from one place to another one.
-/
import Derived.Test.YtedgnjideemfbaaWips
namespace Go.Proofs.Ytedgnjideemfbaa
open Go.RowKit

/-- A closure whose variable lies in block cb makes h of a cell. -/
def Becomes (fv cb : Nat) (ob : Obj) (h : Cel → Cel) : Prop := (∀ args w, (callFunc fv args).run Try.prog w = .ok (.enter fv args) w) ∧ ∀ (x : Cel) (w : World), w.heap[cb]? = some ob → Calls Try.prog fv #[x.v, .pointer (some ⟨cb, 0, none⟩)] w fun e w' => e = .returned (h x).v ∧ Kept0 w w'

/-- What visit is told: the grid, whether what is guarded counts, what is made of a cell, how many were turned. -/
structure Told (w : World) (gb bb fb nb cb g : Nat) (b : Bool) (fv : Nat) (ob : Obj) (n : Nat) : Prop where
  hg : w.cell? ⟨gb, 0, none⟩ = some (.pointer (some ⟨g, 0, none⟩))
  hb : w.cell? ⟨bb, 0, none⟩ = some (.bool b)
  hf : w.cell? ⟨fb, 0, none⟩ = some (.func (.func fv) #[] #[.pointer (some ⟨cb, 0, none⟩)])
  ho : w.heap[cb]? = some ob
  hn : w.cell? ⟨nb, 0, none⟩ = some (.int .i64 (n : Int))
  hz : w.frozen? ⟨nb, 0, none⟩ = false

theorem Told.keep {w w' : World} {gb bb fb nb cb g : Nat} {b : Bool} {fv : Nat} {ob : Obj} {n : Nat} (h : Told w gb bb fb nb cb g b fv ob n) (k : Kept0 w w') : Told w' gb bb fb nb cb g b fv ob n :=
  ⟨kcell k h.hg, kcell k h.hb, kcell k h.hf, (k.block _ (Array.getElem?_eq_some_iff.1 h.ho).1 (fun e => e)).trans h.ho, kcell k h.hn, kfrozen k h.hn h.hz⟩

theorem upd_self {f : Nat → Cel} {i : Nat} {x : Cel} (h : x = f i) (k : Nat) : f k = upd f i x k := by
  unfold upd
  by_cases e : k = i
  · rw [if_pos e, e, h]
  · rw [if_neg e]

set_option maxHeartbeats 2000000 in
theorem visit_any (gb bb fb nb cb g t cap R C : Nat) (b : Bool) (fv : Nat) (ob : Obj) (n : Nat) (h : Cel → Cel) (f : Nat → Cel) (r c : Int) (w : World) (hT : Told w gb bb fb nb cb g b fv ob n) (hB : Becomes fv cb ob h) (hg : GridAt w g t cap R C f) (hth : There R C r c) (hn : n ≤ 70000) (hnt : nb ≠ t) (hng : nb ≠ g) :
    Calls Try.prog 44 #[.agg #[.int .i64 r, .int .i64 c], .pointer (some ⟨gb, 0, none⟩), .pointer (some ⟨bb, 0, none⟩), .pointer (some ⟨fb, 0, none⟩), .pointer (some ⟨nb, 0, none⟩)] w fun e w' => e = .returned (.tuple #[]) ∧
      GridAt w' g t cap R C (upd f (idx C r c) (one b h (f (idx C r c)))) ∧ w'.cell? ⟨nb, 0, none⟩ = some (.int .i64 ((n + (if one b h (f (idx C r c)) = f (idx C r c) then 0 else 1) : Nat) : Int)) ∧ w'.frozen? ⟨nb, 0, none⟩ = false ∧ Kept (fun q => q = t ∨ q = nb) w w' := by
  obtain ⟨x, hx⟩ : ∃ x, x = f (idx C r c) := ⟨_, rfl⟩
  rw [← hx]
  obtain ⟨G, hG⟩ : ∃ G : World → Prop, G = fun w' => GridAt w' g t cap R C (upd f (idx C r c) (one b h x)) ∧ w'.cell? ⟨nb, 0, none⟩ = some (.int .i64 ((n + (if one b h x = x then 0 else 1) : Nat) : Int)) ∧ w'.frozen? ⟨nb, 0, none⟩ = false ∧ Kept (fun q => q = t ∨ q = nb) w w' := ⟨_, rfl⟩
  have hGi : ∀ w', (GridAt w' g t cap R C (upd f (idx C r c) (one b h x)) ∧ w'.cell? ⟨nb, 0, none⟩ = some (.int .i64 ((n + (if one b h x = x then 0 else 1) : Nat) : Int)) ∧ w'.frozen? ⟨nb, 0, none⟩ = false ∧ Kept (fun q => q = t ∨ q = nb) w w') → G w' := fun w' h => by rw [hG]; exact h
  suffices hs : Calls Try.prog 44 #[.agg #[.int .i64 r, .int .i64 c], .pointer (some ⟨gb, 0, none⟩), .pointer (some ⟨bb, 0, none⟩), .pointer (some ⟨fb, 0, none⟩), .pointer (some ⟨nb, 0, none⟩)] w fun e w' => e = .returned (.tuple #[]) ∧ G w' by
    rw [hG] at hs; exact hs
  have HGI := Lib.hid hGi
  clear hG hGi
  have HX := Lib.hid hx
  have HB := Lib.hid hB
  have HG := Lib.hid hg
  have HT := Lib.hid hth
  have h1 := hT.hg
  have hgl := World.block_lt_of_cell? w _ h1
  clear hx hB hg hth
  obtain ⟨xg, xa, xb, xm⟩ := x
  obtain ⟨y, hy⟩ : ∃ y, y = h ⟨xg, xa, xb, xm⟩ := ⟨_, rfl⟩
  have HC := Lib.hid (HB.out.2 ⟨xg, xa, xb, xm⟩)
  have eg := HB.out.1
  rw [← hy] at HC
  have HY := Lib.hid hy
  clear hy HB
  go_enter Try.func44, Try.ntmps44
  go_wp2_with fail
  have k0 : Kept0 w (w.alloc (.cells #[.int .i64 r, .int .i64 c] 36)) := (Kept.refl _ w).alloc _
  refine (at_in g t cap R C f r c _ (HG.out.kept k0 (fun e => e) (fun e => e)) HT.out).mono ?_
  rw [← HX.out]
  rintro e w1 ⟨rfl, hk1⟩
  have p0 : w1.cell? ⟨w.heap.size, 0, none⟩ = some (.int .i64 r) := kcell hk1 (by simp [go_sem])
  have p1 : w1.cell? ⟨w.heap.size, 1, none⟩ = some (.int .i64 c) := kcell hk1 (by simp [go_sem])
  have kk := k0.trans hk1
  have hT1 := Lib.hid (hT.keep kk)
  have hb := hT1.out.hb
  have hf := hT1.out.hf
  have hbl := World.block_lt_of_cell? w1 _ hb
  have hfl := World.block_lt_of_cell? w1 _ hf
  clear hk1 k0 hT h1
  have HG1 := Lib.hid (HG.out.kept kk (fun e => e) (fun e => e))
  clear HG
  cases b
  · have HE : Hid (one false h ⟨xg, xa, xb, xm⟩ = y) := by show _ = _; rw [HY.out]; rfl
    go_wp2_with fail
    obtain ⟨W, hW⟩ : ∃ W, W = w1.alloc (.cells #[.int .i32 xg, .int .i64 xa, .bool xb, .int .i64 xm] 38) := ⟨_, rfl⟩
    have kW : Kept0 w1 W := by rw [hW]; exact (Kept.refl _ w1).alloc _
    have hc : CelAt W w1.heap.size ⟨xg, xa, xb, xm⟩ := by rw [hW]; exact CelAt.new w1 ⟨xg, xa, xb, xm⟩ 38
    rw [← hW]
    clear hW
    refine (HC.out W (hT1.out.keep kW).ho).mono ?_
    rintro e w2 ⟨rfl, hk2⟩
    have k2 := kW.trans hk2
    have p2 := kcell k2 p0
    have p3 := kcell k2 p1
    obtain ⟨x0, x1, x2, x3⟩ := hc.kept hk2 (fun e => e)
    have hT2 := Lib.hid (hT1.out.keep k2)
    have q1 := hT2.out.hg
    have q2 := hT2.out.hn
    have q3 := hT2.out.hz
    have l1 := World.block_lt_of_cell? w2 _ p2
    have l2 := World.block_lt_of_cell? w2 _ q1
    have l3 := World.block_lt_of_cell? w2 _ q2
    have l4 := World.block_lt_of_cell? w2 _ x0
    have HG2 := Lib.hid (HG1.out.kept k2 (fun e => e) (fun e => e))
    have kk2 := Lib.hid (kk.trans k2)
    have heq := eq_cel y ⟨xg, xa, xb, xm⟩
    obtain ⟨D, hD⟩ : ∃ D, D = decide (y = ⟨xg, xa, xb, xm⟩) := ⟨_, rfl⟩
    rw [← hD] at heq
    have HD := Lib.hid hD
    simp only at x0 x1 x2 x3
    clear hD HC hT1 HG1 kk kW hk2 k2 p0 p1 hc
    cases D
    · have hyx : ¬ y = ⟨xg, xa, xb, xm⟩ := of_decide_eq_false HD.out.symm
      have HYX := Lib.hid hyx
      clear hyx
      go_wp2_with fail
      obtain ⟨V, hV⟩ : ∃ V, V = w2.alloc (.cells #[.int .i32 y.g, .int .i64 y.a, .bool y.b, .int .i64 y.m] 38) := ⟨_, rfl⟩
      have kV : Kept0 w2 V := by rw [hV]; exact (Kept.refl _ w2).alloc _
      rw [← hV]
      clear hV
      refine (set_in g t cap R C f r c y V (HG2.out.kept kV (fun e => e) (fun e => e)) HT.out).mono ?_
      rintro e w3 ⟨rfl, hG3, hk3⟩
      have r1 := kcellS hk3 (kcell kV q2) hnt
      have r2 : w3.frozen? ⟨nb, 0, none⟩ = false := (hk3.frozen (World.block_lt_of_cell? V _ (kcell kV q2)) hnt).trans (kfrozen kV q2 q3)
      have r3 := World.block_lt_of_cell? w3 _ r1
      have K3 : Hid (Kept (fun q => q = t ∨ q = nb) w w3) := ((show Kept0 w V from kk2.out.trans kV).to).trans (hk3.mono (fun _ _ e => Or.inl e))
      have HG3 := Lib.hid hG3
      clear hG3 hk3 kV
      go_wp2_with fail
      go_end0
      refine ⟨rfl, HGI.out _ ?_⟩
      rw [HE.out, if_neg HYX.out]
      have hk4 : Kept (· = nb) w3 (w3.setCell ⟨nb, 0, none⟩ (.int .i64 ((n : Int) + 1))) := Kept.set1 _ _ _ _
      exact ⟨HG3.out.kept hk4 (fun e => hng e.symm) (fun e => hnt e.symm), by simp [go_sem, r1], by simp [go_sem, r2], K3.out.setCell _ (Or.inr (Or.inr rfl)) _⟩
    · have hyx : y = ⟨xg, xa, xb, xm⟩ := of_decide_eq_true HD.out.symm
      have HYX := Lib.hid hyx
      clear hyx
      go_wp2_with fail
      go_end0
      refine ⟨rfl, HGI.out _ ?_⟩
      rw [HE.out, if_pos HYX.out]
      have k8 : Kept0 w2 (w2.alloc (.cells #[.int .i32 y.g, .int .i64 y.a, .bool y.b, .int .i64 y.m] 38)) := (Kept.refl _ w2).alloc _
      have k9 : Kept0 w (w2.alloc (.cells #[.int .i32 y.g, .int .i64 y.a, .bool y.b, .int .i64 y.m] 38)) := kk2.out.trans k8
      have hT3 := hT2.out.keep k8
      exact ⟨(HG2.out.kept k8 (fun e => e) (fun e => e)).congr (fun k _ => upd_self (HYX.out.trans HX.out) k), hT3.hn, hT3.hz, k9.to⟩
  · cases xb
    · have HE : Hid (one true h ⟨xg, xa, false, xm⟩ = y) := by show _ = _; rw [HY.out]; rfl
      go_wp2_with fail
      obtain ⟨W, hW⟩ : ∃ W, W = w1.alloc (.cells #[.int .i32 xg, .int .i64 xa, .bool false, .int .i64 xm] 38) := ⟨_, rfl⟩
      have kW : Kept0 w1 W := by rw [hW]; exact (Kept.refl _ w1).alloc _
      have hc : CelAt W w1.heap.size ⟨xg, xa, false, xm⟩ := by rw [hW]; exact CelAt.new w1 ⟨xg, xa, false, xm⟩ 38
      rw [← hW]
      clear hW
      refine (HC.out W (hT1.out.keep kW).ho).mono ?_
      rintro e w2 ⟨rfl, hk2⟩
      have k2 := kW.trans hk2
      have p2 := kcell k2 p0
      have p3 := kcell k2 p1
      obtain ⟨x0, x1, x2, x3⟩ := hc.kept hk2 (fun e => e)
      have hT2 := Lib.hid (hT1.out.keep k2)
      have q1 := hT2.out.hg
      have q2 := hT2.out.hn
      have q3 := hT2.out.hz
      have l1 := World.block_lt_of_cell? w2 _ p2
      have l2 := World.block_lt_of_cell? w2 _ q1
      have l3 := World.block_lt_of_cell? w2 _ q2
      have l4 := World.block_lt_of_cell? w2 _ x0
      have HG2 := Lib.hid (HG1.out.kept k2 (fun e => e) (fun e => e))
      have kk2 := Lib.hid (kk.trans k2)
      have heq := eq_cel y ⟨xg, xa, false, xm⟩
      obtain ⟨D, hD⟩ : ∃ D, D = decide (y = ⟨xg, xa, false, xm⟩) := ⟨_, rfl⟩
      rw [← hD] at heq
      have HD := Lib.hid hD
      simp only at x0 x1 x2 x3
      clear hD HC hT1 HG1 kk kW hk2 k2 p0 p1 hc
      cases D
      · have hyx : ¬ y = ⟨xg, xa, false, xm⟩ := of_decide_eq_false HD.out.symm
        have HYX := Lib.hid hyx
        clear hyx
        go_wp2_with fail
        obtain ⟨V, hV⟩ : ∃ V, V = w2.alloc (.cells #[.int .i32 y.g, .int .i64 y.a, .bool y.b, .int .i64 y.m] 38) := ⟨_, rfl⟩
        have kV : Kept0 w2 V := by rw [hV]; exact (Kept.refl _ w2).alloc _
        rw [← hV]
        clear hV
        refine (set_in g t cap R C f r c y V (HG2.out.kept kV (fun e => e) (fun e => e)) HT.out).mono ?_
        rintro e w3 ⟨rfl, hG3, hk3⟩
        have r1 := kcellS hk3 (kcell kV q2) hnt
        have r2 : w3.frozen? ⟨nb, 0, none⟩ = false := (hk3.frozen (World.block_lt_of_cell? V _ (kcell kV q2)) hnt).trans (kfrozen kV q2 q3)
        have r3 := World.block_lt_of_cell? w3 _ r1
        have K3 : Hid (Kept (fun q => q = t ∨ q = nb) w w3) := ((show Kept0 w V from kk2.out.trans kV).to).trans (hk3.mono (fun _ _ e => Or.inl e))
        have HG3 := Lib.hid hG3
        clear hG3 hk3 kV
        go_wp2_with fail
        go_end0
        refine ⟨rfl, HGI.out _ ?_⟩
        rw [HE.out, if_neg HYX.out]
        have hk4 : Kept (· = nb) w3 (w3.setCell ⟨nb, 0, none⟩ (.int .i64 ((n : Int) + 1))) := Kept.set1 _ _ _ _
        exact ⟨HG3.out.kept hk4 (fun e => hng e.symm) (fun e => hnt e.symm), by simp [go_sem, r1], by simp [go_sem, r2], K3.out.setCell _ (Or.inr (Or.inr rfl)) _⟩
      · have hyx : y = ⟨xg, xa, false, xm⟩ := of_decide_eq_true HD.out.symm
        have HYX := Lib.hid hyx
        clear hyx
        go_wp2_with fail
        go_end0
        refine ⟨rfl, HGI.out _ ?_⟩
        rw [HE.out, if_pos HYX.out]
        have k8 : Kept0 w2 (w2.alloc (.cells #[.int .i32 y.g, .int .i64 y.a, .bool y.b, .int .i64 y.m] 38)) := (Kept.refl _ w2).alloc _
        have k9 : Kept0 w (w2.alloc (.cells #[.int .i32 y.g, .int .i64 y.a, .bool y.b, .int .i64 y.m] 38)) := kk2.out.trans k8
        have hT3 := hT2.out.keep k8
        exact ⟨(HG2.out.kept k8 (fun e => e) (fun e => e)).congr (fun k _ => upd_self (HYX.out.trans HX.out) k), hT3.hn, hT3.hz, k9.to⟩
    · have HE : Hid (one true h ⟨xg, xa, true, xm⟩ = ⟨xg, xa, true, xm⟩) := rfl
      go_wp2_with fail
      refine bodyPost_ret (v := .tuple #[]) (by simp [results, Try.results44, go_sem]) rfl ⟨rfl, HGI.out _ ?_⟩
      rw [HE.out, if_pos rfl]
      have hT2 := hT1.out.keep ((Kept.refl _ w1).alloc (.cells #[.int .i32 xg, .int .i64 xa, .bool true, .int .i64 xm] 38))
      have k9 : Kept0 w (w1.alloc (.cells #[.int .i32 xg, .int .i64 xa, .bool true, .int .i64 xm] 38)) := kk.alloc _
      exact ⟨(HG1.out.kept ((Kept.refl (fun _ => False) w1).alloc _) (fun e => e) (fun e => e)).congr (fun k _ => upd_self HX.out k), hT2.hn, hT2.hz, k9.to⟩
end Go.Proofs.Ytedgnjideemfbaa
