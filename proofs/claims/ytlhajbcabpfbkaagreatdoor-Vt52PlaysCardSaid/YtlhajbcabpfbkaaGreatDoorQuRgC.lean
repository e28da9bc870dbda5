/-
  What is fetched: the iterator over the first bytes of a ring, which takes them off it.
-/
import Derived.Test.YtlhajbcabpfbkaaGreatDoorQuRgB
import Derived.Test.YtlhajbcabpfbkaaGreatDoorQuRangeU
import Derived.Stop.RegionWithIn
import Derived.Deep.DeepCutAuto
namespace Go.Proofs.YtlhajbcabpfbkaaGreatDoor.Qu
open Go.RowKit Go.Maps

section
variable {w w' : World} {b g most : Nat} {xs : List UInt8} {over : Bool}
/-- What the iterator reads, where bytes are left. -/
theorem Qf.pop {x : UInt8} {rest : List UInt8} (h : Qf w b g most (x :: rest) over) : ∃ f f' cap : Nat, w.cell? ⟨b, 0, none⟩ = some (.slice (some ⟨g, 0, none⟩) most cap) ∧ w.cell? ⟨b, 1, none⟩ = some (.int .i64 (f : Int)) ∧ w.cell? ⟨b, 2, none⟩ = some (.int .i64 ((rest.length + 1 : Nat) : Int)) ∧
    w.cell? ⟨g, f, none⟩ = some (encB x) ∧ f < most ∧ (IntKind.i64.wrap ((f : Int) + 1)).tmod (most : Int) = (f' : Int) ∧ w.frozen? ⟨b, 1, none⟩ = false ∧ w.frozen? ⟨b, 2, none⟩ = false ∧
    Qf ((w.setCell ⟨b, 1, none⟩ (.int .i64 (f' : Int))).setCell ⟨b, 2, none⟩ (.int .i64 (rest.length : Int))) b g most rest over ∧ Kept (· = b) w ((w.setCell ⟨b, 1, none⟩ (.int .i64 (f' : Int))).setCell ⟨b, 2, none⟩ (.int .i64 (rest.length : Int))) := by
  have hgl := h.ltg
  have hlen := h.len
  have hm := h.le
  have hne := h.ne
  obtain ⟨f, cap, h1, h2, h3, cur, h4, h5, h6⟩ := h.at_
  have hlen' : rest.length + 1 ≤ most := by simpa using hlen
  have hf := h2 (by omega)
  have hq : (IntKind.i64.wrap ((f : Int) + 1)).tmod (most : Int) = (((f + 1) % most : Nat) : Int) := by
    rw [IntWalk.i64_left, w64 (by omega) (by omega)]
    rw [show (f : Int) + 1 = ((f + 1 : Nat) : Int) by omega]
    exact (Int.ofNat_tmod _ _).symm
  have hk : Kept (· = b) w ((w.setCell ⟨b, 1, none⟩ (.int .i64 (((f + 1) % most : Nat) : Int))).setCell ⟨b, 2, none⟩ (.int .i64 (rest.length : Int))) :=
    Kept.setCell (S := (· = b)) (Kept.setCell (S := (· = b)) (Kept.refl _ w) ⟨b, 1, none⟩ (Or.inr rfl) _) ⟨b, 2, none⟩ (Or.inr rfl) _
  have hx := h6 0 x rfl
  rw [Nat.add_zero, Nat.mod_eq_of_lt hf] at hx
  refine ⟨f, (f + 1) % most, cap, by simp [World.cell?, h1], by simp [World.cell?, h1], by simp [World.cell?, h1], by simp [World.cell?, h4, hx], hf, hq, by simp [World.frozen?, h1], by simp [World.frozen?, h1], ⟨⟨(f + 1) % most, cap, ?_, fun h => Nat.mod_lt _ h, Nat.le_of_lt (Nat.mod_lt _ (by omega)), cur, (hk.block _ hgl hne).trans h4, h5, fun i y hy => ?_⟩, hne, hm, by omega⟩, hk⟩
  · simp [World.setCell, Array.getElem?_modify, h1]
  · have := h6 (i + 1) y (by simpa using hy)
    rw [Nat.mod_add_mod]
    rwa [show f + (i + 1) = f + 1 + i by omega] at this
theorem Qf.c0 (h : Qf w b g most xs over) : ∃ cap, w.cell? ⟨b, 0, none⟩ = some (.slice (some ⟨g, 0, none⟩) most cap) := by
  obtain ⟨f, cap, h1, _⟩ := h.at_
  exact ⟨cap, by simp [World.cell?, h1]⟩
end
/-- How many bytes are fetched. -/
def takeN (n : Int) (xs : List UInt8) : Nat := min n.toNat xs.length
/-- The iterator's two variables. -/
structure Boxes (w : World) (bn br b : Nat) (n : Int) : Prop where
  n : w.cell? ⟨bn, 0, none⟩ = some (.int .i64 n)
  r : w.cell? ⟨br, 0, none⟩ = some (ptr b)
theorem Boxes.kept {w w' : World} {bn br b : Nat} {n : Int} (h : Boxes w bn br b n) {T : Nat → Prop} (k : Kept T w w') (h1 : ¬ T bn) (h2 : ¬ T br) : Boxes w' bn br b n :=
  ⟨(k.cell (World.block_lt_of_cell? w _ h.n) h1).trans h.n, (k.cell (World.block_lt_of_cell? w _ h.r) h2).trans h.r⟩
def encX (xs : List UInt8) (k : Nat) : Array Value := #[encB (xs.getD k 0)]
set_option maxRecDepth 100000 in
set_option maxHeartbeats 4000000 in
theorem taken_iter (bn br b g most : Nat) (n : Int) (xs : List UInt8) (over : Bool) (hn : bn ≠ b) (hr : br ≠ b) :
    IterU Tryz.prog 68 #[ptr bn, ptr br] (encX xs) (takeN n xs) (fun i => i = b ∨ i = g ∨ i = bn ∨ i = br) (fun W => Boxes W bn br b n ∧ Qf W b g most xs over) (fun W => Qf W b g most (xs.drop (takeN n xs)) over) := by
  intro m l J W hJ ⟨hX, hQ⟩ hY h0
  refine callsIn_wide.2 ?_
  have Y := Lib.hid hY
  have HJ := Lib.hid hJ
  obtain ⟨N, hN⟩ : ∃ N, N = takeN n xs := ⟨_, rfl⟩
  rw [← hN] at Y ⊢
  have hcn := hX.n
  have hcr := hX.r
  have hc2 := hQ.c1
  have HX := Lib.hid hX
  have HQ : Hid (Qf W b g most (xs.drop 0) over) := hQ
  obtain ⟨M, hM⟩ : ∃ M : Int, M = if (xs.length : Int) < n then (xs.length : Int) else n := ⟨_, rfl⟩
  have hMN : M = (N : Int) ∨ M < 0 ∧ N = 0 := by rw [hM, hN]; unfold takeN; split <;> omega
  have hNx : N ≤ xs.length := by rw [hN]; unfold takeN; omega
  have hxl : xs.length ≤ 4096 := by have := HQ.out.le; have h := HQ.out.len; simp at h; omega
  clear hY hJ hX hQ hN
  go_enter Tryz.func68, Tryz.ntmps68
  go_wp2_with fail
  go_quiet (fail)
  rw [← hM]
  have HQ1 : Hid (Qf (W.drewN nq) b g most (xs.drop 0) over) := HQ.out.kept0 ((Kept.refl _ W).drewN _)
  have HX1 : Hid (Boxes (W.drewN nq) bn br b n) := HX.out.kept (T := fun _ => False) ((Kept.refl _ W).drewN _) (fun e => e) (fun e => e)
  have hj1 : J 0 (W.drewN nq) := HJ.out _ _ _ h0 ((Kept.refl _ W).drewN _)
  clear hM hcn hcr hc2 HX HQ h0
  go_wp2_with fail
  go_loopw [11] (fun i wr => ∃ k : Nat, k ≤ N ∧ i = .int .i64 (k : Int) ∧ Hid (Qf wr b g most (xs.drop k) over) ∧ Hid (Boxes wr bn br b n) ∧ J k wr) (fun i _ => N - (num i).toNat)
  case atStart => exact ⟨0, by omega, rfl, HQ1, HX1, hj1⟩
  case round =>
    clear HQ1 HX1 hj1
    obtain ⟨k, hk, rfl, HQ, HX, hj⟩ := hrel
    have hcn := HX.out.n
    have hcr := HX.out.r
    by_cases hlt : k < N
    · have hlt2 : (k : Int) < M := by omega
      obtain ⟨x, rest, hxs⟩ : ∃ x rest, xs.drop k = x :: rest := ⟨xs[k], xs.drop (k + 1), List.drop_eq_getElem_cons (by omega)⟩
      have hq := HQ.out
      rw [hxs] at hq
      have hgx : xs.getD k 0 = x := by
        have : (xs.drop k)[0]? = some x := by rw [hxs]; rfl
        rw [List.getElem?_drop, Nat.add_zero] at this
        rw [List.getD, this]; rfl
      have hrest : rest = xs.drop (k + 1) := by
        have : (xs.drop k).drop 1 = rest := by rw [hxs]; rfl
        rw [← this, List.drop_drop]
      obtain ⟨f, f', cap, d0, d1, d2, d3, hf, hq', z1, z2, hQ2, hK2⟩ := hq.pop
      have HQ2 := Lib.hid hQ2
      have HK2 := Lib.hid hK2
      have hrl : rest.length ≤ 4096 := by rw [hrest, List.length_drop]; omega
      have HS := Lib.hid hrest
      clear hxs hQ2 hK2 hrest hq HQ
      have hmz : ¬ most = 0 := by omega
      go_wp2_with fail
      go_quiet (fail)
      obtain ⟨W2, hW2⟩ : ∃ W2, W2 = wr.drewN nq := ⟨_, rfl⟩
      have k2 : Kept0 wr W2 := by rw [hW2]; exact (Kept.refl _ wr).drewN _
      have e0 := kcell k2 d0
      have e1 := kcell k2 d1
      have e2 := kcell k2 d2
      have y1 : W2.frozen? ⟨b, 1, none⟩ = false := (k2.frozen (World.block_lt_of_cell? wr _ d1) (fun e => e)).trans z1
      have y2 : W2.frozen? ⟨b, 2, none⟩ = false := (k2.frozen (World.block_lt_of_cell? wr _ d1) (fun e => e)).trans z2
      have ecr := kcell k2 hcr
      have KX : Hid (Kept0 ((wr.setCell ⟨b, 1, none⟩ (.int .i64 (f' : Int))).setCell ⟨b, 2, none⟩ (.int .i64 (rest.length : Int))) ((W2.setCell ⟨b, 1, none⟩ (.int .i64 (f' : Int))).setCell ⟨b, 2, none⟩ (.int .i64 (rest.length : Int))).drew) := by
        rw [hW2]
        exact ⟨rfl, rfl, rfl, Nat.le_refl _, fun _ _ _ => rfl⟩
      have KY : Hid (Kept0 wr W2) := k2
      rw [← hW2]
      clear hW2 d0 d1 d2 d3 z1 z2 hcn hcr k2
      have hbr : ¬ b = br := fun e => hr e.symm
      go_wp2_with fail
      go_still_tail 14, (by kernel_rfl)
      repeat still_step
      change wpList _ _ _ _ _ W2.drew
      have hgx' : encX xs k = #[encB x] := by unfold encX; rw [hgx]
      go_upto_region 5 with fail

      obtain ⟨W3, hW3⟩ : ∃ W3, W3 = ((W2.setCell ⟨b, 1, none⟩ (.int .i64 (f' : Int))).setCell ⟨b, 2, none⟩ (.int .i64 (rest.length : Int))).drew := ⟨_, rfl⟩
      rw [← hW3] at KX ⊢
      have HQ3 : Hid (Qf W3 b g most (xs.drop (k + 1)) over) := by
        have := HQ2.out.kept0 KX.out
        unfold Hid
        rwa [HS.out] at this
      have k3 : Kept (· = b) wr W3 := HK2.out.trans KX.out.to
      have HX3 : Hid (Boxes W3 bn br b n) := HX.out.kept k3 hn hr
      have hj3 : J k W3 := HJ.out _ _ _ hj (k3.mono (fun i _ e => Or.inl e))
      obtain ⟨fn, tmps, assign, body, hy, hR⟩ := Y.out k W3 hlt hj3
      rw [hgx'] at hy
      have HR := Lib.hid hR
      clear hR Y hW3 KX KY HQ2 HK2 HX HS k3 hj3 hj e0 e1 e2 y1 y2 ecr
      refine (wpIn_wide (n := 0)).1 ?_
      gi_wp2_with fail
      refine ⟨rfl, RoundIn.mono (roundIn_any HR.out) ?_⟩
      clear hy HR
      rintro e W4 ⟨rfl, hJ4, hk4⟩
      have HQ4 : Hid (Qf W4 b g most (xs.drop (k + 1)) over) := HQ3.out.kept hk4 (fun e => e (Or.inl rfl)) (fun e => e (Or.inr (Or.inl rfl)))
      have HX4 : Hid (Boxes W4 bn br b n) := HX3.out.kept hk4 (fun e => e (Or.inr (Or.inr (Or.inl rfl)))) (fun e => e (Or.inr (Or.inr (Or.inr rfl))))
      clear hk4 HQ3 HX3
      gi_wp2_with fail
      go_wp2_with fail
      go_roundw
      case rel => exact ⟨k + 1, by omega, by go_num, HQ4, HX4, hJ4⟩
      case measure => simp [num]; omega
    · have hlt2 : ¬ (k : Int) < M := by omega
      obtain rfl : k = N := by omega
      go_wp2_with fail
      refine bodyPost_end (results_none rfl _ _ _) rfl ?_
      exact ⟨⟨_, rfl⟩, hj, HQ.out⟩
end Go.Proofs.YtlhajbcabpfbkaaGreatDoor.Qu
