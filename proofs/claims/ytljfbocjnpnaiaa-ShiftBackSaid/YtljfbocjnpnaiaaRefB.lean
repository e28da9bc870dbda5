/-
  The answer of the document: Field and Copy.
-/
import Derived.Test.YtljfbocjnpnaiaaRefA
namespace Go.Proofs.Ytljfbocjnpnaiaa
open Go.RowKit

theorem gd_idx (C : Nat) (f : Nat → Cel) (r c : Nat) : (f (idx C (r : Int) (c : Int))).b = gd C f r c := by
  simp [idx, gd]

/-- The guard of a cell that is answered. -/
theorem field_b (x : Cel) (w : World) : (Instr.field 44 x.v 2).run Try.prog w = .ok (.bool x.b) w := by kernel_rfl

set_option maxHeartbeats 2000000 in
theorem fieldR (g t cap R C : Nat) (f : Nat → Cel) (r c : Nat) (w : World) (hg : RefAt w g t cap R C f) (hr : r < R) (hc : c < C) :
    Calls Try.prog 23 #[.pointer (some ⟨g, 0, none⟩), .agg #[.int .i64 (r : Int), .int .i64 (c : Int)]] w fun e w' => e = .returned (.tuple #[.int .i64 (lo (gd C f r) c : Int), .int .i64 (hi (gd C f r) (C - 1 - c) c : Int)]) ∧ Kept0 w w' := by
  have hC2 := hg.C2
  have hR2 := hg.R2
  have c1 := hg.c1
  obtain ⟨V, hV⟩ : ∃ V, V = lo (gd C f r) c := ⟨_, rfl⟩
  obtain ⟨U, hU⟩ : ∃ U, U = hi (gd C f r) (C - 1 - c) c := ⟨_, rfl⟩
  rw [← hV, ← hU]
  have HV := Lib.hid hV
  have HU := Lib.hid hU
  have HG := Lib.hid hg
  clear hV hU
  go_enter Try.func23, Try.ntmps23
  go_wp2_with fail
  obtain ⟨W, hW⟩ : ∃ W, W = w.alloc (.cells #[.int .i64 (r : Int), .int .i64 (c : Int)] 26) := ⟨_, rfl⟩
  have q0 : W.cell? ⟨w.heap.size, 0, none⟩ = some (.int .i64 (r : Int)) := by rw [hW]; simp [go_sem]
  have q1 : W.cell? ⟨w.heap.size, 1, none⟩ = some (.int .i64 (c : Int)) := by rw [hW]; simp [go_sem]
  have k0 : Kept0 w W := by rw [hW]; exact (Kept.refl _ w).alloc _
  rw [← hW]
  clear hW
  go_loopw [6] (fun s6 wr => ∃ k : Nat, k ≤ c ∧ s6 = .int .i64 k ∧ Hid (lo (gd C f r) k = V) ∧ Kept0 W wr) (fun s6 _ => (intOf s6).toNat)
  case atStart => exact ⟨c, Nat.le_refl _, rfl, HV.out.symm, Kept.refl _ _⟩
  case round =>
    obtain ⟨k, hk, rfl, HK, hkp⟩ := hrel
    have p0 := kcell hkp q0
    have p1 := kcell hkp q1
    have HG1 : Hid (RefAt wr g t cap R C f) := HG.out.kept (k0.trans hkp) (fun e => e) (fun e => e)
    have hor : (k = 0 ∧ Hid (0 = V)) ∨ ∃ j, k = j + 1 ∧ (gd C f r j = true ∧ Hid (j + 1 = V) ∨ gd C f r j = false ∧ Hid (lo (gd C f r) j = V)) := by
      rcases Nat.eq_zero_or_pos k with rfl | hpos
      · exact Or.inl ⟨rfl, HK.out⟩
      · obtain ⟨j, rfl⟩ : ∃ j, k = j + 1 := ⟨k - 1, by omega⟩
        refine Or.inr ⟨j, rfl, ?_⟩
        have := HK.out
        unfold lo at this
        cases hb : gd C f r j
        · rw [hb] at this; exact Or.inr ⟨rfl, this⟩
        · rw [hb] at this; exact Or.inl ⟨rfl, this⟩
    clear HK
    rcases hor with ⟨rfl, HK2⟩ | ⟨j, rfl, ⟨hb, HK2⟩ | ⟨hb, HK2⟩⟩
    rotate_right
    · have hT : Hid (There R C (r : Int) (j : Int)) := ⟨by omega, by omega, by omega, by omega⟩
      have hfb := field_b (f (idx C (r : Int) (j : Int)))
      rw [gd_idx C f r j, hb] at hfb
      clear hb
      go_wp2_with fail
      refine (getR g t cap R C f _ _ _ HG1.out hT.out).mono ?_
      rintro e w1 ⟨rfl, hk1⟩
      go_wp2_with fail
      go_roundw
      case rel => exact ⟨j, by omega, by go_num, HK2, hkp.trans hk1⟩
      case measure => simp [intOf]
    · go_wp2_with fail
      rw [show ((0 : Nat) : Int) = 0 from rfl]
      obtain ⟨w2, hw2⟩ : ∃ w2, w2 = wr := ⟨_, rfl⟩
      rw [← hw2]
      have hk2 : Hid (Kept0 W w2) := by rw [hw2]; exact hkp
      clear hw2 hkp p0 p1 HG1 hk
      go_loopw [7] (fun s7 wq => ∃ k : Nat, k < C ∧ s7 = .int .i64 k ∧ Hid (hi (gd C f r) (C - 1 - k) k = U) ∧ Kept0 W wq) (fun s7 _ => C - (intOf s7).toNat)
      case atStart => exact ⟨c, hc, rfl, HU.out.symm, hk2.out⟩
      case round =>
        obtain ⟨k, hk, rfl, HK, hkp⟩ := hrel
        have p0 := kcell hkp q0
        have p1 := kcell hkp q1
        have pc := kcell (k0.trans hkp) c1
        have HG1 : Hid (RefAt wr g t cap R C f) := HG.out.kept (k0.trans hkp) (fun e => e) (fun e => e)
        have hor : (k + 1 = C ∧ Hid (k = U)) ∨ (k + 1 < C ∧ (gd C f r (k + 1) = true ∧ Hid (k = U) ∨ gd C f r (k + 1) = false ∧ Hid (hi (gd C f r) (C - 1 - (k + 1)) (k + 1) = U))) := by
          by_cases hpos : k + 1 = C
          · refine Or.inl ⟨hpos, ?_⟩
            have := HK.out
            rw [show C - 1 - k = 0 by omega] at this
            exact this
          · refine Or.inr ⟨by omega, ?_⟩
            have := HK.out
            rw [show C - 1 - k = C - 1 - (k + 1) + 1 by omega] at this
            unfold hi at this
            cases hb : gd C f r (k + 1)
            · rw [hb] at this; exact Or.inr ⟨rfl, this⟩
            · rw [hb] at this; exact Or.inl ⟨rfl, this⟩
        clear HK
        rcases hor with ⟨hk3, HK3⟩ | ⟨hk3, ⟨hb, HK3⟩ | ⟨hb, HK3⟩⟩
        · go_wp2_with fail
          refine bodyPost_ret (v := .tuple #[.int .i64 (V : Int), .int .i64 (U : Int)]) (by have h1 := HK2.out; have h2 := HK3.out; simp [results, Try.results23, go_sem, ← h1, h2]) rfl ⟨rfl, k0.trans hkp⟩
        · have hT : Hid (There R C (r : Int) ((k : Int) + 1)) := ⟨by omega, by omega, by omega, by omega⟩
          have hfb := field_b (f (idx C (r : Int) ((k : Int) + 1)))
          rw [show ((k : Int) + 1) = ((k + 1 : Nat) : Int) by omega, gd_idx C f r (k + 1), hb] at hfb
          rw [show (((k + 1 : Nat) : Int)) = (k : Int) + 1 by omega] at hfb
          clear hb
          go_wp2_with fail
          refine (getR g t cap R C f _ _ _ HG1.out hT.out).mono ?_
          rintro e w3 ⟨rfl, hk4⟩
          go_wp2_with fail
          refine bodyPost_ret (v := .tuple #[.int .i64 (V : Int), .int .i64 (U : Int)]) (by have h1 := HK2.out; have h2 := HK3.out; simp [results, Try.results23, go_sem, ← h1, h2]) rfl ⟨rfl, (k0.trans hkp).trans hk4⟩
        · have hT : Hid (There R C (r : Int) ((k : Int) + 1)) := ⟨by omega, by omega, by omega, by omega⟩
          have hfb := field_b (f (idx C (r : Int) ((k : Int) + 1)))
          rw [show ((k : Int) + 1) = ((k + 1 : Nat) : Int) by omega, gd_idx C f r (k + 1), hb] at hfb
          rw [show (((k + 1 : Nat) : Int)) = (k : Int) + 1 by omega] at hfb
          clear hb
          go_wp2_with fail
          refine (getR g t cap R C f _ _ _ HG1.out hT.out).mono ?_
          rintro e w3 ⟨rfl, hk4⟩
          go_wp2_with fail
          go_roundw
          case rel => exact ⟨k + 1, by omega, by go_num, HK3, hkp.trans hk4⟩
          case measure => simp [intOf]; omega
    · have hT : Hid (There R C (r : Int) (j : Int)) := ⟨by omega, by omega, by omega, by omega⟩
      have hfb := field_b (f (idx C (r : Int) (j : Int)))
      rw [gd_idx C f r j, hb] at hfb
      clear hb
      go_wp2_with fail
      refine (getR g t cap R C f _ _ _ HG1.out hT.out).mono ?_
      rintro e w2 ⟨rfl, hk1⟩
      have hk2 : Hid (Kept0 W w2) := hkp.trans hk1
      replace p1 := kcell hk2.out q1
      go_wp2_with fail
      clear hkp p0 p1 HG1 hk hk1 hfb
      go_loopw [7] (fun s7 wq => ∃ k : Nat, k < C ∧ s7 = .int .i64 k ∧ Hid (hi (gd C f r) (C - 1 - k) k = U) ∧ Kept0 W wq) (fun s7 _ => C - (intOf s7).toNat)
      case atStart => exact ⟨c, hc, rfl, HU.out.symm, hk2.out⟩
      case round =>
        obtain ⟨k, hk, rfl, HK, hkp⟩ := hrel
        have p0 := kcell hkp q0
        have p1 := kcell hkp q1
        have pc := kcell (k0.trans hkp) c1
        have HG1 : Hid (RefAt wr g t cap R C f) := HG.out.kept (k0.trans hkp) (fun e => e) (fun e => e)
        have hor : (k + 1 = C ∧ Hid (k = U)) ∨ (k + 1 < C ∧ (gd C f r (k + 1) = true ∧ Hid (k = U) ∨ gd C f r (k + 1) = false ∧ Hid (hi (gd C f r) (C - 1 - (k + 1)) (k + 1) = U))) := by
          by_cases hpos : k + 1 = C
          · refine Or.inl ⟨hpos, ?_⟩
            have := HK.out
            rw [show C - 1 - k = 0 by omega] at this
            exact this
          · refine Or.inr ⟨by omega, ?_⟩
            have := HK.out
            rw [show C - 1 - k = C - 1 - (k + 1) + 1 by omega] at this
            unfold hi at this
            cases hb : gd C f r (k + 1)
            · rw [hb] at this; exact Or.inr ⟨rfl, this⟩
            · rw [hb] at this; exact Or.inl ⟨rfl, this⟩
        clear HK
        rcases hor with ⟨hk3, HK3⟩ | ⟨hk3, ⟨hb, HK3⟩ | ⟨hb, HK3⟩⟩
        · go_wp2_with fail
          refine bodyPost_ret (v := .tuple #[.int .i64 (V : Int), .int .i64 (U : Int)]) (by have h1 := HK2.out; have h2 := HK3.out; simp [results, Try.results23, go_sem, ← h1, h2]) rfl ⟨rfl, k0.trans hkp⟩
        · have hT : Hid (There R C (r : Int) ((k : Int) + 1)) := ⟨by omega, by omega, by omega, by omega⟩
          have hfb := field_b (f (idx C (r : Int) ((k : Int) + 1)))
          rw [show ((k : Int) + 1) = ((k + 1 : Nat) : Int) by omega, gd_idx C f r (k + 1), hb] at hfb
          rw [show (((k + 1 : Nat) : Int)) = (k : Int) + 1 by omega] at hfb
          clear hb
          go_wp2_with fail
          refine (getR g t cap R C f _ _ _ HG1.out hT.out).mono ?_
          rintro e w3 ⟨rfl, hk4⟩
          go_wp2_with fail
          refine bodyPost_ret (v := .tuple #[.int .i64 (V : Int), .int .i64 (U : Int)]) (by have h1 := HK2.out; have h2 := HK3.out; simp [results, Try.results23, go_sem, ← h1, h2]) rfl ⟨rfl, (k0.trans hkp).trans hk4⟩
        · have hT : Hid (There R C (r : Int) ((k : Int) + 1)) := ⟨by omega, by omega, by omega, by omega⟩
          have hfb := field_b (f (idx C (r : Int) ((k : Int) + 1)))
          rw [show ((k : Int) + 1) = ((k + 1 : Nat) : Int) by omega, gd_idx C f r (k + 1), hb] at hfb
          rw [show (((k + 1 : Nat) : Int)) = (k : Int) + 1 by omega] at hfb
          clear hb
          go_wp2_with fail
          refine (getR g t cap R C f _ _ _ HG1.out hT.out).mono ?_
          rintro e w3 ⟨rfl, hk4⟩
          go_wp2_with fail
          go_roundw
          case rel => exact ⟨k + 1, by omega, by go_num, HK3, hkp.trans hk4⟩
          case measure => simp [intOf]; omega

set_option maxHeartbeats 1000000 in
theorem copyR (g t cap R C : Nat) (f : Nat → Cel) (w : World) (hg : RefAt w g t cap R C f) :
    Calls Try.prog 40 #[.pointer (some ⟨g, 0, none⟩)] w fun e w' => ∃ g' t' cap', e = .returned (.pointer (some ⟨g', 0, none⟩)) ∧ w.heap.size ≤ g' ∧ w.heap.size ≤ t' ∧ RefAt w' g' t' cap' R C f ∧ Kept0 w w' := by
  have hRC : R * C ≤ 65025 := Nat.mul_le_mul hg.R2 hg.C2
  have hN1 : 1 ≤ R * C := Nat.mul_pos hg.R1 hg.C1
  have hrow := hg.row
  have c0 := hg.c0
  have c1 := hg.c1
  have c2 := hg.c2
  have hgl := hg.lt
  have m1 : ¬ g = w.heap.size := by omega
  have m2 : ¬ w.heap.size = g := by omega
  obtain ⟨N, hN⟩ : ∃ N, N = R * C := ⟨_, rfl⟩
  rw [← hN] at c2 hRC hN1 hrow
  have HN := Lib.hid hN
  clear hN
  obtain ⟨i0, hi, hz0, hz1, hz2⟩ := info_parts Try.info44
  go_enter Try.func40, Try.ntmps40
  go_wp2_with fail
  go_region
  go_wp2_with fail
  obtain ⟨w1, hw1⟩ : ∃ w1, w1 = (w.alloc (.cells #[.int .i64 R, .int .i64 C, .slice none 0 0] 40)).drew := ⟨_, rfl⟩
  have hk1 : Kept0 w w1 := by rw [hw1]; exact ((Kept.refl _ w).alloc _).drew
  have hh1 : w1.heap[w.heap.size]? = some (.cells #[.int .i64 R, .int .i64 C, .slice none 0 0] 40 (0, 0)) := by rw [hw1]; exact heap_new w _
  have hs1 : w1.heap.size = w.heap.size + 1 := by rw [hw1]; simp [World.drew]
  rw [← hw1]
  clear hw1
  have d2 := kcell hk1 c2
  have e2 : w1.cell? ⟨w.heap.size, 2, none⟩ = some (.slice none 0 0) := by simp [World.cell?, hh1]
  have e3 : w1.frozen? ⟨w.heap.size, 2, none⟩ = false := by simp [World.frozen?, hh1]
  have hrow1 := hrow.kept hk1 (fun e => e)
  have HS := Lib.hid hs1
  have hs2 : w.heap.size < w1.heap.size := by omega
  clear hs1 c0 c1 c2
  have hnews : ∀ j u, (parts f 0 N)[j]? = some u → w1.drew.cell? ((⟨t, 0, none⟩ : Addr).add j) = some u := by
    intro j u hj
    have hlt : j < N * 4 := by have := (List.getElem?_eq_some_iff.1 hj).1; rwa [parts_length] at this
    rw [parts_get _ _ _ _ hlt] at hj
    rw [addr_add, ← hj]
    simpa using (CellsAt.part hrow1 hlt : w1.cell? ⟨t, j, none⟩ = _)
  have HNW := Lib.hid hnews
  clear hnews
  go_region_law (first | (refine step_append_lies _ rfl (.tmp 18) (.tmp 22) 38 rfl w1.heap.size 44 i0 (.agg #[.int .i32 0, .int .i64 0, .bool false, .int .i64 0]) 4 32 Try.underlying38 hi hz0 hz1 hz2 rfl (by decide) (.slice none 0 0) 0 [] rfl (World.ownsRow_nil _ _ _ _) ⟨t, 0, none⟩ N cap (parts f 0 N) rfl (by simp [parts_length]) HNW.out (parts_one _ _ _) (by omega) (by unfold maxLen; omega) (by omega) (Nat.le_refl _) w1.heap.size rfl ?_; intro g' cap' w2 hown hgrow _ _; have q2 : w2.cell? ⟨w.heap.size, 2, none⟩ = some (.slice none 0 0) := (World.cell?_of_block (hgrow.block _ hs2 (by simp [Value.ownBlock]))).trans e2; have q3 : w2.frozen? ⟨w.heap.size, 2, none⟩ = false := (World.frozen?_of_block (hgrow.block _ hs2 (by simp [Value.ownBlock]))).trans e3))
  all_goals
    go_wp2_with fail
    go_ret
    have hkg0 : Kept0 w1.drew w2 := (Kept.ofGrown hgrow).mono (fun _ _ e => by simp [Value.ownBlock] at e)
    have hkg : Kept0 w1 w2 := (Kept.refl _ w1).drew.trans hkg0
    obtain ⟨t', cap2, hv, ht', hcap, hI⟩ := cells_of_owned (n := N) (f := f) (by simpa using hown) (fun j hj => by have := parts_get f 0 N j hj; simpa using this) hN1
    simp only [Value.slice.injEq, Option.some.injEq, Addr.mk.injEq] at hv
    obtain ⟨⟨rfl, _⟩, _, rfl⟩ := hv
    have hh2 : w2.heap[w.heap.size]? = some (.cells #[.int .i64 R, .int .i64 C, .slice none 0 0] 40 (0, 0)) := (hkg.block _ hs2 (fun e => e)).trans hh1
    have hs9 := HS.out
    obtain rfl := HN.out
    have ks : Kept (· = w.heap.size) w2 (w2.setCell ⟨w.heap.size, 2, none⟩ (.slice (some ⟨g', 0, none⟩) (R * C) cap')) := (Kept.refl (· = w.heap.size) w2).setCell ⟨w.heap.size, 2, none⟩ (Or.inr rfl) _
    refine ⟨w.heap.size, g', cap', rfl, Nat.le_refl _, by omega, ⟨?_, hI.kept ks (by omega), hcap, hg.R1, hg.R2, hg.C1, hg.C2⟩, ?_⟩
    · simp [World.setCell, Array.getElem?_modify, hh2]
    · exact (hk1.trans hkg).setCell _ (Or.inl (Nat.le_refl _)) _
end Go.Proofs.Ytljfbocjnpnaiaa
