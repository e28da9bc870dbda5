/-
  The statements' own words: Cell, Few, Made.
-/
import Derived.Test.YtkdnjkcebfckiaaRefD
namespace Go.Proofs.Ytkdnjkcebfckiaa
open Go.RowKit

/-- A byte as a cell. -/
def celB (b : Int) : Cel := ⟨b, 0, decide (65 ≤ b) && decide (b ≤ 90), 0⟩

set_option maxHeartbeats 400000 in
theorem cellL (b : Int) (w : World) (h0 : 0 ≤ b) (h1 : b ≤ 255) :
    Calls Try.prog 12 #[.int .u8 b] w fun e w' => e = .returned (celB b).v ∧ Kept0 w w' := by
  obtain ⟨X, hX⟩ : ∃ X, X = celB b := ⟨_, rfl⟩
  rw [← hX]
  have HX := Lib.hid hX
  clear hX
  by_cases h2 : 65 ≤ b
  · by_cases h3 : b ≤ 90
    · go_enter Try.func12, Try.ntmps12
      go_wp2_with fail
      refine bodyPost_ret (v := X.v) (by rw [HX.out]; simp [results, Try.results12, go_sem, celB, h2, h3]) rfl ⟨rfl, (Kept.refl _ w).alloc _⟩
    · go_enter Try.func12, Try.ntmps12
      go_wp2_with fail
      refine bodyPost_ret (v := X.v) (by rw [HX.out]; simp [results, Try.results12, go_sem, celB, h2, h3]) rfl ⟨rfl, (Kept.refl _ w).alloc _⟩
  · have h4 : decide (65 ≤ b) = false := by simpa using h2
    go_enter Try.func12, Try.ntmps12
    go_wp2_with fail
    refine bodyPost_ret (v := X.v) (by rw [HX.out]; simp only [celB, h4]; simp [results, Try.results12, go_sem]) rfl ⟨rfl, (Kept.refl _ w).alloc _⟩

def fewB (L : Nat) (C : Int) : Bool := decide (1 ≤ L ∧ L ≤ 8 ∧ 1 ≤ C ∧ C ≤ 12)

set_option maxHeartbeats 400000 in
theorem few_any (a : Option Addr) (L cap : Nat) (C : Int) (w : World) (hL : L ≤ 9223372036854775807) :
    Calls Try.prog 32 #[.agg #[.slice a L cap, .int .i64 C]] w fun e w' => e = .returned (.bool (fewB L C)) ∧ Kept0 w w' := by
  obtain ⟨B, hB⟩ : ∃ B, B = fewB L C := ⟨_, rfl⟩
  rw [← hB]
  have HB := Lib.hid hB
  clear hB
  go_enter Try.func32, Try.ntmps32
  go_wp2
  all_goals
    go_ret
    refine ⟨ret_bool ?_, (Kept.refl _ w).alloc _⟩
    rw [HB.out]
    unfold fewB
    rw [Bool.eq_iff_iff]
    simp
    try omega

/-- The byte of a text, or a blank behind it. -/
def byteN (s : ByteArray) (k : Nat) : Int := if h : k < s.size then (s[k].toNat : Int) else 32
/-- A board's cells, row by row. -/
def boardF (C : Nat) (l : List ByteArray) : Nat → Cel := fun k => celB (byteN (l.getD (k / C) ⟨#[]⟩) (k % C))
/-- The texts of a list in memory. -/
def StrsIn (w : World) (a : Option Addr) (l : List ByteArray) : Prop := ∀ (i : Nat) (s : ByteArray), l[i]? = some s → ∃ b off, a = some ⟨b, off, none⟩ ∧ w.cell? ⟨b, off + i, none⟩ = some (.string s) ∧ s.size ≤ maxLen
theorem StrsIn.kept0 {w w' : World} {a : Option Addr} {l : List ByteArray} (h : StrsIn w a l) (k : Kept0 w w') : StrsIn w' a l := fun i s hs => by
  obtain ⟨b, off, h1, h2, h3⟩ := h i s hs
  exact ⟨b, off, h1, kcell k h2, h3⟩

/-- The first j are F's, the rest is x. -/
def soFar (F : Nat → Cel) (x : Cel) (j : Nat) : Nat → Cel := fun k => if k < j then F k else x
theorem soFar_step (F : Nat → Cel) (x : Cel) (j k : Nat) : upd (soFar F x j) j (F j) k = soFar F x (j + 1) k := by
  unfold upd soFar
  by_cases h : k = j
  · subst h; rw [if_pos rfl, if_pos (by omega)]
  · rw [if_neg h]
    by_cases h2 : k < j
    · rw [if_pos h2, if_pos (by omega)]
    · rw [if_neg h2, if_neg (by omega)]

theorem parts_succ (f : Nat → Cel) (j : Nat) : parts f 0 (j + 1) = parts f 0 j ++ [.int .i32 (f j).g, .int .i64 (f j).a, .bool (f j).b, .int .i64 (f j).m] := by
  unfold parts
  rw [Nat.add_mul, List.range_add, List.map_append]
  congr 1
  have h : List.range (1 * 4) = [0, 1, 2, 3] := by decide
  rw [h]
  simp only [List.map_cons, List.map_nil, Nat.zero_add]
  rw [show (j * 4 + 0) / 4 = j by omega, show (j * 4 + 0) % 4 = 0 by omega, show (j * 4 + 1) / 4 = j by omega, show (j * 4 + 1) % 4 = 1 by omega, show (j * 4 + 2) / 4 = j by omega, show (j * 4 + 2) % 4 = 2 by omega, show (j * 4 + 3) / 4 = j by omega, show (j * 4 + 3) % 4 = 3 by omega]
  rfl

theorem Kept.grown {w w' : World} {t : Nat} (k : Kept (· = t) w w') : w.grownBy w' (some t) := ⟨k.os, k.tape, k.output, k.size, fun i hi hn => k.block i hi (fun e => hn (by rw [e]))⟩

/-- What stands when j cells are made. -/
structure Half (w wr : World) (ab off capA g t cap rb B R C : Nat) (F : Nat → Cel) (j : Nat) : Prop where
  grid : GridAt wr g t cap R C (soFar F (celB 32) j)
  ref : ∃ v, wr.heap[rb]? = some (.cells #[.int .i64 R, .int .i64 C, v] 70 (0, 0)) ∧ wr.ownsRow B 36 4 v j (parts F 0 j)
  b0 : wr.cell? ⟨w.heap.size, 0, none⟩ = some (.slice (some ⟨ab, off, none⟩) R capA)
  b1 : wr.cell? ⟨w.heap.size, 1, none⟩ = some (.int .i64 C)
  kept : Kept0 w wr

theorem Half.kept0 {w wr w' : World} {ab off capA g t cap rb B R C : Nat} {F : Nat → Cel} {j : Nat} (h : Half w wr ab off capA g t cap rb B R C F j) (k : Kept0 wr w') : Half w w' ab off capA g t cap rb B R C F j := by
  obtain ⟨v, h1, h2⟩ := h.ref
  refine ⟨h.grid.kept k (fun e => e) (fun e => e), ⟨v, (k.block _ (Array.getElem?_eq_some_iff.1 h1).1 (fun e => e)).trans h1, h2.kept (row := none) ⟨k.os, k.tape, k.output, k.size, fun i hi _ => k.block i hi (fun e => e)⟩ ?_⟩, kcell k h.b0, kcell k h.b1, h.kept.trans k⟩
  by_cases e : v.ownBlock = none
  · exact Or.inl e
  · exact Or.inr e

set_option maxHeartbeats 4000000 in
theorem made_any (a : Option Addr) (capA C : Nat) (l : List ByteArray) (w : World) (hl : StrsIn w a l) (h1 : 1 ≤ l.length) (h2 : l.length ≤ 8) (h3 : 1 ≤ C) (h4 : C ≤ 12) :
    Calls Try.prog 11 #[.agg #[.slice a l.length capA, .int .i64 (C : Int)]] w fun e w' => ∃ g t cap g' t' cap', e = .returned (.tuple #[.pointer (some ⟨g, 0, none⟩), .pointer (some ⟨g', 0, none⟩)]) ∧ w.heap.size ≤ g ∧ w.heap.size ≤ t ∧ w.heap.size ≤ g' ∧ w.heap.size ≤ t' ∧ g ≠ g' ∧ g ≠ t' ∧ t ≠ g' ∧ t ≠ t' ∧
      GridAt w' g t cap l.length C (boardF C l) ∧ RefAt w' g' t' cap' l.length C (boardF C l) ∧ Kept0 w w' := by
  obtain ⟨ab, off, rfl⟩ : ∃ ab off, a = some ⟨ab, off, none⟩ := by
    obtain ⟨b, off, h, _⟩ := hl 0 (l[0]'(by omega)) (by simp)
    exact ⟨b, off, h⟩
  replace hl : ∀ i, i < l.length → w.cell? ⟨ab, off + i, none⟩ = some (.string (l.getD i ⟨#[]⟩)) ∧ (l.getD i ⟨#[]⟩).size ≤ maxLen := fun i hi => by
    obtain ⟨b, off', h, h5, h6⟩ := hl i (l[i]'hi) (by simp)
    simp only [Option.some.injEq, Addr.mk.injEq] at h
    obtain ⟨rfl, rfl, _⟩ := h
    rw [List.getD_eq_getElem?_getD, List.getElem?_eq_getElem hi]
    exact ⟨h5, h6⟩
  obtain ⟨R, hR⟩ : ∃ R, R = l.length := ⟨_, rfl⟩
  rw [← hR] at h1 h2 hl ⊢
  have HR := Lib.hid hR
  have HL := Lib.hid hl
  clear hR hl
  obtain ⟨F, hF⟩ : ∃ F, F = boardF C l := ⟨_, rfl⟩
  rw [← hF]
  have HF := Lib.hid hF
  clear hF
  obtain ⟨bl, hbl⟩ : ∃ bl, bl = celB 32 := ⟨_, rfl⟩
  have hcell : ∀ w, Calls Try.prog 12 #[.int .u8 32] w fun e w' => e = .returned bl.v ∧ Kept0 w w' := fun w => by rw [hbl]; exact cellL 32 w (by omega) (by omega)
  have HC := Lib.hid hcell
  have HBL := Lib.hid hbl
  clear hcell hbl
  obtain ⟨i0, hi0, hz0, hz1, hz2⟩ := info_parts Try.info36
  go_enter Try.func11, Try.ntmps11
  go_wp2_with fail
  go_region_held3 (fun w' => w'.cell? ⟨w.heap.size, 0, none⟩ = some (.slice (some ⟨ab, off, none⟩) R capA) ∧ w'.cell? ⟨w.heap.size, 1, none⟩ = some (.int .i64 C)) (go_keep)
    (first
      | (go_at_call 12; refine (HC.out _).mono ?_; rintro e w1 ⟨rfl, hk1⟩; have v0 := kcell hk1 (show World.cell? _ ⟨w.heap.size, 0, none⟩ = some (.slice (some ⟨ab, off, none⟩) R capA) by simp [go_sem]); have v1 := kcell hk1 (show World.cell? _ ⟨w.heap.size, 1, none⟩ = some (.int .i64 C) by simp [go_sem]))
      | (go_at_call 34; refine (new_yes R C bl _ h1 (by omega) h3 (by omega)).mono ?_; rintro e w2 ⟨g, t, rfl, hg, ht, hG, hk2⟩; have v2 := kcell hk2 v0; have v3 := kcell hk2 v1))
  have k1 : Kept0 w w1 := (((Kept.refl _ w).alloc _).drew).trans hk1
  have k2 : Kept0 w w2 := k1.trans hk2
  have hsz : w.heap.size < w1.heap.size := World.block_lt_of_cell? w1 _ v0
  have hgl := hG.lt
  have htl := hG.row.lt
  clear hk1 v0 v1
  go_wp2_with fail
  have hRC : R * C ≤ 8 * 12 := Nat.mul_le_mul h2 h4
  obtain ⟨W, hW⟩ : ∃ W, W = w2.alloc (.cells #[.int .i64 R, .int .i64 C, .slice none 0 0] 70) := ⟨_, rfl⟩
  have kW : Kept0 w2 W := by rw [hW]; exact (Kept.refl _ w2).alloc _
  have hhW : W.heap[w2.heap.size]? = some (.cells #[.int .i64 R, .int .i64 C, .slice none 0 0] 70 (0, 0)) := by rw [hW]; exact heap_new w2 _
  have hH0 : Half w W ab off capA g t (R * C) w2.heap.size (w2.heap.size + 1) R C F 0 := ⟨(hG.kept kW (fun e => e) (fun e => e)).congr (fun k _ => by rw [HBL.out]; rfl), ⟨_, hhW, World.ownsRow_nil _ _ _ _⟩, kcell kW v2, kcell kW v3, k2.trans kW⟩
  rw [← hW]
  clear hW kW hhW v2 v3 hG
  go_loopw [7, 8, 9] (fun s7 s8 s9 wr => ∃ i : Nat, i ≤ R ∧ s7 = .int .i64 (i : Int) ∧ Half w wr ab off capA g t (R * C) w2.heap.size (w2.heap.size + 1) R C F (i * C)) (fun s7 _ _ _ => R - (intOf s7).toNat)
  case atStart => exact ⟨0, by omega, rfl, by simpa using hH0⟩
  case round =>
    obtain ⟨i, hi, rfl, hH⟩ := hrel
    have q0 := hH.b0
    by_cases hlt : i < R
    · obtain ⟨hs, hsm⟩ := HL.out i hlt
      obtain ⟨S, hS⟩ : ∃ S, S = l.getD i ⟨#[]⟩ := ⟨_, rfl⟩
      rw [← hS] at hs hsm
      unfold maxLen at hsm
      have HS := Lib.hid hS
      clear hS
      have hdt : decide ((i : Int) < (R : Int)) = true := by simp; omega
      go_wp2_with fail
      go_loopw [8, 9] (fun s8 s9 wr => ∃ k : Nat, k ≤ C ∧ s8 = .int .i64 (k : Int) ∧ Half w wr ab off capA g t (R * C) w2.heap.size (w2.heap.size + 1) R C F (i * C + k)) (fun s8 _ _ => C - (intOf s8).toNat)
      case atStart => exact ⟨0, by omega, rfl, hH⟩
      case round =>
        obtain ⟨k, hk, rfl, hK⟩ := hrel
        have q0 := hK.b0
        have q1 := hK.b1
        by_cases hlt2 : k < C
        · have hdk : decide ((k : Int) < (C : Int)) = true := by simp; omega
          have hj : i * C + k < R * C := place_lt hlt hlt2
          go_wp2_with fail
          refine (HC.out _).mono ?_
          rintro e w3 ⟨rfl, hk3⟩
          have q03 := kcell hk3 q0
          have q13 := kcell hk3 q1
          have qs := kcell (hK.kept.trans hk3) hs
          have hsb : w.heap.size < w3.heap.size := World.block_lt_of_cell? w3 _ q03
          have hab : ab < w3.heap.size := World.block_lt_of_cell? w3 _ qs
          have hn0 := CelAt.new w3 bl 36
          have hkw : Kept0 wr (w3.alloc (.cells #[.int .i32 bl.g, .int .i64 bl.a, .bool bl.b, .int .i64 bl.m] 36)) := hk3.alloc _
          have hs3 := hk3.size
          clear hk3
          by_cases hlt3 : k < S.size
          · have hks : decide ((k : Int) < (S.size : Int)) = true := by simp; omega
            go_wp2_with fail
            refine (cellL _ _ (by omega) (by have := UInt8.toNat_lt S[k]; omega)).mono ?_
            rintro e w4 ⟨rfl, hk4⟩
            obtain ⟨y, hy⟩ : ∃ y, y = celB (S[k].toNat : Int) := ⟨_, rfl⟩
            have hn4 := hn0.kept hk4 (fun e => e)
            have hfr : ∀ o, o < 4 → w4.frozen? ⟨w3.heap.size, o, none⟩ = false := fun o _ => (hk4.frozen (by simp) (fun e => e)).trans (by simp [go_sem])
            have fr0 := hfr 0 (by omega)
            have fr1 := hfr 1 (by omega)
            have fr2 := hfr 2 (by omega)
            have fr3 := hfr 3 (by omega)
            obtain ⟨q30, q31, q32, q33⟩ := hn4
            have hs4 : w3.heap.size < w4.heap.size := World.block_lt_of_cell? w4 _ q30
            rw [← hy]
            have HY := Lib.hid hy
            have hkw4 := hkw.trans hk4
            clear hfr hk4 hkw hn0 hy
            go_wp2_with fail
            obtain ⟨b5, hb5⟩ : ∃ b5, b5 = w3.heap.size := ⟨_, rfl⟩
            obtain ⟨w5, hw5⟩ : ∃ w5, w5 = ((((w4.setCell ⟨w3.heap.size, 0, none⟩ (.int .i32 y.g)).setCell ⟨w3.heap.size, 1, none⟩ (.int .i64 y.a)).setCell ⟨w3.heap.size, 2, none⟩ (.bool y.b)).setCell ⟨w3.heap.size, 3, none⟩ (.int .i64 y.m)) := ⟨_, rfl⟩
            have k5 : Kept0 wr w5 := by rw [hw5]; exact hkw4.setCel w3.heap.size 0 (Or.inl hs3) y
            have hc5 : CelAt w5 b5 y := by
              rw [hw5, hb5]
              exact ⟨by simp [go_sem, q30], by simp [go_sem, q31], by simp [go_sem, q32], by simp [go_sem, q33]⟩
            rw [← hw5, ← hb5]
            have hyF : y = F (i * C + k) := by
              rw [HY.out, HF.out]
              unfold boardF byteN
              rw [show (i * C + k) / C = i by rw [Nat.mul_comm, Nat.mul_add_div (by omega), Nat.div_eq_of_lt hlt2]; omega, show (i * C + k) % C = k by rw [Nat.mul_comm, Nat.mul_add_mod]; exact Nat.mod_eq_of_lt hlt2, ← HS.out, dif_pos hlt3]
            have htb := hK.grid.row.lt
            have hnb : ¬ b5 = t := by omega
            have hnw : ¬ w.heap.size = t := by omega
            clear hw5 hb5 fr0 fr1 fr2 fr3 q30 q31 q32 q33 q03 q13 qs hkw4
            have hK5 := hK.kept0 k5
            obtain ⟨v, hh, hown⟩ := hK5.ref
            refine (set_in g t (R * C) R C _ _ _ y w5 hK5.grid ⟨by omega, by omega, by omega, by omega⟩).mono ?_
            rintro e w6 ⟨rfl, hG6, hk6⟩
            have hrl : w2.heap.size < w5.heap.size := (Array.getElem?_eq_some_iff.1 hh).1
            have hne : ¬ w2.heap.size = t := by omega
            have hh6 : w6.heap[w2.heap.size]? = some (.cells #[.int .i64 R, .int .i64 C, v] 70 (0, 0)) := (hk6.block _ hrl hne).trans hh
            have hown6 : w6.ownsRow (w2.heap.size + 1) 36 4 v (i * C + k) (parts F 0 (i * C + k)) := hown.kept hk6.grown (by
              by_cases e : v.ownBlock = none
              · exact Or.inl e
              · refine Or.inr (fun e2 => ?_)
                have := (hown.lt _ e2).1
                omega)
            have hc6 := hc5.kept hk6 hnb
            have hGR : Hid (GridAt w6 g t (R * C) R C (soFar F (celB 32) (i * C + k + 1))) := hG6.congr (fun q _ => by
              rw [show idx C (i : Int) (k : Int) = i * C + k by simp [idx], hyF]
              exact soFar_step F (celB 32) (i * C + k) q)
            have hb60 := kcellS hk6 hK5.b0 hnw
            have hb61 := kcellS hk6 hK5.b1 hnw
            have kk6 : Hid (Kept0 w w6) := hK5.kept.later hk6 (fun q hq e => by omega)
            have hF4 : Hid (parts F 0 (i * C + k + 1) = parts F 0 (i * C + k) ++ [.int .i32 y.g, .int .i64 y.a, .bool y.b, .int .i64 y.m]) := by rw [hyF]; exact parts_succ F (i * C + k)
            clear hG6 hh hown hK5 hK hk6 hc5 hrl
            obtain ⟨j, hjd⟩ : ∃ j, j = i * C + k := ⟨_, rfl⟩
            rw [← hjd] at hown6 hF4 hGR hj
            have HJ := Lib.hid hjd
            clear hjd hyF
            have q2 : w6.cell? ⟨w2.heap.size, 2, none⟩ = some v := by simp [World.cell?, hh6]
            have q3 : w6.frozen? ⟨w2.heap.size, 2, none⟩ = false := by simp [World.frozen?, hh6]
            have hrl6 : w2.heap.size < w6.heap.size := (Array.getElem?_eq_some_iff.1 hh6).1
            obtain ⟨y0, y1, y2, y3⟩ := hc6
            have HH6 := Lib.hid hh6
            have HO6 := Lib.hid hown6
            have hbl6 : b5 < w6.heap.size := World.block_lt_of_cell? w6 _ y0
            have hnr1 : ¬ w2.heap.size = w6.heap.size := by omega
            have hnr2 : ¬ w6.heap.size = w2.heap.size := by omega
            clear hh6 hown6
            have HNW : Hid (∀ q u, [Value.int .i32 y.g, .int .i64 y.a, .bool y.b, .int .i64 y.m][q]? = some u → (w6.drew.alloc (.cells #[.int .i32 y.g, .int .i64 y.a, .bool y.b, .int .i64 y.m] 36)).cell? ((⟨w6.heap.size, 0, none⟩ : Addr).add q) = some u) := fun q u hq => by
              rw [addr_add]
              have hq4 : q < 4 := by have := (List.getElem?_eq_some_iff.1 hq).1; simpa using this
              obtain ⟨n0, n1, n2, n3⟩ := CelAt.new w6.drew y 36
              rcases (show q = 0 ∨ q = 1 ∨ q = 2 ∨ q = 3 by omega) with rfl | rfl | rfl | rfl
              · simp only [List.getElem?_cons_zero, Option.some.injEq] at hq; rw [← hq]; exact n0
              · simp only [List.getElem?_cons_succ, List.getElem?_cons_zero, Option.some.injEq] at hq; rw [← hq]; exact n1
              · simp only [List.getElem?_cons_succ, List.getElem?_cons_zero, Option.some.injEq] at hq; rw [← hq]; exact n2
              · simp only [List.getElem?_cons_succ, List.getElem?_cons_zero, Option.some.injEq] at hq; rw [← hq]; exact n3
            have HS7 : Hid ((w6.drew.alloc (.cells #[.int .i32 y.g, .int .i64 y.a, .bool y.b, .int .i64 y.m] 36)).heap.size = w6.heap.size + 1) := World.size_alloc _ _
            have HB7 : Hid (w2.heap.size + 1 ≤ (w6.drew.alloc (.cells #[.int .i32 y.g, .int .i64 y.a, .bool y.b, .int .i64 y.m] 36)).heap.size) := by rw [HS7.out]; exact Nat.succ_le_succ (Nat.le_of_lt hrl6)
            have HO7 : Hid ((w6.drew.alloc (.cells #[.int .i32 y.g, .int .i64 y.a, .bool y.b, .int .i64 y.m] 36)).ownsRow (w2.heap.size + 1) 36 4 v j (parts F 0 j)) := (World.ownsRow.drew HO6.out).alloc _
            have HNV : Hid (some w2.heap.size ≠ v.ownBlock) := fun e => by have := (HO6.out.lt _ e.symm).1; omega
            have HVB : Hid (∀ q, some q = v.ownBlock → w2.heap.size < q) := fun q e => (HO6.out.lt _ e.symm).1
            have HLT : Hid (w2.heap.size < (w6.drew.alloc (.cells #[.int .i32 y.g, .int .i64 y.a, .bool y.b, .int .i64 y.m] 36)).heap.size) := by rw [HS7.out]; exact Nat.lt_succ_of_lt hrl6
            have HQ2 : Hid ((w6.drew.alloc (.cells #[.int .i32 y.g, .int .i64 y.a, .bool y.b, .int .i64 y.m] 36)).cell? ⟨w2.heap.size, 2, none⟩ = some v) := kcell (((Kept.refl (fun _ => False) w6).drew).alloc _) q2
            have HQ3 : Hid ((w6.drew.alloc (.cells #[.int .i32 y.g, .int .i64 y.a, .bool y.b, .int .i64 y.m] 36)).frozen? ⟨w2.heap.size, 2, none⟩ = false) := kfrozen (((Kept.refl (fun _ => False) w6).drew).alloc _) q2 q3
            go_wp2_with fail
            go_region_law (first | (refine step_append_lies _ rfl (.tmp 75) (.tmp 77) 64 rfl (w2.heap.size + 1) 36 i0 (.agg #[.int .i32 0, .int .i64 0, .bool false, .int .i64 0]) 4 32 Try.underlying64 hi0 hz0 hz1 hz2 rfl (by decide) v j (parts F 0 j) rfl HO7.out ⟨w6.heap.size, 0, none⟩ 1 1 [.int .i32 y.g, .int .i64 y.a, .bool y.b, .int .i64 y.m] rfl (by simp) HNW.out (by simp [Value.oneCell']) (by omega) (by unfold maxLen; omega) (by omega) HB7.out (w6.heap.size + 1) HS7.out ?_; intro g' cap' w7 hown' hgrow _ _; have q27 : w7.cell? ⟨w2.heap.size, 2, none⟩ = some v := (World.cell?_of_block (hgrow.block _ HLT.out HNV.out)).trans HQ2.out; have q37 : w7.frozen? ⟨w2.heap.size, 2, none⟩ = false := (World.frozen?_of_block (hgrow.block _ HLT.out HNV.out)).trans HQ3.out))
            all_goals
              have k7 : Kept (fun q => q = w2.heap.size ∨ some q = v.ownBlock) w6 w7 := (((Kept.refl _ w6).drew).alloc _).trans ((Kept.ofGrown hgrow).mono (fun _ _ e => Or.inr e))
              have k8 := k7.setCell ⟨w2.heap.size, 2, none⟩ (Or.inr (Or.inl rfl)) (.slice (some ⟨g', 0, none⟩) (j + 1) cap')
              have hh7 : w7.heap[w2.heap.size]? = some (.cells #[.int .i64 R, .int .i64 C, v] 70 (0, 0)) := (hgrow.block _ HLT.out HNV.out).trans ((Below.heap_alloc _ _ _ hrl6).trans HH6.out)
              have hh8 : (w7.setCell ⟨w2.heap.size, 2, none⟩ (.slice (some ⟨g', 0, none⟩) (j + 1) cap')).heap[w2.heap.size]? = some (.cells #[.int .i64 R, .int .i64 C, .slice (some ⟨g', 0, none⟩) (j + 1) cap'] 70 (0, 0)) := by
                simp [World.setCell, Array.getElem?_modify, hh7]
              have hown8 : (w7.setCell ⟨w2.heap.size, 2, none⟩ (.slice (some ⟨g', 0, none⟩) (j + 1) cap')).ownsRow (w2.heap.size + 1) 36 4 (.slice (some ⟨g', 0, none⟩) (j + 1) cap') (j + 1) (parts F 0 (j + 1)) := by
                rw [hF4.out]
                exact ownsRow_setCell_below hown' (by simp) _
              have hnot : ∀ q, q < w2.heap.size → ¬ (q = w2.heap.size ∨ some q = v.ownBlock) := fun q hq e => by
                rcases e with e | e
                · omega
                · have := HVB.out _ e; omega
              have hfin : Half w (w7.setCell ⟨w2.heap.size, 2, none⟩ (.slice (some ⟨g', 0, none⟩) (j + 1) cap')) ab off capA g t (R * C) w2.heap.size (w2.heap.size + 1) R C F (j + 1) :=
                ⟨hGR.out.kept k8 (hnot g (by omega)) (hnot t (by omega)), ⟨_, hh8, hown8⟩, kcellS k8 hb60 (hnot _ (by omega)), kcellS k8 hb61 (hnot _ (by omega)), kk6.out.later k8 (fun q hq e => (hnot q (by omega) e).elim)⟩
              have HFIN := Lib.hid hfin
              clear k7 k8 hh7 hh8 hown8 hfin hown' hgrow q27 q37
              go_wp2_with fail
              go_roundw
              case rel => exact ⟨k + 1, by omega, by go_num, by rw [show i * C + (k + 1) = j + 1 by rw [HJ.out]; omega]; exact HFIN.out⟩
              case measure => simp [intOf]; omega
          · have hks : decide ((k : Int) < (S.size : Int)) = false := by simp; omega
            go_wp2_with fail
            obtain ⟨b5, hb5⟩ : ∃ b5, b5 = w3.heap.size := ⟨_, rfl⟩
            obtain ⟨w5, hw5⟩ : ∃ w5, w5 = w3.alloc (.cells #[.int .i32 bl.g, .int .i64 bl.a, .bool bl.b, .int .i64 bl.m] 36) := ⟨_, rfl⟩
            have k5 : Kept0 wr w5 := by rw [hw5]; exact hkw
            have hc5 : CelAt w5 b5 bl := by rw [hw5, hb5]; exact hn0
            rw [← hw5, ← hb5]
            have hyF : bl = F (i * C + k) := by
              rw [HF.out, HBL.out]
              unfold boardF byteN
              rw [show (i * C + k) / C = i by rw [Nat.mul_comm, Nat.mul_add_div (by omega), Nat.div_eq_of_lt hlt2]; omega, show (i * C + k) % C = k by rw [Nat.mul_comm, Nat.mul_add_mod]; exact Nat.mod_eq_of_lt hlt2, ← HS.out, dif_neg hlt3]
            have htb := hK.grid.row.lt
            have hnb : ¬ b5 = t := by omega
            have hnw : ¬ w.heap.size = t := by omega
            clear hw5 hb5 q03 q13 qs hkw hn0
            have hK5 := hK.kept0 k5
            obtain ⟨v, hh, hown⟩ := hK5.ref
            refine (set_in g t (R * C) R C _ _ _ bl w5 hK5.grid ⟨by omega, by omega, by omega, by omega⟩).mono ?_
            rintro e w6 ⟨rfl, hG6, hk6⟩
            have hrl : w2.heap.size < w5.heap.size := (Array.getElem?_eq_some_iff.1 hh).1
            have hne : ¬ w2.heap.size = t := by omega
            have hh6 : w6.heap[w2.heap.size]? = some (.cells #[.int .i64 R, .int .i64 C, v] 70 (0, 0)) := (hk6.block _ hrl hne).trans hh
            have hown6 : w6.ownsRow (w2.heap.size + 1) 36 4 v (i * C + k) (parts F 0 (i * C + k)) := hown.kept hk6.grown (by
              by_cases e : v.ownBlock = none
              · exact Or.inl e
              · refine Or.inr (fun e2 => ?_)
                have := (hown.lt _ e2).1
                omega)
            have hc6 := hc5.kept hk6 hnb
            have hGR : Hid (GridAt w6 g t (R * C) R C (soFar F (celB 32) (i * C + k + 1))) := hG6.congr (fun q _ => by
              rw [show idx C (i : Int) (k : Int) = i * C + k by simp [idx], hyF]
              exact soFar_step F (celB 32) (i * C + k) q)
            have hb60 := kcellS hk6 hK5.b0 hnw
            have hb61 := kcellS hk6 hK5.b1 hnw
            have kk6 : Hid (Kept0 w w6) := hK5.kept.later hk6 (fun q hq e => by omega)
            have hF4 : Hid (parts F 0 (i * C + k + 1) = parts F 0 (i * C + k) ++ [.int .i32 bl.g, .int .i64 bl.a, .bool bl.b, .int .i64 bl.m]) := by rw [hyF]; exact parts_succ F (i * C + k)
            clear hG6 hh hown hK5 hK hk6 hc5 hrl
            obtain ⟨j, hjd⟩ : ∃ j, j = i * C + k := ⟨_, rfl⟩
            rw [← hjd] at hown6 hF4 hGR hj
            have HJ := Lib.hid hjd
            clear hjd hyF
            have q2 : w6.cell? ⟨w2.heap.size, 2, none⟩ = some v := by simp [World.cell?, hh6]
            have q3 : w6.frozen? ⟨w2.heap.size, 2, none⟩ = false := by simp [World.frozen?, hh6]
            have hrl6 : w2.heap.size < w6.heap.size := (Array.getElem?_eq_some_iff.1 hh6).1
            obtain ⟨y0, y1, y2, y3⟩ := hc6
            have HH6 := Lib.hid hh6
            have HO6 := Lib.hid hown6
            have hbl6 : b5 < w6.heap.size := World.block_lt_of_cell? w6 _ y0
            have hnr1 : ¬ w2.heap.size = w6.heap.size := by omega
            have hnr2 : ¬ w6.heap.size = w2.heap.size := by omega
            clear hh6 hown6
            have HNW : Hid (∀ q u, [Value.int .i32 bl.g, .int .i64 bl.a, .bool bl.b, .int .i64 bl.m][q]? = some u → (w6.drew.alloc (.cells #[.int .i32 bl.g, .int .i64 bl.a, .bool bl.b, .int .i64 bl.m] 36)).cell? ((⟨w6.heap.size, 0, none⟩ : Addr).add q) = some u) := fun q u hq => by
              rw [addr_add]
              have hq4 : q < 4 := by have := (List.getElem?_eq_some_iff.1 hq).1; simpa using this
              obtain ⟨n0, n1, n2, n3⟩ := CelAt.new w6.drew bl 36
              rcases (show q = 0 ∨ q = 1 ∨ q = 2 ∨ q = 3 by omega) with rfl | rfl | rfl | rfl
              · simp only [List.getElem?_cons_zero, Option.some.injEq] at hq; rw [← hq]; exact n0
              · simp only [List.getElem?_cons_succ, List.getElem?_cons_zero, Option.some.injEq] at hq; rw [← hq]; exact n1
              · simp only [List.getElem?_cons_succ, List.getElem?_cons_zero, Option.some.injEq] at hq; rw [← hq]; exact n2
              · simp only [List.getElem?_cons_succ, List.getElem?_cons_zero, Option.some.injEq] at hq; rw [← hq]; exact n3
            have HS7 : Hid ((w6.drew.alloc (.cells #[.int .i32 bl.g, .int .i64 bl.a, .bool bl.b, .int .i64 bl.m] 36)).heap.size = w6.heap.size + 1) := World.size_alloc _ _
            have HB7 : Hid (w2.heap.size + 1 ≤ (w6.drew.alloc (.cells #[.int .i32 bl.g, .int .i64 bl.a, .bool bl.b, .int .i64 bl.m] 36)).heap.size) := by rw [HS7.out]; exact Nat.succ_le_succ (Nat.le_of_lt hrl6)
            have HO7 : Hid ((w6.drew.alloc (.cells #[.int .i32 bl.g, .int .i64 bl.a, .bool bl.b, .int .i64 bl.m] 36)).ownsRow (w2.heap.size + 1) 36 4 v j (parts F 0 j)) := (World.ownsRow.drew HO6.out).alloc _
            have HNV : Hid (some w2.heap.size ≠ v.ownBlock) := fun e => by have := (HO6.out.lt _ e.symm).1; omega
            have HVB : Hid (∀ q, some q = v.ownBlock → w2.heap.size < q) := fun q e => (HO6.out.lt _ e.symm).1
            have HLT : Hid (w2.heap.size < (w6.drew.alloc (.cells #[.int .i32 bl.g, .int .i64 bl.a, .bool bl.b, .int .i64 bl.m] 36)).heap.size) := by rw [HS7.out]; exact Nat.lt_succ_of_lt hrl6
            have HQ2 : Hid ((w6.drew.alloc (.cells #[.int .i32 bl.g, .int .i64 bl.a, .bool bl.b, .int .i64 bl.m] 36)).cell? ⟨w2.heap.size, 2, none⟩ = some v) := kcell (((Kept.refl (fun _ => False) w6).drew).alloc _) q2
            have HQ3 : Hid ((w6.drew.alloc (.cells #[.int .i32 bl.g, .int .i64 bl.a, .bool bl.b, .int .i64 bl.m] 36)).frozen? ⟨w2.heap.size, 2, none⟩ = false) := kfrozen (((Kept.refl (fun _ => False) w6).drew).alloc _) q2 q3
            go_wp2_with fail
            go_region_law (first | (refine step_append_lies _ rfl (.tmp 75) (.tmp 77) 64 rfl (w2.heap.size + 1) 36 i0 (.agg #[.int .i32 0, .int .i64 0, .bool false, .int .i64 0]) 4 32 Try.underlying64 hi0 hz0 hz1 hz2 rfl (by decide) v j (parts F 0 j) rfl HO7.out ⟨w6.heap.size, 0, none⟩ 1 1 [.int .i32 bl.g, .int .i64 bl.a, .bool bl.b, .int .i64 bl.m] rfl (by simp) HNW.out (by simp [Value.oneCell']) (by omega) (by unfold maxLen; omega) (by omega) HB7.out (w6.heap.size + 1) HS7.out ?_; intro g' cap' w7 hown' hgrow _ _; have q27 : w7.cell? ⟨w2.heap.size, 2, none⟩ = some v := (World.cell?_of_block (hgrow.block _ HLT.out HNV.out)).trans HQ2.out; have q37 : w7.frozen? ⟨w2.heap.size, 2, none⟩ = false := (World.frozen?_of_block (hgrow.block _ HLT.out HNV.out)).trans HQ3.out))
            all_goals
              have k7 : Kept (fun q => q = w2.heap.size ∨ some q = v.ownBlock) w6 w7 := (((Kept.refl _ w6).drew).alloc _).trans ((Kept.ofGrown hgrow).mono (fun _ _ e => Or.inr e))
              have k8 := k7.setCell ⟨w2.heap.size, 2, none⟩ (Or.inr (Or.inl rfl)) (.slice (some ⟨g', 0, none⟩) (j + 1) cap')
              have hh7 : w7.heap[w2.heap.size]? = some (.cells #[.int .i64 R, .int .i64 C, v] 70 (0, 0)) := (hgrow.block _ HLT.out HNV.out).trans ((Below.heap_alloc _ _ _ hrl6).trans HH6.out)
              have hh8 : (w7.setCell ⟨w2.heap.size, 2, none⟩ (.slice (some ⟨g', 0, none⟩) (j + 1) cap')).heap[w2.heap.size]? = some (.cells #[.int .i64 R, .int .i64 C, .slice (some ⟨g', 0, none⟩) (j + 1) cap'] 70 (0, 0)) := by
                simp [World.setCell, Array.getElem?_modify, hh7]
              have hown8 : (w7.setCell ⟨w2.heap.size, 2, none⟩ (.slice (some ⟨g', 0, none⟩) (j + 1) cap')).ownsRow (w2.heap.size + 1) 36 4 (.slice (some ⟨g', 0, none⟩) (j + 1) cap') (j + 1) (parts F 0 (j + 1)) := by
                rw [hF4.out]
                exact ownsRow_setCell_below hown' (by simp) _
              have hnot : ∀ q, q < w2.heap.size → ¬ (q = w2.heap.size ∨ some q = v.ownBlock) := fun q hq e => by
                rcases e with e | e
                · omega
                · have := HVB.out _ e; omega
              have hfin : Half w (w7.setCell ⟨w2.heap.size, 2, none⟩ (.slice (some ⟨g', 0, none⟩) (j + 1) cap')) ab off capA g t (R * C) w2.heap.size (w2.heap.size + 1) R C F (j + 1) :=
                ⟨hGR.out.kept k8 (hnot g (by omega)) (hnot t (by omega)), ⟨_, hh8, hown8⟩, kcellS k8 hb60 (hnot _ (by omega)), kcellS k8 hb61 (hnot _ (by omega)), kk6.out.later k8 (fun q hq e => (hnot q (by omega) e).elim)⟩
              have HFIN := Lib.hid hfin
              clear k7 k8 hh7 hh8 hown8 hfin hown' hgrow q27 q37
              go_wp2_with fail
              go_roundw
              case rel => exact ⟨k + 1, by omega, by go_num, by rw [show i * C + (k + 1) = j + 1 by rw [HJ.out]; omega]; exact HFIN.out⟩
              case measure => simp [intOf]; omega
        · obtain rfl : k = C := by omega
          have hdk : decide ((k : Int) < (k : Int)) = false := by simp
          go_wp2_with fail
          go_roundw
          case rel =>
            refine ⟨i + 1, by omega, by go_num, ?_⟩
            rw [Nat.add_mul, Nat.one_mul]
            exact hK
          case measure => simp [intOf]; omega
    · obtain rfl : i = R := by omega
      have hdk : decide ((i : Int) < (i : Int)) = false := by simp
      go_wp2_with fail
      obtain ⟨v, hh, hown⟩ := hH.ref
      obtain ⟨t', cap', rfl, ht', hcap, hI⟩ := cells_of_owned (n := i * C) (f := F) hown (fun j hj => by have := parts_get F 0 (i * C) j hj; simpa using this) (Nat.mul_pos h1 h3)
      refine bodyPost_ret (v := .tuple #[.pointer (some ⟨g, 0, none⟩), .pointer (some ⟨w2.heap.size, 0, none⟩)]) (by simp [results, Try.results11, go_sem]) rfl ⟨g, t, _, w2.heap.size, t', cap', rfl, by omega, by omega, by have := k2.size; omega, by have := k2.size; omega, by omega, by omega, by omega, by omega, hH.grid.congr (fun q hq => by unfold soFar; rw [if_pos hq]), ⟨hh, hI, hcap, h1, by omega, h3, by omega⟩, hH.kept⟩
end Go.Proofs.Ytkdnjkcebfckiaa
