/-
  ParamsJoins: the numbers of two texts with a semicolon between are those of the one, and those of the other one.
-/
import Derived.Test.YtadcnfenchemhaaDoorAwC
import Derived.Test.YtadcnfenchemhaaDoorNumbersL
namespace Go.Proofs.YtadcnfenchemhaaDoor
open Go.RowKit Go.Maps

theorem add_at (b off j : Nat) : (⟨b, off, none⟩ : Addr).add j = ⟨b, off + j, none⟩ := by
  unfold Addr.add
  split
  · next h => rw [h]; rfl
  · rfl
theorem news_of {w : World} {b off : Nat} {l : List Int} (h : IntsIn w (some ⟨b, off, none⟩) l) : ∀ j u, (l.map encI)[j]? = some u → w.cell? ((⟨b, off, none⟩ : Addr).add j) = some u := by
  intro j u hu
  rw [List.getElem?_map] at hu
  cases hx : l[j]? with
  | none => rw [hx] at hu; cases hu
  | some x =>
    rw [hx] at hu
    obtain rfl : encI x = u := Option.some.inj hu
    obtain ⟨b', off', e, hc⟩ := h j x hx
    cases e
    rw [add_at]
    exact hc
theorem one_cells (l : List Int) : ∀ u ∈ l.map encI, u.oneCell' = true := by
  intro u hu
  obtain ⟨x, _, rfl⟩ := List.mem_map.1 hu
  simp [encI, Value.oneCell']

theorem semi_size (a : ByteArray) : (a ++ ⟨#[59]⟩ : ByteArray).size = a.size + 1 := by simp [ByteArray.size_append]; rfl
/-- One of the two is none. -/
theorem joins_bad (a b : ByteArray) (oa ob : Option (List Int)) (ha : 1 ≤ a.size ∧ a.size ≤ 300) (hb : 1 ≤ b.size ∧ b.size ≤ 300) (hn : oa = none ∨ ob = none) (w : World)
    (h1 : ∀ w, Calls Tryd.prog 10 #[.string a] w fun e w' => NumsAns oa e w' ∧ Kept0 w w') (h2 : ∀ w, Calls Tryd.prog 10 #[.string b] w fun e w' => NumsAns ob e w' ∧ Kept0 w w')
    (h3 : ∀ w, Calls Tryd.prog 10 #[.string (a ++ ⟨#[59]⟩ ++ b)] w fun e w' => NumsAns none e w' ∧ Kept0 w w') :
    Calls Tryd.prog 7 #[.string a, .string b] w fun e w' => e = .returned (.bool true) ∧ Kept0 w w' := by
  have H1 := Lib.hid h1
  have H2 := Lib.hid h2
  have H3 := Lib.hid h3
  have e1 : decide ((a.size : Int) < 1) = false := by simp; omega
  have e2 : decide ((b.size : Int) < 1) = false := by simp; omega
  have e3 : decide ((300 : Int) < (a.size : Int)) = false := by simp; omega
  have e4 : decide ((300 : Int) < (b.size : Int)) = false := by simp; omega
  have s1 : a.size + 1 ≤ 9223372036854775807 := by omega
  have s2 : (a ++ ⟨#[59]⟩ : ByteArray).size + b.size ≤ 9223372036854775807 := by rw [semi_size]; omega
  have s3 : a.size + 1 + b.size ≤ 9223372036854775807 := by omega
  clear h1 h2 h3 ha hb
  cases oa with
  | none =>
    clear hn
    cases ob with
    | none =>
      go_enter Tryd.func7, Tryd.ntmps7
      go_wp2_with fail
      refine (H1.out w).mono ?_
      rintro e w1 ⟨q1, k1⟩
      obtain rfl : e = _ := q1
      go_wp2_with fail
      refine (H2.out w1).mono ?_
      rintro e w2 ⟨q2, k2⟩
      obtain rfl : e = _ := q2
      go_wp2_with fail
      refine (H3.out w2).mono ?_
      rintro e w3 ⟨q3, k3⟩
      obtain rfl : e = _ := q3
      go_wp2_with fail
      refine (awake_any w3).mono ?_
      rintro e w4 ⟨rfl, k4⟩
      go_wp2_with fail
      go_ret
      exact ⟨rfl, (k1.trans k2).trans (k3.trans k4)⟩
    | some m =>
      go_enter Tryd.func7, Tryd.ntmps7
      go_wp2_with fail
      refine (H1.out w).mono ?_
      rintro e w1 ⟨q1, k1⟩
      obtain rfl : e = _ := q1
      go_wp2_with fail
      refine (H2.out w1).mono ?_
      rintro e w2 ⟨q2, k2⟩
      obtain ⟨xq2, cq2, rfl, iq2⟩ := q2
      have Iq2 := Lib.hid iq2
      clear iq2
      go_wp2_with fail
      refine (H3.out w2).mono ?_
      rintro e w3 ⟨q3, k3⟩
      obtain rfl : e = _ := q3
      go_wp2_with fail
      refine (awake_any w3).mono ?_
      rintro e w4 ⟨rfl, k4⟩
      go_wp2_with fail
      go_ret
      exact ⟨rfl, (k1.trans k2).trans (k3.trans k4)⟩
  | some l =>
    cases ob with
    | none =>
      clear hn
      go_enter Tryd.func7, Tryd.ntmps7
      go_wp2_with fail
      refine (H1.out w).mono ?_
      rintro e w1 ⟨q1, k1⟩
      obtain ⟨xq1, cq1, rfl, iq1⟩ := q1
      have Iq1 := Lib.hid iq1
      clear iq1
      go_wp2_with fail
      refine (H2.out w1).mono ?_
      rintro e w2 ⟨q2, k2⟩
      obtain rfl : e = _ := q2
      go_wp2_with fail
      refine (H3.out w2).mono ?_
      rintro e w3 ⟨q3, k3⟩
      obtain rfl : e = _ := q3
      go_wp2_with fail
      refine (awake_any w3).mono ?_
      rintro e w4 ⟨rfl, k4⟩
      go_wp2_with fail
      go_ret
      exact ⟨rfl, (k1.trans k2).trans (k3.trans k4)⟩
    | some m =>
      rcases hn with hn | hn <;> cases hn

set_option maxHeartbeats 1000000 in
theorem joins_good (a b : ByteArray) (l m : List Int) (ha : 1 ≤ a.size ∧ a.size ≤ 300) (hb : 1 ≤ b.size ∧ b.size ≤ 300) (hl : 1 ≤ l.length ∧ l.length ≤ 1000) (hm : 1 ≤ m.length ∧ m.length ≤ 1000) (w : World)
    (h1 : ∀ w, Calls Tryd.prog 10 #[.string a] w fun e w' => NumsAns (some l) e w' ∧ Kept0 w w') (h2 : ∀ w, Calls Tryd.prog 10 #[.string b] w fun e w' => NumsAns (some m) e w' ∧ Kept0 w w')
    (h3 : ∀ w, Calls Tryd.prog 10 #[.string (a ++ ⟨#[59]⟩ ++ b)] w fun e w' => NumsAns (some (l ++ m)) e w' ∧ Kept0 w w') :
    Calls Tryd.prog 7 #[.string a, .string b] w fun e w' => e = .returned (.bool true) ∧ Kept0 w w' := by
  have H1 := Lib.hid h1
  have H2 := Lib.hid h2
  have H3 := Lib.hid h3
  have e1 : decide ((a.size : Int) < 1) = false := by simp; omega
  have e2 : decide ((b.size : Int) < 1) = false := by simp; omega
  have e3 : decide ((300 : Int) < (a.size : Int)) = false := by simp; omega
  have e4 : decide ((300 : Int) < (b.size : Int)) = false := by simp; omega
  have s1 : a.size + 1 ≤ 9223372036854775807 := by omega
  have s2 : (a ++ ⟨#[59]⟩ : ByteArray).size + b.size ≤ 9223372036854775807 := by rw [semi_size]; omega
  have s3 : a.size + 1 + b.size ≤ 9223372036854775807 := by omega
  clear h1 h2 h3 ha hb
  obtain ⟨i0, hi, hz0, hz1, hz2⟩ := info_parts info3
  go_enter Tryd.func7, Tryd.ntmps7
  go_wp2_with fail
  refine (H1.out w).mono ?_
  rintro e w1 ⟨⟨al, cl, rfl, il⟩, k1⟩
  obtain ⟨bl, ol, rfl, _⟩ := il 0 _ (List.getElem?_eq_getElem (by omega))
  have IL := Lib.hid il
  clear il
  go_wp2_with fail
  refine (H2.out w1).mono ?_
  rintro e w2 ⟨⟨am, cm, rfl, im⟩, k2⟩
  obtain ⟨bm, om, rfl, _⟩ := im 0 _ (List.getElem?_eq_getElem (by omega))
  have IM := Lib.hid im
  clear im
  go_wp2_with fail
  refine (H3.out w2).mono ?_
  rintro e w3 ⟨⟨an, cn, rfl, inn⟩, k3⟩
  have IN := Lib.hid inn
  have IL3 := Lib.hid (IL.out.kept0 (k2.trans k3))
  have IM3 := Lib.hid (IM.out.kept0 k3)
  have KK := Lib.hid ((k1.trans k2).trans k3)
  clear inn IL IM k1 k2 k3 H1 H2 H3
  obtain ⟨nl, hnl⟩ : ∃ nl, nl = l.length := ⟨_, rfl⟩
  obtain ⟨nm, hnm⟩ : ∃ nm, nm = m.length := ⟨_, rfl⟩
  have hln : (l ++ m).length = nl + nm := by rw [hnl, hnm, List.length_append]
  have HNL := Lib.hid hnl
  have HNM := Lib.hid hnm
  have HLN := Lib.hid hln
  rw [← hnl] at hl ⊢
  rw [← hnm] at hm ⊢
  rw [hln]
  clear hnl hnm hln
  go_wp2_with (at_builtin; refine wpList_append_own_at _ rfl _ _ 23 rfl w.heap.size 3 i0 (.int .i64 0) 1 8 Tryd.underlying23 hi hz0 hz1 hz2 rfl (by decide) _ _ _ rfl (World.ownsRow_nil w3 _ _ _) ⟨bl, ol, none⟩ nl cl (l.map encI) rfl (by rw [HNL.out]; simp) (news_of IL3.out) (one_cells l) (by unfold maxLen; omega) (by omega) KK.out.size ?_)
  intro v4 w4 hown4 hgrow4 hz4 hat4
  clear hz4
  have ho4 : w4.ownsRow w.heap.size 3 1 v4 nl (l.map encI) := by simpa using hown4
  have k4 : Kept0 w3 w4 := (Kept.ofGrown hgrow4).mono (fun i _ e => by cases e)
  have IM4 := Lib.hid (IM3.out.kept0 k4)
  have IN4 := Lib.hid (IN.out.kept0 k4)
  have KK4 := Lib.hid (KK.out.trans k4)
  have HO4 := Lib.hid ho4
  have hv4 : ∃ cap, v4 = .slice (some ⟨w3.heap.size, 0, none⟩) nl cap := by
    rcases ho4.2 with ⟨_, e⟩ | ⟨g, cap, cur, e, _⟩
    · omega
    · refine ⟨cap, ?_⟩
      rw [e] at hat4 ⊢
      rcases hat4 with e2 | e2
      · cases e2
      · rw [show g = w3.heap.size from Option.some.inj e2]
  obtain ⟨cap4, rfl⟩ := hv4
  have K34 := Lib.hid k4
  have IN3 := Lib.hid IN.out
  clear hown4 hgrow4 ho4 k4 IM3 IN KK IL3 hat4
  go_wp2_with (at_builtin; refine wpList_append_own _ rfl _ _ 23 rfl w.heap.size 3 i0 (.int .i64 0) 1 8 Tryd.underlying23 hi hz0 hz1 hz2 rfl (by decide) _ _ _ rfl HO4.out ⟨bm, om, none⟩ nm cm (m.map encI) rfl (by rw [HNM.out]; simp) (news_of IM4.out) (one_cells m) (by unfold maxLen; omega) (by omega) KK4.out.size ?_)
  intro v5 w5 hown5 hgrow5 hz5
  clear hz5
  have ho5 : w5.ownsRow w.heap.size 3 1 v5 (l ++ m).length ((l ++ m).map encI) := by
    rw [HLN.out, List.map_append]
    exact hown5
  have k5 : Kept (fun i => some i = some w3.heap.size) w4 w5 := Kept.ofGrown hgrow5
  have k35 : Kept (fun i => i = w3.heap.size) w3 w5 := K34.out.to.trans (k5.mono (fun i _ e => by cases e; rfl))
  have hg4 : w.heap.size ≤ w3.heap.size := (HO4.out.lt _ rfl).1
  have KK5 : Hid (Kept0 w w5) := KK4.out.later k5 (fun i hi e => by cases e; omega)
  have IN5 : Hid (IntsIn w5 an (l ++ m)) := fun k x hx => by
    obtain ⟨bb, off, e, hc⟩ := IN3.out k x hx
    exact ⟨bb, off, e, (k35.cell (World.block_lt_of_cell? _ _ hc) (by have := World.block_lt_of_cell? _ _ hc; omega)).trans hc⟩
  obtain ⟨a5, cap5, rfl, iv⟩ := ints_owned ho5
  have IV := Lib.hid iv
  obtain ⟨N, hN⟩ : ∃ N, N = nl + nm := ⟨_, rfl⟩
  have HNN : Hid (N = (l ++ m).length) := by rw [HLN.out]; exact hN
  rw [HLN.out, ← hN]
  clear hown5 hgrow5 ho5 k5 k35 IM4 IN4 KK4 HO4 K34 IN3 iv hN
  have HS : Hid (Calls Tryd.prog 12 #[.slice an N cn, .slice a5 N cap5] w5 fun e w' => e = .returned (.bool true) ∧ Kept0 w5 w') := by
    rw [HNN.out]
    exact ints_same an a5 cn cap5 (l ++ m) w5 IN5.out IV.out (by rw [List.length_append]; rw [HNL.out] at hl; rw [HNM.out] at hm; omega)
  clear IN5 IV
  go_wp2_with fail
  refine HS.out.mono ?_
  rintro e w6 ⟨rfl, k6⟩
  go_wp2_with fail
  refine (awake_any w6).mono ?_
  rintro e w7 ⟨rfl, k7⟩
  go_wp2_with fail
  go_ret
  exact ⟨rfl, KK5.out.trans (k6.trans k7)⟩

theorem ans_any {o : Option (List Int)} {e : Ending} {w' : World} (h : NumsAns o e w') : ∃ a n c t, e = .returned (.tuple #[.slice a n c, .bool t]) := by
  cases o with
  | none => exact ⟨none, 0, 0, false, h⟩
  | some l => obtain ⟨a, c, h, _⟩ := h; exact ⟨a, l.length, c, true, h⟩
/-- Where a text has no bytes, or too many. -/
theorem joins_out (a b : ByteArray) (ha : a.size ≤ 1073741824) (hb : b.size ≤ 1073741824) (h : ¬ ((1 ≤ a.size ∧ a.size ≤ 300) ∧ (1 ≤ b.size ∧ b.size ≤ 300))) (w : World) :
    Calls Tryd.prog 7 #[.string a, .string b] w fun e w' => e = .returned (.bool true) ∧ Kept0 w w' := by
  have H1 : Hid (∀ w, Calls Tryd.prog 10 #[.string a] w fun e w' => (∃ a n c t, e = .returned (.tuple #[.slice a n c, .bool t])) ∧ Kept0 w w') := fun w => (numbers_any a (by omega) w).mono fun e w' ⟨h1, h2⟩ => ⟨ans_any h1, h2⟩
  have H2 : Hid (∀ w, Calls Tryd.prog 10 #[.string b] w fun e w' => (∃ a n c t, e = .returned (.tuple #[.slice a n c, .bool t])) ∧ Kept0 w w') := fun w => (numbers_any b (by omega) w).mono fun e w' ⟨h1, h2⟩ => ⟨ans_any h1, h2⟩
  have H3 : Hid (∀ w, Calls Tryd.prog 10 #[.string (a ++ ⟨#[59]⟩ ++ b)] w fun e w' => (∃ a n c t, e = .returned (.tuple #[.slice a n c, .bool t])) ∧ Kept0 w w') := fun w => (numbers_any _ (by rw [ByteArray.size_append, semi_size]; omega) w).mono fun e w' ⟨h1, h2⟩ => ⟨ans_any h1, h2⟩
  have s1 : a.size + 1 ≤ 9223372036854775807 := by omega
  have s2 : (a ++ ⟨#[59]⟩ : ByteArray).size + b.size ≤ 9223372036854775807 := by rw [semi_size]; omega
  have s3 : a.size + 1 + b.size ≤ 9223372036854775807 := by omega
  by_cases c1 : a.size < 1
  · have e1 : decide ((a.size : Int) < 1) = true := by simp; omega
    clear h c1
    go_enter Tryd.func7, Tryd.ntmps7
    go_wp2_with fail
    refine (H1.out w).mono ?_
    rintro e w1 ⟨⟨x1, n1, y1, t1, rfl⟩, k1⟩
    go_wp2_with fail
    refine (H2.out w1).mono ?_
    rintro e w2 ⟨⟨x2, n2, y2, t2, rfl⟩, k2⟩
    go_wp2_with fail
    refine (H3.out w2).mono ?_
    rintro e w3 ⟨⟨x3, n3, y3, t3, rfl⟩, k3⟩
    go_wp2_with fail
    refine (awake_any w3).mono ?_
    rintro e w4 ⟨rfl, k4⟩
    go_wp2_with fail
    go_ret
    exact ⟨rfl, (k1.trans k2).trans (k3.trans k4)⟩
  have e1 : decide ((a.size : Int) < 1) = false := by simp; omega
  by_cases c2 : b.size < 1
  · have e2 : decide ((b.size : Int) < 1) = true := by simp; omega
    clear h c1 c2
    go_enter Tryd.func7, Tryd.ntmps7
    go_wp2_with fail
    refine (H1.out w).mono ?_
    rintro e w1 ⟨⟨x1, n1, y1, t1, rfl⟩, k1⟩
    go_wp2_with fail
    refine (H2.out w1).mono ?_
    rintro e w2 ⟨⟨x2, n2, y2, t2, rfl⟩, k2⟩
    go_wp2_with fail
    refine (H3.out w2).mono ?_
    rintro e w3 ⟨⟨x3, n3, y3, t3, rfl⟩, k3⟩
    go_wp2_with fail
    refine (awake_any w3).mono ?_
    rintro e w4 ⟨rfl, k4⟩
    go_wp2_with fail
    go_ret
    exact ⟨rfl, (k1.trans k2).trans (k3.trans k4)⟩
  have e2 : decide ((b.size : Int) < 1) = false := by simp; omega
  by_cases c3 : 300 < a.size
  · have e3 : decide ((300 : Int) < (a.size : Int)) = true := by simp; omega
    clear h c1 c2 c3
    go_enter Tryd.func7, Tryd.ntmps7
    go_wp2_with fail
    refine (H1.out w).mono ?_
    rintro e w1 ⟨⟨x1, n1, y1, t1, rfl⟩, k1⟩
    go_wp2_with fail
    refine (H2.out w1).mono ?_
    rintro e w2 ⟨⟨x2, n2, y2, t2, rfl⟩, k2⟩
    go_wp2_with fail
    refine (H3.out w2).mono ?_
    rintro e w3 ⟨⟨x3, n3, y3, t3, rfl⟩, k3⟩
    go_wp2_with fail
    refine (awake_any w3).mono ?_
    rintro e w4 ⟨rfl, k4⟩
    go_wp2_with fail
    go_ret
    exact ⟨rfl, (k1.trans k2).trans (k3.trans k4)⟩
  have e3 : decide ((300 : Int) < (a.size : Int)) = false := by simp; omega
  by_cases c4 : 300 < b.size
  · have e4 : decide ((300 : Int) < (b.size : Int)) = true := by simp; omega
    clear h c1 c2 c3 c4
    go_enter Tryd.func7, Tryd.ntmps7
    go_wp2_with fail
    refine (H1.out w).mono ?_
    rintro e w1 ⟨⟨x1, n1, y1, t1, rfl⟩, k1⟩
    go_wp2_with fail
    refine (H2.out w1).mono ?_
    rintro e w2 ⟨⟨x2, n2, y2, t2, rfl⟩, k2⟩
    go_wp2_with fail
    refine (H3.out w2).mono ?_
    rintro e w3 ⟨⟨x3, n3, y3, t3, rfl⟩, k3⟩
    go_wp2_with fail
    refine (awake_any w3).mono ?_
    rintro e w4 ⟨rfl, k4⟩
    go_wp2_with fail
    go_ret
    exact ⟨rfl, (k1.trans k2).trans (k3.trans k4)⟩
  exact absurd ⟨⟨by omega, by omega⟩, by omega, by omega⟩ h

theorem joins_calls (a b : ByteArray) (ha : a.size ≤ 1073741824) (hb : b.size ≤ 1073741824) (w : World) :
    Calls Tryd.prog 7 #[.string a, .string b] w fun e w' => e = .returned (.bool true) ∧ Below w.heap.size w w' := by
  refine Calls.mono (P := Tryd.prog) ?_ (fun e w' (h : e = .returned (.bool true) ∧ Kept0 w w') => ⟨h.1, Kept0.below h.2⟩)
  by_cases h : (1 ≤ a.size ∧ a.size ≤ 300) ∧ (1 ≤ b.size ∧ b.size ≤ 300)
  · obtain ⟨h1, h2⟩ := h
    have za : a.data.toList.length = a.size := by simp
    have zb : b.data.toList.length = b.size := by simp
    have na : a.data.toList ≠ [] := fun e => by rw [e] at za; simp at za; omega
    have nb : b.data.toList ≠ [] := fun e => by rw [e] at zb; simp at zb; omega
    have H1 := fun w => numbers_any a (by omega) w
    have H2 := fun w => numbers_any b (by omega) w
    have H3 : ∀ w, Calls Tryd.prog 10 #[.string (a ++ ⟨#[59]⟩ ++ b)] w fun e w' => NumsAns (numV (a.data.toList ++ 59 :: b.data.toList)) e w' ∧ Kept0 w w' := fun w => by
      have := numbers_any (a ++ ⟨#[59]⟩ ++ b) (by rw [ByteArray.size_append, semi_size]; omega) w
      rwa [show (a ++ ⟨#[59]⟩ ++ b : ByteArray).data.toList = a.data.toList ++ 59 :: b.data.toList by simp] at this
    rw [numV_join na nb] at H3
    cases hv : numV a.data.toList with
    | none =>
      rw [hv] at H1 H3
      exact joins_bad a b none (numV b.data.toList) h1 h2 (Or.inl rfl) w H1 H2 H3
    | some l =>
      cases hu : numV b.data.toList with
      | none =>
        rw [hv] at H1
        rw [hu] at H2
        rw [hv, hu] at H3
        exact joins_bad a b (some l) none h1 h2 (Or.inr rfl) w H1 H2 H3
      | some m =>
        have bl := numV_bounds hv
        have bm := numV_bounds hu
        have cl := numV_len hv
        have cm := numV_len hu
        rw [hv] at H1
        rw [hu] at H2
        rw [hv, hu] at H3
        have l1 : 1 ≤ l.length := by
          rcases bl with ⟨e, _⟩ | ⟨_, e, _⟩
          · exact absurd e na
          · omega
        have m1 : 1 ≤ m.length := by
          rcases bm with ⟨e, _⟩ | ⟨_, e, _⟩
          · exact absurd e nb
          · omega
        exact joins_good a b l m h1 h2 ⟨l1, by omega⟩ ⟨m1, by omega⟩ w H1 H2 H3
  · exact joins_out a b ha hb h w
end Go.Proofs.YtadcnfenchemhaaDoor
