/-
  A buffer in memory, and what its functions do; the document's buffer.
-/
import Derived.Test.YtadcnfenchemhaaDoorNumsC
import Derived.Deep.RegionWith
import Derived.Deep.RegionHeld3
namespace Go.Proofs.YtadcnfenchemhaaDoor
open Go.RowKit Go.Maps

abbrev ptr (b : Nat) : Value := .pointer (some ⟨b, 0, none⟩)
def encB (c : UInt8) : Value := .int .u8 c.toNat
/-- A buffer at block b; B: its blocks. -/
def Bf (w : World) (B : Nat → Prop) (b : Nat) (most : Nat) (xs : List UInt8) (lost : Nat) : Prop :=
  ∃ v, w.heap[b]? = some (.cells #[.int .i64 most, v, .int .i64 lost] 53 (0, 0)) ∧ w.ownsRow 0 5 1 v xs.length (xs.map encB) ∧ B = fun i => i = b ∨ some i = v.ownBlock
theorem own_ne {w : World} {b n t : Nat} {v : Value} {ys : List Value} {cs : Array Value} (h1 : w.heap[b]? = some (.cells cs t (0, 0))) (ht : t ≠ 5) (h2 : w.ownsRow 0 5 1 v n ys) : v.ownBlock ≠ some b := by
  rcases h2.2 with ⟨rfl, _⟩ | ⟨g, cap, cur, rfl, _, hh, _⟩
  · intro e; cases e
  · intro e
    obtain rfl : g = b := Option.some.inj e
    rw [h1] at hh
    cases hh
    exact ht rfl
theorem Bf.kept {w w' : World} {B : Nat → Prop} {b most lost : Nat} {xs : List UInt8} (h : Bf w B b most xs lost) {T : Nat → Prop} (k : Kept T w w') (hT : ∀ i, B i → ¬ T i) : Bf w' B b most xs lost := by
  obtain ⟨v, h1, h2, rfl⟩ := h
  refine ⟨v, (k.block _ (Array.getElem?_eq_some_iff.1 h1).1 (hT _ (Or.inl rfl))).trans h1, own_keep h2 (fun g hg => k.block g (h2.lt g hg).2 (hT _ (Or.inr hg.symm))), rfl⟩
theorem Bf.kept0 {w w' : World} {B : Nat → Prop} {b most lost : Nat} {xs : List UInt8} (h : Bf w B b most xs lost) (k : Kept0 w w') : Bf w' B b most xs lost := h.kept k (fun _ _ e => e)
theorem Bf.lt {w : World} {B : Nat → Prop} {b most lost : Nat} {xs : List UInt8} (h : Bf w B b most xs lost) : ∀ i, B i → i < w.heap.size := by
  obtain ⟨v, h1, h2, rfl⟩ := h
  rintro i (rfl | e)
  · exact (Array.getElem?_eq_some_iff.1 h1).1
  · exact (h2.lt i e.symm).2
/-- A buffer stands behind a call: in its own blocks, and in new ones. -/
def BPost (B : Nat → Prop) (b most : Nat) (xs : List UInt8) (lost : Nat) (w w' : World) : Prop :=
  ∃ B', Bf w' B' b most xs lost ∧ (∀ i, B' i → B i ∨ w.heap.size ≤ i) ∧ Kept B w w'

theorem new_yes (most : Nat) (w : World) (h1 : 1 ≤ most) (h2 : most ≤ 64) : Calls Tryd.prog 14 #[.int .i64 most] w fun e w' => ∃ b B, e = .returned (.tuple #[ptr b, .int .i64 0]) ∧ Bf w' B b most [] 0 ∧ (∀ i, B i → w.heap.size ≤ i) ∧ Kept0 w w' := by
  go_enter Tryd.func14, Tryd.ntmps14
  go_wp2_with fail
  go_ret2
  refine ⟨w.heap.size, _, rfl, ⟨.slice none 0 0, heap_new w _, ⟨rfl, Or.inl ⟨rfl, rfl⟩⟩, rfl⟩, ?_, (Kept.refl _ w).alloc _⟩
  rintro i (rfl | e)
  · exact Nat.le_refl _
  · cases e
theorem new_no (most : Int) (w : World) (h : ¬ (1 ≤ most ∧ most ≤ 64)) : Calls Tryd.prog 14 #[.int .i64 most] w fun e w' => e = .returned (.tuple #[.pointer none, .int .i64 1]) ∧ Kept0 w w' := by
  by_cases h0 : most < 1
  · go_enter Tryd.func14, Tryd.ntmps14
    go_wp2_with fail
    go_ret2
    exact ⟨rfl, Kept.refl _ _⟩
  · have d0 : decide (most < 1) = false := by simpa using h0
    have d1 : decide (64 < most) = true := by simp; omega
    clear h0 h
    go_enter Tryd.func14, Tryd.ntmps14
    go_wp2_with fail
    go_ret2
    exact ⟨rfl, Kept.refl _ _⟩

theorem conv_row {w : World} {v : Value} {xs : List UInt8} (h : w.ownsRow 0 5 1 v xs.length (xs.map encB)) : (convert 49 9 v).run Tryd.prog w = .ok (.string (str xs)) w := by
  rcases h.2 with ⟨rfl, hz⟩ | ⟨g, cap, cur, rfl, _, hh, h1, h2, h3, h4⟩
  · rw [List.eq_nil_of_length_eq_zero hz]
    exact run_convert_bytes_nil w 49 5 Tryd.underlying49 Tryd.underlying5 0 0 9 Tryd.underlying9
  · refine run_convert_bytes_back w 49 9 5 ⟨g, 0, none⟩ cap xs Tryd.underlying49 Tryd.underlying5 Tryd.underlying9 (fun j hj => ?_)
    have h5 : (cur.toList.take xs.length)[j]? = some (encB xs[j]) := by
      have : cur.toList.take xs.length = xs.map encB := by simpa using h4
      rw [this, List.getElem?_map, List.getElem?_eq_getElem hj]; rfl
    rw [List.getElem?_take_of_lt hj] at h5
    have ha : (⟨g, 0, none⟩ : Addr).add j = ⟨g, j, none⟩ := by
      simp [Addr.add]
      intro e
      rw [e]
    rw [ha]
    simp only [World.cell?, hh]
    simpa [encB] using h5

section
variable {B : Nat → Prop} {b most lost : Nat} {xs : List UInt8} {w : World}
theorem bytes_any (h : Bf w B b most xs lost) : Calls Tryd.prog 18 #[ptr b] w fun e w' => e = .returned (.string (str xs)) ∧ Kept0 w w' := by
  obtain ⟨v, h1, h2, _⟩ := h
  have c1 : w.cell? ⟨b, 1, none⟩ = some v := by simp [World.cell?, h1]
  have hcv := conv_row h2
  clear h1 h2
  go_enter Tryd.func18, Tryd.ntmps18
  go_wp2_with fail
  go_ret
  exact ⟨rfl, Kept.refl _ _⟩
theorem len_any (h : Bf w B b most xs lost) : Calls Tryd.prog 19 #[ptr b] w fun e w' => e = .returned (.int .i64 (xs.length : Int)) ∧ Kept0 w w' := by
  obtain ⟨v, h1, h2, _⟩ := h
  obtain ⟨a, cap, rfl⟩ : ∃ a cap, v = .slice a xs.length cap := by
    rcases h2.2 with ⟨rfl, hz⟩ | ⟨g, cap, cur, rfl, _⟩
    · exact ⟨none, 0, by rw [hz]⟩
    · exact ⟨_, _, rfl⟩
  have c1 : w.cell? ⟨b, 1, none⟩ = some (.slice a xs.length cap) := by simp [World.cell?, h1]
  clear h1 h2
  go_enter Tryd.func19, Tryd.ntmps19
  go_wp2_with fail
  go_ret
  exact ⟨rfl, Kept.refl _ _⟩
theorem lost_any (h : Bf w B b most xs lost) : Calls Tryd.prog 20 #[ptr b] w fun e w' => e = .returned (.int .i64 (lost : Int)) ∧ Kept0 w w' := by
  obtain ⟨v, h1, h2, _⟩ := h
  have c1 : w.cell? ⟨b, 2, none⟩ = some (.int .i64 lost) := by simp [World.cell?, h1]
  clear h1 h2
  go_enter Tryd.func20, Tryd.ntmps20
  go_wp2_with fail
  go_ret
  exact ⟨rfl, Kept.refl _ _⟩
theorem bnums_any (h : Bf w B b most xs lost) (hx : xs.length ≤ 64) : Calls Tryd.prog 21 #[ptr b] w fun e w' => NumsAns (numV xs) e w' ∧ Kept0 w w' := by
  have HB := Lib.hid (bytes_any h)
  have HN : Hid (∀ w, Calls Tryd.prog 10 #[.string (str xs)] w fun e w' => NumsAns (numV xs) e w' ∧ Kept0 w w') := fun w => by
    have hsz : (str xs).size = xs.length := by simp [str, ByteArray.size]
    have := numbers_any (str xs) (by omega) w
    rwa [show (str xs).data.toList = xs by simp [str]] at this
  clear h
  obtain ⟨o, ho⟩ : ∃ o, o = numV xs := ⟨_, rfl⟩
  rw [← ho] at HN ⊢
  clear ho
  go_enter Tryd.func21, Tryd.ntmps21
  go_wp2_with fail
  refine HB.out.mono ?_
  rintro e w1 ⟨rfl, k1⟩
  go_wp2_with fail
  refine (HN.out w1).mono ?_
  rintro e w2 ⟨ha, k2⟩
  cases o with
  | none =>
    obtain rfl : e = _ := ha
    go_wp2_with fail
    go_ret2
    exact ⟨rfl, k1.trans k2⟩
  | some l =>
    obtain ⟨a, cap, rfl, hi⟩ := ha
    have HI := Lib.hid hi
    obtain ⟨L, hL⟩ : ∃ L, L = l.length := ⟨_, rfl⟩
    rw [← hL]
    have HL := Lib.hid hL
    clear hi hL
    go_wp2_with fail
    go_ret2
    exact ⟨⟨a, cap, by rw [← HL.out]; rfl, HI.out⟩, k1.trans k2⟩
theorem empty_any (h : Bf w B b most xs lost) : Calls Tryd.prog 24 #[ptr b] w fun e w' => e = .returned (.tuple #[]) ∧ Bf w' B b most [] lost ∧ Kept (· = b) w w' := by
  obtain ⟨v, h1, h2, rfl⟩ := h
  have hne := own_ne h1 (by decide) h2
  have c1 : w.cell? ⟨b, 1, none⟩ = some v := by simp [World.cell?, h1]
  have f1 : w.frozen? ⟨b, 1, none⟩ = false := by simp [World.frozen?, h1]
  have hk : ∀ u, Kept (· = b) w (w.setCell ⟨b, 1, none⟩ u) := fun u => Kept.setCell (S := (· = b)) (Kept.refl _ w) ⟨b, 1, none⟩ (Or.inr rfl) u
  have hh : ∀ u, (w.setCell ⟨b, 1, none⟩ u).heap[b]? = some (.cells #[.int .i64 most, u, .int .i64 lost] 53 (0, 0)) := fun u => by simp [World.setCell, Array.getElem?_modify, h1]
  rcases h2.2 with ⟨rfl, hz⟩ | ⟨g, cap, cur, rfl, hb, hg, r1, r2, r3, r4⟩
  · have HH := Lib.hid hh
    have HK := Lib.hid hk
    clear h1 h2 hh hk
    go_enter Tryd.func24, Tryd.ntmps24
    go_wp2_with fail
    go_end0
    exact ⟨rfl, ⟨_, HH.out _, ⟨rfl, Or.inl ⟨rfl, rfl⟩⟩, rfl⟩, HK.out _⟩
  · have HH := Lib.hid hh
    have HK := Lib.hid hk
    have HO : Hid (∀ u, (w.setCell ⟨b, 1, none⟩ u).heap[g]? = some (.cells cur 5 (0, 0))) := fun u => ((hk u).block g (Array.getElem?_eq_some_iff.1 hg).1 (fun e => hne (by rw [← e]; rfl))).trans hg
    have hcap : xs.length ≤ cap := r1
    have HR := Lib.hid (And.intro r2 r3)
    clear h1 h2 hh hk hg r1 r2 r3 r4 hne
    go_enter Tryd.func24, Tryd.ntmps24
    go_wp2_with fail
    go_end0
    exact ⟨rfl, ⟨_, HH.out _, ⟨rfl, Or.inr ⟨g, cap, cur, rfl, hb, HO.out _, Nat.zero_le _, HR.out.1, HR.out.2, by simp⟩⟩, rfl⟩, HK.out _⟩
theorem reset_any (h : Bf w B b most xs lost) : Calls Tryd.prog 15 #[ptr b] w fun e w' => e = .returned (.tuple #[]) ∧ Bf w' B b most [] 0 ∧ Kept (· = b) w w' := by
  have HE := Lib.hid (empty_any h)
  clear h
  go_enter Tryd.func15, Tryd.ntmps15
  go_wp2_with fail
  refine HE.out.mono ?_
  rintro e w1 ⟨rfl, ⟨v, h1, h2, hB⟩, k1⟩
  have hne := own_ne h1 (by decide) h2
  have c2 : w1.cell? ⟨b, 2, none⟩ = some (.int .i64 lost) := by simp [World.cell?, h1]
  have f2 : w1.frozen? ⟨b, 2, none⟩ = false := by simp [World.frozen?, h1]
  have HF : Hid (Bf (w1.setCell ⟨b, 2, none⟩ (.int .i64 0)) B b most [] 0) :=
    ⟨v, by simp [World.setCell, Array.getElem?_modify, h1], own_keep h2 (fun g hg => Below.heap_setCell _ _ _ _ (fun e => hne (by rw [hg, e]))), hB⟩
  have HK := Lib.hid k1
  clear h1 h2 hne k1 HE hB
  go_wp2_with fail
  go_end0
  exact ⟨rfl, HF.out, HK.out.setCell ⟨b, 2, none⟩ (Or.inr rfl) _⟩

set_option maxHeartbeats 1000000 in
theorem bpush_yes (c : UInt8) (h : Bf w B b most xs lost) (hlt : xs.length < most) (hm : most ≤ 64) : Calls Tryd.prog 25 #[ptr b, .int .u8 (c.toNat : Int)] w fun e w' => e = .returned (.bool true) ∧ BPost B b most (xs ++ [c]) lost w w' := by
  obtain ⟨v, h1, h2, rfl⟩ := h
  have hne := own_ne h1 (by decide) h2
  have c0 : w.cell? ⟨b, 0, none⟩ = some (.int .i64 most) := by simp [World.cell?, h1]
  have hbl : b < w.heap.size := (Array.getElem?_eq_some_iff.1 h1).1
  obtain ⟨a, cap, rfl⟩ : ∃ a cap, v = .slice a xs.length cap := by
    rcases h2.2 with ⟨rfl, hz⟩ | ⟨g, cap, cur, rfl, _⟩
    · exact ⟨none, 0, by rw [hz]⟩
    · exact ⟨_, _, rfl⟩
  have c1 : w.cell? ⟨b, 1, none⟩ = some (.slice a xs.length cap) := by simp [World.cell?, h1]
  have hdl : decide ((most : Int) ≤ (xs.length : Int)) = false := by simp; omega
  obtain ⟨i0, hi, hz0, hz1, hz2⟩ := info_parts info5
  have H1 := Lib.hid h1
  have HN := Lib.hid hne
  clear h1 hne
  obtain ⟨n, hn⟩ : ∃ n, n = xs.length := ⟨_, rfl⟩
  have HNN := Lib.hid hn
  rw [← hn] at h2 c1 hdl hlt H1 HN
  rw [← hn]
  clear hn
  go_enter Tryd.func25, Tryd.ntmps25
  go_wp2_with fail
  go_quiet (fail)
  go_wp2_with (at_builtin; refine wpList_append_own_at _ rfl _ _ 49 rfl 0 5 i0 (.int .u8 0) 1 1 Tryd.underlying49 hi hz0 hz1 hz2 rfl (by decide) _ _ _ rfl ((show (w.drewN nq).ownsRow 0 5 1 (.slice a n cap) n (xs.map encB) from h2).alloc _) ⟨w.heap.size, 0, none⟩ 1 1 [.int .u8 (c.toNat : Int)] rfl rfl (cell_one_new _ _ _) (by simp [Value.oneCell']) (by unfold maxLen; omega) (by omega) (by omega) ?_)
  intro v' w4 hown' hgrow _ hat
  have hown2 : w4.ownsRow 0 5 1 v' (xs ++ [c]).length ((xs ++ [c]).map encB) := by
    have := hown'
    rw [HNN.out] at this
    simpa [encB] using this
  have KA : Kept (fun i => some i = (Value.slice a n cap).ownBlock) w w4 := (((Kept.refl _ w).drewN nq).alloc _).later (Kept.ofGrown hgrow) (fun _ _ e => e)
  have h4 : w4.heap[b]? = some (.cells #[.int .i64 most, .slice a n cap, .int .i64 lost] 53 (0, 0)) := (KA.block b hbl (fun e => HN.out e.symm)).trans H1.out
  have c14 : w4.cell? ⟨b, 1, none⟩ = some (.slice a n cap) := by simp [World.cell?, h4]
  have f14 : w4.frozen? ⟨b, 1, none⟩ = false := by simp [World.frozen?, h4]
  have hat2 : v'.ownBlock = (Value.slice a n cap).ownBlock ∨ v'.ownBlock = some (w.heap.size + 1) ∨ v'.ownBlock = some w.heap.size := by
    rcases hat with e | e
    · exact Or.inl e
    · first | exact Or.inr (Or.inl e) | exact Or.inr (Or.inr e)
  have HA := Lib.hid hat2
  have HO := Lib.hid hown2
  have HK := Lib.hid KA
  have H4 := Lib.hid h4
  obtain ⟨a', cap', rfl⟩ : ∃ a' cap', v' = .slice a' (xs ++ [c]).length cap' := by
    rcases hown2.2 with ⟨rfl, hz⟩ | ⟨g, cap, cur, rfl, _⟩
    · simp at hz
    · exact ⟨_, _, rfl⟩
  obtain ⟨m, hm2⟩ : ∃ m, m = (xs ++ [c]).length := ⟨_, rfl⟩
  have HM := Lib.hid hm2
  rw [← hm2] at HA HO ⊢
  clear hat hat2 hown' hown2 hgrow KA h4 hm2 h2
  go_wp2_with fail
  go_ret
  have hnb : (Value.slice a' m cap').ownBlock ≠ some b := by
    rcases HA.out with e | e | e
    · rw [e]; exact HN.out
    · rw [e]; intro e2; have := Option.some.inj e2; omega
    · rw [e]; intro e2; have := Option.some.inj e2; omega
  refine ⟨rfl, _, ⟨.slice a' m cap', by simp [World.setCell, Array.getElem?_modify, H4.out], own_keep (by rw [HM.out] at HO ⊢; exact HO.out) (fun g hg => Below.heap_setCell _ _ _ _ (fun e => hnb (by rw [hg, e]))), rfl⟩, ?_, ?_⟩
  · rintro i (rfl | e)
    · exact Or.inl (Or.inl rfl)
    · rcases HA.out with e2 | e2 | e2
      · exact Or.inl (Or.inr (by rw [e, e2]))
      · rw [e2] at e; have := Option.some.inj e; exact Or.inr (by omega)
      · rw [e2] at e; have := Option.some.inj e; exact Or.inr (by omega)
  · exact (HK.out.mono (T := fun i => i = b ∨ some i = (Value.slice a n cap).ownBlock) (fun _ _ e => Or.inr e)).setCell ⟨b, 1, none⟩ (Or.inr (Or.inl rfl)) _
theorem bpush_no (c : UInt8) (h : Bf w B b most xs lost) (hlt : ¬ xs.length < most) : Calls Tryd.prog 25 #[ptr b, .int .u8 (c.toNat : Int)] w fun e w' => e = .returned (.bool false) ∧ Kept0 w w' := by
  obtain ⟨v, h1, h2, rfl⟩ := h
  have c0 : w.cell? ⟨b, 0, none⟩ = some (.int .i64 most) := by simp [World.cell?, h1]
  obtain ⟨a, cap, rfl⟩ : ∃ a cap, v = .slice a xs.length cap := by
    rcases h2.2 with ⟨rfl, hz⟩ | ⟨g, cap, cur, rfl, _⟩
    · exact ⟨none, 0, by rw [hz]⟩
    · exact ⟨_, _, rfl⟩
  have c1 : w.cell? ⟨b, 1, none⟩ = some (.slice a xs.length cap) := by simp [World.cell?, h1]
  have hdl : decide (most ≤ xs.length) = true := by simp; omega
  have hle : most ≤ xs.length := by omega
  clear h1 h2 hlt
  go_enter Tryd.func25, Tryd.ntmps25
  go_wp2_with fail
  go_quiet (fail)
  go_wp2_with fail
  go_ret
  exact ⟨rfl, (Kept.refl _ w).drewN _⟩
theorem push_yes (c : UInt8) (h : Bf w B b most xs lost) (hlt : xs.length < most) (hm : most ≤ 64) : Calls Tryd.prog 16 #[ptr b, .int .u8 (c.toNat : Int)] w fun e w' => e = .returned (.bool true) ∧ BPost B b most (xs ++ [c]) lost w w' := by
  have HP := Lib.hid (bpush_yes c h hlt hm)
  clear h hlt
  go_enter Tryd.func16, Tryd.ntmps16
  go_wp2_with fail
  refine HP.out.mono ?_
  rintro e w1 ⟨rfl, hp⟩
  have HQ := Lib.hid hp
  clear hp
  go_wp2_with fail
  go_ret
  exact ⟨rfl, HQ.out⟩
theorem push_no (c : UInt8) (h : Bf w B b most xs lost) (hlt : ¬ xs.length < most) (hl : lost < 1000) : Calls Tryd.prog 16 #[ptr b, .int .u8 (c.toNat : Int)] w fun e w' => e = .returned (.bool false) ∧ BPost B b most xs (lost + 1) w w' := by
  have HP := Lib.hid (bpush_no c h hlt)
  have H := Lib.hid h
  clear h hlt
  go_enter Tryd.func16, Tryd.ntmps16
  go_wp2_with fail
  refine HP.out.mono ?_
  rintro e w1 ⟨rfl, k1⟩
  obtain ⟨v, h1, h2, hB⟩ := H.out.kept0 k1
  have hne := own_ne h1 (by decide) h2
  have c2 : w1.cell? ⟨b, 2, none⟩ = some (.int .i64 lost) := by simp [World.cell?, h1]
  have f2 : w1.frozen? ⟨b, 2, none⟩ = false := by simp [World.frozen?, h1]
  have HF : Hid (Bf (w1.setCell ⟨b, 2, none⟩ (.int .i64 ((lost : Int) + 1))) B b most xs (lost + 1)) :=
    ⟨v, by simp [World.setCell, Array.getElem?_modify, h1], own_keep h2 (fun g hg => Below.heap_setCell _ _ _ _ (fun e => hne (by rw [hg, e]))), hB⟩
  have hbB : B b := by rw [hB]; exact Or.inl rfl
  have HK : Hid (Kept B w w1) := k1.to
  clear h1 h2 hne k1 hB HP H
  go_wp2_with fail
  go_ret
  exact ⟨rfl, B, HF.out, fun i hi => Or.inl hi, HK.out.setCell ⟨b, 2, none⟩ (Or.inr hbB) _⟩
end

/-- The document's buffer. -/
def Rf (w : World) (x : Nat) (most : Nat) (xs : List UInt8) (lost : Nat) : Prop := w.heap[x]? = some (.cells #[.string (str xs), .int .i64 most, .int .i64 lost] 35 (0, 0))
theorem Rf.kept {w w' : World} {x most lost : Nat} {xs : List UInt8} (h : Rf w x most xs lost) {T : Nat → Prop} (k : Kept T w w') (hT : ¬ T x) : Rf w' x most xs lost :=
  (k.block x (Array.getElem?_eq_some_iff.1 h).1 hT).trans h
theorem Rf.c0 {w : World} {x most lost : Nat} {xs : List UInt8} (h : Rf w x most xs lost) : w.cell? ⟨x, 0, none⟩ = some (.string (str xs)) := by unfold Rf at h; simp [World.cell?, h]
theorem Rf.c1 {w : World} {x most lost : Nat} {xs : List UInt8} (h : Rf w x most xs lost) : w.cell? ⟨x, 1, none⟩ = some (.int .i64 most) := by unfold Rf at h; simp [World.cell?, h]
theorem Rf.c2 {w : World} {x most lost : Nat} {xs : List UInt8} (h : Rf w x most xs lost) : w.cell? ⟨x, 2, none⟩ = some (.int .i64 lost) := by unfold Rf at h; simp [World.cell?, h]
theorem Rf.f {w : World} {x most lost : Nat} {xs : List UInt8} (h : Rf w x most xs lost) (k : Nat) : w.frozen? ⟨x, k, none⟩ = false := by unfold Rf at h; simp [World.frozen?, h]
theorem str_size (xs : List UInt8) : (str xs).size = xs.length := by simp [str, ByteArray.size]

theorem rpush_no {w : World} {x most lost : Nat} {xs : List UInt8} (c : UInt8) (h : Rf w x most xs lost) (hlt : ¬ xs.length < most) (hl : lost < 1000) : Calls Tryd.prog 17 #[ptr x, .int .u8 (c.toNat : Int)] w fun e w' => e = .returned (.bool false) ∧ Rf w' x most xs (lost + 1) ∧ Kept (· = x) w w' := by
  have c0 := h.c0
  have c1 := h.c1
  have c2 := h.c2
  have f2 := h.f 2
  have hs := str_size xs
  have hle : most ≤ (str xs).size := by omega
  have H := Lib.hid h
  clear h hlt hs
  go_enter Tryd.func17, Tryd.ntmps17
  go_wp2_with fail
  go_quiet (fail)
  go_wp2_with fail
  go_ret
  have h := H.out
  unfold Rf at h
  exact ⟨rfl, by unfold Rf; simp [World.setCell, Array.getElem?_modify, h], ((Kept.refl (· = x) w).drewN _).setCell ⟨x, 2, none⟩ (Or.inr rfl) _⟩
/-- A byte as a text. -/
theorem conv_one (c : UInt8) (w : World) (b : Nat) (h : w.cell? ⟨b, 0, none⟩ = some (.int .u8 (c.toNat : Int))) : (convert 49 9 (.slice (some ⟨b, 0, none⟩) 1 1)).run Tryd.prog w = .ok (.string ⟨#[c]⟩) w := by
  refine run_convert_bytes_back w 49 9 5 ⟨b, 0, none⟩ 1 [c] Tryd.underlying49 Tryd.underlying5 Tryd.underlying9 (fun j hj => ?_)
  obtain rfl : j = 0 := by simp at hj; omega
  simpa [Addr.add] using h
theorem rpush_yes {w : World} {x most lost : Nat} {xs : List UInt8} (c : UInt8) (h : Rf w x most xs lost) (hlt : xs.length < most) (hm : most ≤ 64) : Calls Tryd.prog 17 #[ptr x, .int .u8 (c.toNat : Int)] w fun e w' => e = .returned (.bool true) ∧ Rf w' x most (xs ++ [c]) lost ∧ Kept (· = x) w w' := by
  have c0 := h.c0
  have c1 := h.c1
  have f0 := h.f 0
  have hs := str_size xs
  have hs64 : (str xs).size + 1 ≤ 9223372036854775807 := by omega
  have hle : ¬ most ≤ (str xs).size := by omega
  have H := Lib.hid h
  clear h hlt hs
  go_enter Tryd.func17, Tryd.ntmps17
  go_wp2_with fail
  go_quiet (fail)
  go_wp2_with fail
  have hcv := fun w b h => conv_one c w b h
  obtain ⟨W, hW⟩ : ∃ W, W = w.drewN nq := ⟨_, rfl⟩
  have kW : Kept0 w W := by rw [hW]; exact (Kept.refl _ w).drewN nq
  replace c0 := kcell kW c0
  have fW : W.frozen? ⟨x, 0, none⟩ = false := (kW.frozen (World.block_lt_of_cell? _ _ c1) (fun e => e)).trans f0
  have HW : Hid (Rf W x most xs lost) := H.out.kept kW (fun e => e)
  have hxl : x < W.heap.size := World.block_lt_of_cell? _ _ c0
  have KW := Lib.hid kW
  rw [← hW]
  clear hW kW H c1 f0
  have he : str xs ++ ⟨#[c]⟩ = str (xs ++ [c]) := by
    apply ByteArray.ext
    simp [str]
  have hV : Rf (W.setCell ⟨x, 0, none⟩ (.string (str xs ++ ⟨#[c]⟩))) x most (xs ++ [c]) lost := by
    have h := HW.out
    unfold Rf at h ⊢
    rw [← he]
    simp [World.setCell, Array.getElem?_modify, h]
  have kV : Kept (· = x) w (W.setCell ⟨x, 0, none⟩ (.string (str xs ++ ⟨#[c]⟩))) := Kept.setCell (S := (· = x)) KW.out.to ⟨x, 0, none⟩ (Or.inr rfl) _
  have HV := Lib.hid hV
  have HK := Lib.hid kV
  clear hV kV he
  go_region_with (fail)
  all_goals
    go_wp2_with fail
    go_ret
    refine ⟨rfl, HV.out.kept (T := fun _ => False) (by first | exact ((Kept.refl _ _).alloc _).drew | exact ((Kept.refl _ _).alloc _) | exact ((Kept.refl _ _).drew.alloc _)) (fun e => e), by first | exact (HK.out.alloc _).drew | exact HK.out.alloc _ | exact HK.out.drew.alloc _⟩
end Go.Proofs.YtadcnfenchemhaaDoor
