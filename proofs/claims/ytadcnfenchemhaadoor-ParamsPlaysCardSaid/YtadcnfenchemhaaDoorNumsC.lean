/-
  What Numbers answers: the numbers of the parts between semicolons.
-/
import Derived.Test.YtadcnfenchemhaaDoorRefC
namespace Go.Proofs.YtadcnfenchemhaaDoor
open Go.RowKit Go.Maps

attribute [local go_sem] Oper.semAt_some

/-- What stands of the numbers between two rounds: the list's box holds a row of its own. -/
def Grow (w0 : World) (bl D : Nat) (l : List Int) (W : World) : Prop :=
  ∃ v, W.heap[bl]? = some (.cells #[v] 23 (0, 0)) ∧ W.ownsRow w0.heap.size 3 1 v l.length (l.map encI) ∧ (∀ g, v.ownBlock = some g → D + 1 < g)
theorem Grow.kept {w0 W W' : World} {bl D : Nat} {S : Nat → Prop} {l : List Int} (h : Grow w0 bl D l W) (k : Kept (badT D S) W W') (hb : ¬ badT D S bl) (hS : ∀ b, S b → b < D) : Grow w0 bl D l W' := by
  obtain ⟨v, h1, h2, h3⟩ := h
  refine ⟨v, (k.block bl (Array.getElem?_eq_some_iff.1 h1).1 hb).trans h1, ?_, h3⟩
  obtain ⟨e1, e2⟩ := h2
  refine ⟨e1, ?_⟩
  rcases e2 with e2 | ⟨g, cap, cur, hv, hg, hh, r⟩
  · exact Or.inl e2
  · refine Or.inr ⟨g, cap, cur, hv, hg, (k.block g (Array.getElem?_eq_some_iff.1 hh).1 ?_).trans hh, r⟩
    have := h3 g (by rw [hv]; rfl)
    rintro (e | e | e)
    · have := hS g e; omega
    · omega
    · omega
theorem own_keep {w w' : World} {base e size n : Nat} {v : Value} {xs : List Value} (h : w.ownsRow base e size v n xs) (hb : ∀ g, v.ownBlock = some g → w'.heap[g]? = w.heap[g]?) : w'.ownsRow base e size v n xs := by
  obtain ⟨e1, e2⟩ := h
  refine ⟨e1, ?_⟩
  rcases e2 with e2 | ⟨g, cap, cur, hv, hg, hh, r⟩
  · exact Or.inl e2
  · exact Or.inr ⟨g, cap, cur, hv, hg, (hb g (by rw [hv]; rfl)).trans hh, r⟩
theorem partsN_step : ∀ (ps : List (List UInt8)) (k : Nat) (l : List Int) (n : Int), partsN (ps.take k) = some l → k < ps.length → partN (ps.getD k []) = some n → partsN (ps.take (k + 1)) = some (l ++ [n])
  | [], k, l, n, _, h, _ => by simp at h
  | p :: ps, 0, l, n, h, _, hn => by
    simp [partsN] at h
    subst h
    simp at hn
    simp [partsN, hn]
  | p :: ps, k + 1, l, n, h, hk, hn => by
    simp only [List.take_succ_cons, partsN] at h ⊢
    cases hp : partN p with
    | none => rw [hp] at h; cases h
    | some m =>
      rw [hp] at h
      cases hr : partsN (ps.take k) with
      | none => rw [hr] at h; cases h
      | some l' =>
        rw [hr] at h
        obtain rfl := Option.some.inj h
        have := partsN_step ps k l' n hr (by simpa using hk) (by simpa using hn)
        simp only [this]
        rfl
theorem partsN_bad : ∀ (ps : List (List UInt8)) (k : Nat), k < ps.length → partN (ps.getD k []) = none → partsN ps = none
  | [], k, h, _ => by simp at h
  | p :: ps, 0, _, hn => by
    simp at hn
    simp [partsN, hn]
  | p :: ps, k + 1, hk, hn => by
    have := partsN_bad ps k (by simpa using hk) (by simpa using hn)
    simp only [partsN, this]
    cases partN p <;> rfl

theorem splitP_part : ∀ (l : List UInt8) (p : List UInt8), p ∈ splitP l → p.length ≤ l.length
  | [], p, h => by simp [splitP] at h; subst h; simp
  | c :: l, p, h => by
    unfold splitP at h
    split at h
    · rcases List.mem_cons.1 h with rfl | h
      · simp
      · have := splitP_part l p h; simp; omega
    · cases hs : splitP l with
      | nil => rw [hs] at h; simp at h; subst h; simp
      | cons q qs =>
        rw [hs] at h
        rcases List.mem_cons.1 h with rfl | h
        · have := splitP_part l q (by rw [hs]; simp); simp; omega
        · have := splitP_part l p (by rw [hs]; simp [h]); simp; omega

theorem numbers_none (w : World) : Calls Tryd.prog 10 #[.string ⟨#[]⟩] w fun e w' => NumsAns (some []) e w' ∧ Kept0 w w' := by
  go_enter Tryd.func10, Tryd.ntmps10
  go_wp2_with fail
  refine bodyPost_ret (v := .tuple #[.slice none 0 0, .bool true]) (by simp [results, Tryd.results10, go_sem]) rfl ⟨⟨none, 0, rfl, fun i x hx => by simp at hx⟩, ((Kept.refl _ w).alloc _).alloc _⟩

set_option maxRecDepth 100000 in
set_option maxHeartbeats 4000000 in
theorem numbers_some (s : ByteArray) (hs : s.size ≤ 1099511627776) (hne : s.data.toList ≠ []) (w : World) : Calls Tryd.prog 10 #[.string s] w fun e w' => NumsAns (partsN (splitP s.data.toList)) e w' ∧ Kept0 w w' := by
  have hte := toList_ne hne
  clear hne
  obtain ⟨ps, hps⟩ : ∃ ps, ps = splitP s.data.toList := ⟨_, rfl⟩
  have hplen : ps.length ≤ s.size + 1 := by rw [hps]; have := splitP_len s.data.toList; simpa using this
  rw [← hps]
  refine calls_marks Tryd.func10 rfl ?_
  simp only [Tryd.ntmps10, List.size_toArray, List.length_cons, List.length_nil, Nat.reduceAdd, Nat.reduceSub, Array.replicate_succ, Array.replicate_zero, List.push_toArray, List.append_toArray, List.nil_append, List.cons_append]
  go_wp2_with fail
  obtain ⟨w1, hw1⟩ : ∃ w1, w1 = ((w.alloc (.cells #[.slice none 0 0] 23)).alloc (.cells #[.bool false] 4)).alloc (.cells #[.slice none 0 0] 23) := ⟨_, rfl⟩
  have hk1 : Kept0 w w1 := by rw [hw1]; exact (((Kept.refl _ w).alloc _).alloc _).alloc _
  have ha0 : w1.heap[w.heap.size]? = some (.cells #[.slice none 0 0] 23 (0, 0)) := by
    rw [hw1]; exact (Below.heap_alloc _ _ _ (by simp; omega)).trans ((Below.heap_alloc _ _ _ (by simp)).trans (heap_new w _))
  have ha1 : w1.heap[w.heap.size + 1]? = some (.cells #[.bool false] 4 (0, 0)) := by
    rw [hw1]; exact (Below.heap_alloc _ _ _ (by simp)).trans (heap_new2 w _ _)
  have ha2 : w1.heap[w.heap.size + 1 + 1]? = some (.cells #[.slice none 0 0] 23 (0, 0)) := by
    rw [hw1]; exact heap_new3 w _ _ _
  have hs1 : w.heap.size + 3 = w1.heap.size := by rw [hw1]; simp
  rw [← hw1]
  clear hw1
  refine (seq_any s _).mono ?_
  rintro e w9 ⟨rfl, hw9⟩
  have hA : SeqAt w9 w1.heap.size (w1.heap.size + 1) (w1.heap.size + 2) s := by
    rw [hw9]
    refine ⟨?_, ?_, ?_⟩
    · exact (Below.heap_alloc _ _ _ (by simp; omega)).trans ((Below.heap_alloc _ _ _ (by simp)).trans (heap_new w1 _))
    · have : (((w1.alloc (.cells #[.string s] 9)).alloc (.cells #[.string ⟨#[59]⟩] 9)).alloc (.cells #[.int .i64 0] 3)).heap[w1.heap.size + 1]? = some (.cells #[.string ⟨#[59]⟩] 9 (0, 0)) := (Below.heap_alloc _ _ _ (by simp)).trans (heap_new2 w1 _ _)
      simp only [World.cell?, this]; rfl
    · have : (((w1.alloc (.cells #[.string s] 9)).alloc (.cells #[.string ⟨#[59]⟩] 9)).alloc (.cells #[.int .i64 0] 3)).heap[w1.heap.size + 2]? = some (.cells #[.int .i64 0] 3 (0, 0)) := heap_new3 w1 _ _ _
      simp only [World.cell?, this]; rfl
  have hk9 : Kept0 w1 w9 := by rw [hw9]; exact (((Kept.refl _ w1).alloc _).alloc _).alloc _
  have hs9 : w1.heap.size + 3 = w9.heap.size := by rw [hw9]; simp
  clear hw9
  go_wp2_with fail
  replace ha0 := (hk9.block _ (Array.getElem?_eq_some_iff.1 ha0).1 (fun e => e)).trans ha0
  replace ha1 := (hk9.block _ (Array.getElem?_eq_some_iff.1 ha1).1 (fun e => e)).trans ha1
  replace ha2 := (hk9.block _ (Array.getElem?_eq_some_iff.1 ha2).1 (fun e => e)).trans ha2
  have k09 := hk1.trans hk9
  obtain ⟨S, hS⟩ : ∃ S : Nat → Prop, S = fun b => b = w1.heap.size ∨ b = w1.heap.size + 1 ∨ b = w1.heap.size + 2 := ⟨_, rfl⟩
  have hbad : ∀ b, b < w.heap.size + 3 → ¬ badT w9.heap.size S b := by
    intro b hb e
    rcases e with e | e | e
    · rw [hS] at e; omega
    · omega
    · omega
  have hSlt : ∀ b, S b → b < w9.heap.size := by intro b hb; rw [hS] at hb; omega
  have hit := seq_iter w1.heap.size (w1.heap.size + 1) (w1.heap.size + 2) (by omega) (by omega) s (by omega)
  rw [← hps, ← hS] at hit
  have hG : ∀ W, Below w9.heap.size w9 W → SeqAt W w1.heap.size (w1.heap.size + 1) (w1.heap.size + 2) s := fun W hb => hA.kept (S := fun _ => False) ⟨hb.os, hb.tape, hb.output, hb.size, fun k hk _ => hb.block k hk⟩ (fun e => e) (fun e => e) (fun e => e)
  have HB := Lib.hid hbad
  have HSl := Lib.hid hSlt
  clear hS hbad hSlt hA
  refine wpIn_wide.1 (wp_rangeT (n := 0) (gf := 27) (lb := #[.pointer (some ⟨w1.heap.size + 1, 0, none⟩), .pointer (some ⟨w1.heap.size, 0, none⟩), .pointer (some ⟨w1.heap.size + 2, 0, none⟩)]) rfl (enters_of Tryd.func27 (by kernel_rfl) rfl)
    hit HSl.out (fun _ => rfl)
    (fun k W => ∃ l, Hid (partsN (ps.take k) = some l) ∧ l.length = k ∧ Grow w (w.heap.size + 1 + 1) w9.heap.size l W ∧ W.heap[w.heap.size]? = some (.cells #[.slice none 0 0] 23 (0, 0)) ∧ W.heap[w.heap.size + 1]? = some (.cells #[.bool false] 4 (0, 0)) ∧ Kept0 w W)
    (fun c k W => c = .ret ∧ Hid (partsN ps = none) ∧ W.heap[w.heap.size]? = some (.cells #[.slice none 0 0] 23 (0, 0)) ∧ W.heap[w.heap.size + 1]? = some (.cells #[.bool false] 4 (0, 0)) ∧ Kept0 w W)
    ?_ ?_ hG ?_ ?_ ?_ ?_)
  · rintro k W W' ⟨l, h1, h2, h3, h4, h5, h6⟩ kk
    exact ⟨l, h1, h2, h3.kept kk (HB.out _ (by omega)) HSl.out, (kk.block _ (Array.getElem?_eq_some_iff.1 h4).1 (HB.out _ (by omega))).trans h4, (kk.block _ (Array.getElem?_eq_some_iff.1 h5).1 (HB.out _ (by omega))).trans h5, h6.later kk (fun i hi e => (HB.out i (by omega) e).elim)⟩
  · rintro c k W W' ⟨h1, h2, h4, h5, h6⟩ kk
    exact ⟨h1, h2, (kk.block _ (Array.getElem?_eq_some_iff.1 h4).1 (HB.out _ (by omega))).trans h4, (kk.block _ (Array.getElem?_eq_some_iff.1 h5).1 (HB.out _ (by omega))).trans h5, h6.later kk (fun i hi e => (HB.out i (by omega) e).elim)⟩
  · intro W hb
    exact ⟨[], rfl, rfl, ⟨_, (hb.block _ (by omega)).trans ha2, World.ownsRow_nil _ _ _ _, fun g e => by cases e⟩, (hb.block _ (by omega)).trans ha0, (hb.block _ (by omega)).trans ha1, k09.thenBelow hb (by omega)⟩
  · rintro k W lo hk hI hD hL
    obtain ⟨l, h1, h2, h3, h4, h5, h6⟩ := hI
    have hparts : partArgs s.data.toList k = #[.string (str (ps.getD k []))] := by unfold partArgs; rw [← hps]
    rw [hparts]
    obtain ⟨pt, hpt⟩ : ∃ pt, pt = str (ps.getD k []) := ⟨_, rfl⟩
    have hpd : pt.data.toList = ps.getD k [] := by rw [hpt]; simp [str]
    have hps2 : pt.size ≤ 1152921504606846976 := by
      have h7 : (ps.getD k []).length ≤ s.data.toList.length := by
        rw [hps] at hk ⊢
        refine splitP_part _ _ ?_
        rw [List.getD, List.getElem?_eq_getElem hk]
        exact List.getElem_mem hk
      have h8 : pt.data.toList.length = pt.size := by simp
      have h9 : s.data.toList.length = s.size := by simp
      rw [hpd] at h8
      omega
    rw [← hpt]
    have HN := Lib.hid (number_any pt hps2)
    rw [hpd] at HN
    clear hpt hpd hparts hps2 hps
    gi_wp2_with fail
    refine ⟨Kept.refl _ W, fun W2 lo2 hk2 hD2 hL2 => ?_⟩
    have kk : Kept (badT w9.heap.size S) W W2 := hk2.mono (fun _ _ e => Or.inr (Or.inr e))
    replace h3 := h3.kept kk (HB.out _ (by omega)) HSl.out
    replace h4 := (kk.block _ (Array.getElem?_eq_some_iff.1 h4).1 (HB.out _ (by omega))).trans h4
    replace h5 := (kk.block _ (Array.getElem?_eq_some_iff.1 h5).1 (HB.out _ (by omega))).trans h5
    replace h6 := h6.later kk (fun i hi e => (HB.out i (by omega) e).elim)
    clear kk hk2 hD hL
    gi_wp2_with fail
    refine ⟨trivial, rfl, (CallsIn.inRound _ (callsIn_wide.2 (HN.out W2))).mono ?_⟩
    rintro e w3 ⟨rfl, k3⟩
    have kk : Kept (badT w9.heap.size S) W2 w3 := Kept0.to k3
    replace h3 := h3.kept kk (HB.out _ (by omega)) HSl.out
    replace h4 := (kk.block _ (Array.getElem?_eq_some_iff.1 h4).1 (HB.out _ (by omega))).trans h4
    replace h5 := (kk.block _ (Array.getElem?_eq_some_iff.1 h5).1 (HB.out _ (by omega))).trans h5
    replace h6 := h6.later kk (fun i hi e => (HB.out i (by omega) e).elim)
    replace hD2 := (k3.block _ (Array.getElem?_eq_some_iff.1 hD2).1 (fun e => e)).trans hD2
    replace hL2 := (k3.block _ (Array.getElem?_eq_some_iff.1 hL2).1 (fun e => e)).trans hL2
    have KB : Hid (Kept (fun b => ¬ badT w9.heap.size S b) W2 w3) := k3.to
    clear kk k3 HN
    unfold numRes
    cases hn : partN (ps.getD k []) with
    | none =>
      have hbadp : Hid (partsN ps = none) := partsN_bad ps k hk hn
      have c0 : w3.cell? ⟨w.heap.size, 0, none⟩ = some (.slice none 0 0) := by simp [World.cell?, h4]
      have c1 : w3.cell? ⟨w.heap.size + 1, 0, none⟩ = some (.bool false) := by simp [World.cell?, h5]
      have f0 : w3.frozen? ⟨w.heap.size, 0, none⟩ = false := by simp [World.frozen?, h4]
      have f1 : w3.frozen? ⟨w.heap.size + 1, 0, none⟩ = false := by simp [World.frozen?, h5]
      have HO := Lib.hid (And.intro h4 (And.intro h5 h6))
      clear h1 h3 h4 h5 h6 hn hD2 hL2
      gi_wp2_with fail
      obtain ⟨h4, h5, h6⟩ := HO.out
      refine ⟨(KB.out.setCell _ (Or.inr (HB.out _ (by simp))) _).setCell _ (Or.inr (HB.out _ (by simp))) _, rfl, hbadp, ?_, ?_, (h6.setCell _ (Or.inl (by simp)) _).setCell _ (Or.inl (by simp)) _⟩
      · simp [World.setCell, Array.getElem?_modify, h4]
      · simp [World.setCell, Array.getElem?_modify, h5]
    | some n =>
      have HP1 : Hid (partsN (ps.take (k + 1)) = some (l ++ [n])) := partsN_step ps k l n h1.out hk hn
      obtain ⟨v, hv, hown, hvb⟩ := h3
      have cv : w3.cell? ⟨w.heap.size + 1 + 1, 0, none⟩ = some v := by simp [World.cell?, hv]
      obtain ⟨i0, hi, hz0, hz1, hz2⟩ := info_parts info3
      have hbl : w.heap.size + 1 + 1 < w3.heap.size := (Array.getElem?_eq_some_iff.1 hv).1
      have HO := Lib.hid (And.intro h4 (And.intro h5 h6))
      have hDl : w9.heap.size + 1 < w3.heap.size := (Array.getElem?_eq_some_iff.1 hL2).1
      have HV := Lib.hid hv
      have HVB := Lib.hid hvb
      have hsz := h6.size
      have HLk := Lib.hid h2
      have hlk : l.length ≤ 1099511627776 := by omega
      clear h1 h2 h4 h5 h6 hn hD2 hL2 hv hvb
      gi_wp2_with (gi_at_builtin; refine wpListIn_append_own_at _ rfl _ _ 23 rfl w.heap.size 3 i0 (.int .i64 0) 1 8 Tryd.underlying23 hi hz0 hz1 hz2 rfl (by decide) _ _ _ rfl (hown.alloc _) ⟨w3.heap.size, 0, none⟩ 1 1 [.int .i64 n] rfl rfl (cell_one_new _ _ _) (by simp [Value.oneCell']) (by unfold maxLen; omega) (by omega) (by simp; omega) ?_)
      intro v' w4 hown' hgrow _ hat
      have hown2 : w4.ownsRow w.heap.size 3 1 v' (l ++ [n]).length ((l ++ [n]).map encI) := by simpa [encI] using hown'
      have KA : Kept (fun b => some b = v.ownBlock) (w3.alloc (.cells #[.int .i64 n] 3)) w4 := Kept.ofGrown hgrow
      have hv4 : w4.heap[w.heap.size + 1 + 1]? = some (.cells #[v] 23 (0, 0)) :=
        (KA.block _ (by simp; omega) (fun e => by have := HVB.out _ e.symm; omega)).trans ((Below.heap_alloc _ _ _ hbl).trans HV.out)
      have cv4 : w4.cell? ⟨w.heap.size + 1 + 1, 0, none⟩ = some v := by simp [World.cell?, hv4]
      have fv4 : w4.frozen? ⟨w.heap.size + 1 + 1, 0, none⟩ = false := by simp [World.frozen?, hv4]
      have hvb' : ∀ g, v'.ownBlock = some g → w9.heap.size + 1 < g := by
        intro g hg
        rcases hat with e | e
        · exact HVB.out g (by rw [← e]; exact hg)
        · rw [hg] at e
          have e2 := Option.some.inj e
          try simp at e2
          omega
      obtain ⟨a, cap, rfl, _⟩ := ints_owned hown2
      have HW := Lib.hid hown2
      have HX := Lib.hid hvb'
      have HK := Lib.hid KA
      have HV4 := Lib.hid hv4
      clear hown2 hown hown' hgrow hat hvb' KA hv4
      gi_wp2_with fail
      obtain ⟨h4, h5, h6⟩ := HO.out
      obtain ⟨h4, h5, h6⟩ := HO.out
      have k34 : Kept (fun b => some b = v.ownBlock) w3 w4 := ((Kept.refl _ w3).alloc _).later HK.out (fun _ _ e => e)
      have kf : Kept (fun b => some b = v.ownBlock ∨ b = w.heap.size + 1 + 1) w3 (w4.setCell ⟨w.heap.size + 1 + 1, 0, none⟩ (.slice a (l.length + 1) cap)) := (k34.mono (T := fun b => some b = v.ownBlock ∨ b = w.heap.size + 1 + 1) (fun _ _ e => Or.inl e)).setCell ⟨w.heap.size + 1 + 1, 0, none⟩ (Or.inr (Or.inr rfl)) _
      have kgood : ∀ b, (some b = v.ownBlock ∨ b = w.heap.size + 1 + 1) → ¬ badT w9.heap.size S b := by
        rintro b (e | rfl)
        · have h7 := HVB.out b e.symm
          rintro (e3 | e3 | e3)
          · have := HSl.out _ e3; omega
          · omega
          · omega
        · exact HB.out _ (by omega)
      refine ⟨KB.out.trans (kf.mono (fun b _ e => kgood b e)), l ++ [n], HP1, by simp [HLk.out], ⟨.slice a (l ++ [n]).length cap, ?_, ?_, HX.out⟩, ?_, ?_, ?_⟩
      · simp [World.setCell, Array.getElem?_modify, HV4.out]
      · exact own_keep HW.out (fun g hg => Below.heap_setCell _ _ _ _ (by have := HX.out g hg; simp; omega))
      · exact (kf.block _ (by omega) (by rintro (e | e); · have := HVB.out _ e.symm; omega
                                         · omega)).trans h4
      · exact (kf.block _ (by omega) (by rintro (e | e); · have := HVB.out _ e.symm; omega
                                         · omega)).trans h5
      · exact h6.later kf (fun i hi e => by rcases e with e | e; · have := HVB.out _ e.symm; omega
                                            · omega)
  · rintro W ⟨l, h1, h2, ⟨v, hv, hown, hvb⟩, h4, h5, h6⟩ hD
    have cv : W.cell? ⟨w.heap.size + 1 + 1, 0, none⟩ = some v := by simp [World.cell?, hv]
    have c0 : W.cell? ⟨w.heap.size, 0, none⟩ = some (.slice none 0 0) := by simp [World.cell?, h4]
    have c1 : W.cell? ⟨w.heap.size + 1, 0, none⟩ = some (.bool false) := by simp [World.cell?, h5]
    have f0 : W.frozen? ⟨w.heap.size, 0, none⟩ = false := by simp [World.frozen?, h4]
    have f1 : W.frozen? ⟨w.heap.size + 1, 0, none⟩ = false := by simp [World.frozen?, h5]
    obtain ⟨a, cap, rfl, hI⟩ := ints_owned hown
    have HI := Lib.hid hI
    rw [List.take_length] at h1
    have HL := Lib.hid h1
    have HO := Lib.hid (And.intro h4 (And.intro h5 h6))
    have HD := Lib.hid hD
    have HOW := Lib.hid (And.intro hown hvb)
    obtain ⟨L, hLL⟩ : ∃ L, L = l.length := ⟨_, rfl⟩
    rw [← hLL] at cv
    have HLL := Lib.hid hLL
    clear h1 h2 h4 h5 h6 hI hown hvb hD hv hLL hG
    go_wp2_with fail
    obtain ⟨h4, h5, h6⟩ := HO.out
    obtain ⟨hown, hvb⟩ := HOW.out
    obtain ⟨W4, hW4⟩ : ∃ W4, W4 = (W.setCell ⟨w.heap.size, 0, none⟩ (.slice a L cap)).setCell ⟨w.heap.size + 1, 0, none⟩ (.bool true) := ⟨_, rfl⟩
    have q1 : W4.cell? ⟨w.heap.size, 0, none⟩ = some (.slice a L cap) := by rw [hW4]; simp [go_sem, c0]
    have q2 : W4.cell? ⟨w.heap.size + 1, 0, none⟩ = some (.bool true) := by rw [hW4]; simp [go_sem, c1]
    have hk4 : Kept0 w W4 := by rw [hW4]; exact (h6.setCell _ (Or.inl (by simp)) _).setCell _ (Or.inl (by simp)) _
    have kW : Kept (fun b => b < w.heap.size + 2) W W4 := by
      rw [hW4]
      exact ((Kept.refl (fun b => b < w.heap.size + 2) W).setCell ⟨w.heap.size, 0, none⟩ (Or.inr (by simp)) _).setCell ⟨w.heap.size + 1, 0, none⟩ (Or.inr (by simp)) _
    have hD4 : W4.heap[w9.heap.size]? = some (.deferred (some [])) := (kW.block _ (Array.getElem?_eq_some_iff.1 HD.out).1 (by omega)).trans HD.out
    rw [← hW4]
    clear hW4
    have kP : Kept (· = w9.heap.size) W4 (W4.putObj w9.heap.size (.deferred none)) := kept_putObj _ _ _
    have q3 : (W4.putObj w9.heap.size (.deferred none)).cell? ⟨w.heap.size, 0, none⟩ = some (.slice a L cap) := (World.cell?_of_block (World.putObj_heap_other (by simp; omega))).trans q1
    have q4 : (W4.putObj w9.heap.size (.deferred none)).cell? ⟨w.heap.size + 1, 0, none⟩ = some (.bool true) := (World.cell?_of_block (World.putObj_heap_other (by simp; omega))).trans q2
    refine ⟨by simp, .inl ⟨_, _, rfl, run_takeDeferred hD4, ?_⟩⟩
    refine ⟨.tuple #[.slice a L cap, .bool true], by simp [results, Tryd.results10, go_sem, q3, q4], ?_, ?_⟩
    · rw [HL.out]
      refine ⟨a, cap, by rw [HLL.out], ?_⟩
      have ho2 : (W4.putObj w9.heap.size (.deferred none)).ownsRow w.heap.size 3 1 (.slice a l.length cap) l.length (l.map encI) := own_keep hown (fun g hg => by
        have := hvb g hg
        have hg2 := (hown.lt g hg).2
        exact (kP.block g (by have := kW.size; omega) (by omega)).trans (kW.block g hg2 (by omega)))
      obtain ⟨a', cap', e, hI'⟩ := ints_owned ho2
      cases e
      exact hI'
    · exact hk4.later kP (fun i hi e => by omega)
  · rintro c k W hk ⟨rfl, h2, h4, h5, h6⟩ hD
    have c0 : W.cell? ⟨w.heap.size, 0, none⟩ = some (.slice none 0 0) := by simp [World.cell?, h4]
    have c1 : W.cell? ⟨w.heap.size + 1, 0, none⟩ = some (.bool false) := by simp [World.cell?, h5]
    have HD := Lib.hid hD
    have HO := Lib.hid h6
    clear h4 h5 h6 hD hG
    gi_wp2_with fail
    have kP : Kept (· = w9.heap.size) W (W.putObj w9.heap.size (.deferred none)) := kept_putObj _ _ _
    have q3 : (W.putObj w9.heap.size (.deferred none)).cell? ⟨w.heap.size, 0, none⟩ = some (.slice none 0 0) := (World.cell?_of_block (World.putObj_heap_other (by simp; omega))).trans c0
    have q4 : (W.putObj w9.heap.size (.deferred none)).cell? ⟨w.heap.size + 1, 0, none⟩ = some (.bool false) := (World.cell?_of_block (World.putObj_heap_other (by simp; omega))).trans c1
    refine ⟨by simp, .inl ⟨_, _, rfl, run_takeDeferred HD.out, ?_⟩⟩
    refine ⟨.tuple #[.slice none 0 0, .bool false], by simp [results, Tryd.results10, go_sem, q3, q4], by rw [h2.out]; exact rfl, HO.out.later kP (fun i hi e => by omega)⟩

theorem numbers_any (s : ByteArray) (hs : s.size ≤ 1099511627776) (w : World) : Calls Tryd.prog 10 #[.string s] w fun e w' => NumsAns (numV s.data.toList) e w' ∧ Kept0 w w' := by
  by_cases h : s.data.toList = []
  · rw [h]
    obtain ⟨⟨l⟩⟩ := s
    simp only at h
    subst h
    exact numbers_none w
  · have : numV s.data.toList = partsN (splitP s.data.toList) := by
      cases hl : s.data.toList with
      | nil => exact absurd hl h
      | cons a l => rfl
    rw [this]
    exact numbers_some s hs h w
#print axioms numbers_any
end Go.Proofs.YtadcnfenchemhaaDoor
