/-
  What Some, Drain and Copy do.
-/
import Derived.Test.YtlhajbcabpfbkaaGreatDoorQuRgC
import Derived.Maps.OwnIn
namespace Go.Proofs.YtlhajbcabpfbkaaGreatDoor.Qu
open Go.RowKit Go.Maps

attribute [local go_sem] Oper.semAt_some

theorem own_keep {w w' : World} {base e size n : Nat} {v : Value} {xs : List Value} (h : w.ownsRow base e size v n xs) (hb : ∀ g, v.ownBlock = some g → w'.heap[g]? = w.heap[g]?) : w'.ownsRow base e size v n xs := by
  obtain ⟨e1, e2⟩ := h
  refine ⟨e1, ?_⟩
  rcases e2 with e2 | ⟨g, cap, cur, hv, hg, hh, r⟩
  · exact Or.inl e2
  · exact Or.inr ⟨g, cap, cur, hv, hg, (hb g (by rw [hv]; rfl)).trans hh, r⟩
theorem slice_of {w : World} {v : Value} {B n : Nat} {ys : List Value} (h : w.ownsRow B 5 1 v n ys) : ∃ a cap, v = .slice a n cap := by
  rcases h.2 with ⟨rfl, rfl⟩ | ⟨g, cap, cur, rfl, _⟩
  · exact ⟨none, 0, rfl⟩
  · exact ⟨_, _, rfl⟩
theorem conv_row {w : World} {v : Value} {B : Nat} {xs : List UInt8} (h : w.ownsRow B 5 1 v xs.length (xs.map encB)) : (convert 77 9 v).run Tryz.prog w = .ok (.string (str xs)) w := by
  rcases h.2 with ⟨rfl, hz⟩ | ⟨g, cap, cur, rfl, _, hh, h1, h2, h3, h4⟩
  · rw [List.eq_nil_of_length_eq_zero hz]
    exact run_convert_bytes_nil w 77 5 Tryz.underlying77 Tryz.underlying5 0 0 9 Tryz.underlying9
  · refine run_convert_bytes_back w 77 9 5 ⟨g, 0, none⟩ cap xs Tryz.underlying77 Tryz.underlying5 Tryz.underlying9 (fun j hj => ?_)
    have h5 : (cur.toList.take xs.length)[j]? = some (encB xs[j]) := by
      have : cur.toList.take xs.length = xs.map encB := by simpa using h4
      rw [this, List.getElem?_map, List.getElem?_eq_getElem hj]; rfl
    rw [List.getElem?_take_of_lt hj] at h5
    have ha : (⟨g, 0, none⟩ : Addr).add j = ⟨g, j, none⟩ := by
      simp [Addr.add]
      intro e
      rw [e]
    rw [ha]
    simp only [World.cell?, hh]
    simpa [encB] using h5

/-- What stands of a list of bytes between two rounds. -/
def Grow (B bl D : Nat) (ys : List UInt8) (W : World) : Prop :=
  ∃ v, W.heap[bl]? = some (.cells #[v] 77 (0, 0)) ∧ W.ownsRow B 5 1 v ys.length (ys.map encB) ∧ (∀ g, v.ownBlock = some g → D + 1 < g)
theorem Grow.kept {B bl D : Nat} {W W' : World} {S : Nat → Prop} {l : List UInt8} (h : Grow B bl D l W) (k : Kept (badT D S) W W') (hb : ¬ badT D S bl) (hS : ∀ b, S b → b < D) : Grow B bl D l W' := by
  obtain ⟨v, h1, h2, h3⟩ := h
  refine ⟨v, (k.block bl (Array.getElem?_eq_some_iff.1 h1).1 hb).trans h1, own_keep h2 (fun g hg => k.block g (h2.lt g hg).2 ?_), h3⟩
  have := h3 g hg
  rintro (e | e | e)
  · have := hS g e; omega
  · omega
  · omega
theorem take_step {ys : List UInt8} {k : Nat} (hk : k < ys.length) : ys.take (k + 1) = ys.take k ++ [ys.getD k 0] := by
  rw [List.take_add_one, List.getElem?_eq_getElem hk]
  simp [List.getD, hk]
set_option maxRecDepth 100000 in
set_option maxHeartbeats 4000000 in
theorem append_any (lb : Array Value) (ys : List UInt8) (hy : ys.length ≤ 4096) (S : Nat → Prop) (F : World → Prop) (w : World) (G : World → Prop) (hit : IterU Tryz.prog 68 lb (encX ys) ys.length S G F) (hS : ∀ i, S i → i < w.heap.size) (hF : ∀ W W', F W → Kept (fun b => ¬ S b) W W' → F W') (hG : ∀ W, Kept0 w W → G W) :
    Calls Tryz.prog 67 #[.slice none 0 0, .func (.func 68) #[] lb] w fun e w' => ∃ v, e = .returned v ∧ w'.ownsRow w.heap.size 5 1 v ys.length (ys.map encB) ∧ F w' ∧ Kept S w w' := by
  refine calls_marks Tryz.func67 rfl ?_
  simp only [Tryz.ntmps67, List.size_toArray, List.length_cons, List.length_nil, Nat.reduceAdd, Nat.reduceSub, Array.replicate_succ, Array.replicate_zero, List.push_toArray, List.append_toArray, List.nil_append, List.cons_append]
  go_wp2_with fail
  obtain ⟨w1, hw1⟩ : ∃ w1, w1 = w.alloc (.cells #[.slice none 0 0] 77) := ⟨_, rfl⟩
  have hk1 : Kept0 w w1 := by rw [hw1]; exact (Kept.refl _ w).alloc _
  have ha0 : w1.heap[w.heap.size]? = some (.cells #[.slice none 0 0] 77 (0, 0)) := by rw [hw1]; exact heap_new w _
  have hs1 : w1.heap.size = w.heap.size + 1 := by rw [hw1]; simp
  rw [← hw1]
  clear hw1
  have hS1 : ∀ b, S b → b < w1.heap.size := fun b hb => by have := hS b hb; omega
  have HSl := Lib.hid hS1
  have HSw := Lib.hid hS
  have HF := Lib.hid hF
  have hbad : Hid (¬ badT w1.heap.size S w.heap.size) := by
    rintro (e | e | e)
    · have := hS _ e; omega
    · omega
    · omega
  clear hS1 hS hF
  refine wpIn_wide.1 (wp_rangeU (n := 0) (gf := 68) (lb := lb) rfl (enters_of Tryz.func68 (by kernel_rfl) rfl)
    hit HF.out HSl.out (fun _ => rfl)
    (fun k W => k ≤ ys.length ∧ Grow w.heap.size w.heap.size w1.heap.size (ys.take k) W ∧ Kept S w W)
    ?_ (fun W hb => hG W (hk1.thenBelow hb (by omega))) ?_ ?_ ?_)
  · rintro k W W' ⟨h1, h2, h3⟩ kk
    exact ⟨h1, h2.kept kk hbad.out HSl.out, h3.later kk (fun i hi e => by
      rcases e with e | e | e
      · exact e
      · omega
      · omega)⟩
  · intro W hb
    exact ⟨Nat.zero_le _, ⟨_, (hb.block _ (by omega)).trans ha0, World.ownsRow_nil _ _ _ _, fun g e => by cases e⟩, Kept0.to (hk1.thenBelow hb (by omega))⟩
  · rintro k W lo hk ⟨h1, h2, h3⟩ hD hL
    obtain ⟨x, hx⟩ : ∃ x, x = ys.getD k 0 := ⟨_, rfl⟩
    have hst := take_step hk
    unfold encX
    rw [← hx] at hst ⊢
    unfold encB
    have HT := Lib.hid hst
    clear hst hx
    gi_wp2_with fail
    refine ⟨Kept.refl _ W, fun W2 lo2 hk2 hD2 hL2 => ?_⟩
    have kk : Kept (badT w1.heap.size S) W W2 := hk2.mono (fun _ _ e => Or.inr (Or.inr e))
    replace h2 := h2.kept kk hbad.out HSl.out
    replace h3 : Kept S w W2 := h3.later kk (fun i hi e => by
      rcases e with e | e | e
      · exact e
      · omega
      · omega)
    clear kk hk2 hD hL
    obtain ⟨v, hv, hown, hvb⟩ := h2
    have cv : W2.cell? ⟨w.heap.size, 0, none⟩ = some v := by simp [World.cell?, hv]
    obtain ⟨i0, hi, hz0, hz1, hz2⟩ := info_parts Tryz.info5
    have hbl : w.heap.size < W2.heap.size := (Array.getElem?_eq_some_iff.1 hv).1
    have hDl : w1.heap.size + 1 < W2.heap.size := (Array.getElem?_eq_some_iff.1 hL2).1
    have HV := Lib.hid hv
    have HVB := Lib.hid hvb
    have HK := Lib.hid h3
    have hlen : (ys.take k).length = k := by rw [List.length_take]; omega
    obtain ⟨zs, hzs⟩ : ∃ zs, zs = ys.take k := ⟨_, rfl⟩
    rw [← hzs] at hown hlen HT
    rw [hlen] at hown
    have HL := Lib.hid hlen
    clear hv hvb h3 hD2 hL2 hzs hlen
    gi_wp2_with (gi_at_builtin; refine wpListIn_append_own_at _ rfl _ _ 77 rfl w.heap.size 5 i0 (.int .u8 0) 1 1 Tryz.underlying77 hi hz0 hz1 hz2 rfl (by decide) _ _ _ rfl (hown.alloc _) ⟨W2.heap.size, 0, none⟩ 1 1 [.int .u8 (x.toNat : Int)] rfl rfl (cell_one_new _ _ _) (by simp [Value.oneCell']) (by unfold maxLen; omega) (by omega) (by simp; omega) ?_)
    intro v' w4 hown' hgrow _ hat
    have hown2 : w4.ownsRow w.heap.size 5 1 v' (zs ++ [x]).length ((zs ++ [x]).map encB) := by
      rw [List.length_append, HL.out]
      simpa [encB] using hown'
    have KA : Kept (fun b => some b = v.ownBlock) (W2.alloc (.cells #[.int .u8 (x.toNat : Int)] 5)) w4 := Kept.ofGrown hgrow
    have hv4 : w4.heap[w.heap.size]? = some (.cells #[v] 77 (0, 0)) :=
      (KA.block _ (by simp; omega) (fun e => by have := HVB.out _ e.symm; omega)).trans ((Below.heap_alloc _ _ _ hbl).trans HV.out)
    have cv4 : w4.cell? ⟨w.heap.size, 0, none⟩ = some v := by simp [World.cell?, hv4]
    have fv4 : w4.frozen? ⟨w.heap.size, 0, none⟩ = false := by simp [World.frozen?, hv4]
    have hvb' : ∀ g, v'.ownBlock = some g → w1.heap.size + 1 < g := by
      intro g hg
      rcases hat with e | e
      · exact HVB.out g (by rw [← e]; exact hg)
      · rw [hg] at e
        have e2 := Option.some.inj e
        try simp at e2
        omega
    obtain ⟨a', cap', rfl⟩ := slice_of hown'
    have HW := Lib.hid hown2
    have HX := Lib.hid hvb'
    have HKA := Lib.hid KA
    have HV4 := Lib.hid hv4
    clear hown2 hown hown' hgrow hat hvb' KA hv4
    gi_wp2_with fail
    have k34 : Kept (fun b => some b = v.ownBlock) W2 w4 := ((Kept.refl _ W2).alloc _).later HKA.out (fun _ _ e => e)
    have kf : Kept (fun b => some b = v.ownBlock ∨ b = w.heap.size) W2 (w4.setCell ⟨w.heap.size, 0, none⟩ (.slice a' (k + 1) cap')) := (k34.mono (T := fun b => some b = v.ownBlock ∨ b = w.heap.size) (fun _ _ e => Or.inl e)).setCell ⟨w.heap.size, 0, none⟩ (Or.inr (Or.inr rfl)) _
    have kgood : ∀ b, (some b = v.ownBlock ∨ b = w.heap.size) → ¬ badT w1.heap.size S b := by
      rintro b (e | rfl)
      · have h7 := HVB.out b e.symm
        rintro (e3 | e3 | e3)
        · have := HSl.out _ e3; omega
        · omega
        · omega
      · exact hbad.out
    refine ⟨kf.mono (fun b _ e => kgood b e), by omega, ⟨_, ?_, ?_, HX.out⟩, HK.out.later kf (fun i hi e => ?_)⟩
    · simp [World.setCell, Array.getElem?_modify, HV4.out]
    · rw [HT.out]
      exact own_keep HW.out (fun g hg => Below.heap_setCell _ _ _ _ (by have := HX.out g hg; simp; omega))
    · rcases e with e | e
      · have := HVB.out _ e.symm; omega
      · omega
  · rintro W ⟨h1, ⟨v, hv, hown, hvb⟩, h3⟩ hf hD
    have cv : W.cell? ⟨w.heap.size, 0, none⟩ = some v := by simp [World.cell?, hv]
    have HO := Lib.hid (And.intro hown hvb)
    have HK := Lib.hid h3
    have HFF := Lib.hid hf
    have HD := Lib.hid hD
    clear hv hown hvb h3 hf hD hG
    go_wp2_with fail
    have kP : Kept (· = w1.heap.size) W (W.putObj w1.heap.size (.deferred none)) := kept_putObj _ _ _
    refine ⟨by simp, .inl ⟨_, _, rfl, run_takeDeferred HD.out, ?_⟩⟩
    refine ⟨v, by simp [results, Tryz.results67, go_sem], v, rfl, ?_, ?_, ?_⟩
    · have := HO.out.1
      rw [List.take_length] at this
      exact own_keep this (fun g hg => kP.block g (this.lt g hg).2 (by have := HO.out.2 g hg; omega))
    · exact HF.out _ _ HFF.out (kP.mono (fun i _ e h => by have := HSl.out _ h; omega))
    · exact HK.out.later kP (fun i hi e => by omega)
theorem IterU.congr {P : Program} {gf : Nat} {lb : Array Value} {e1 e2 : Nat → Array Value} {N : Nat} {S : Nat → Prop} {G F : World → Prop} (h : IterU P gf lb e1 N S G F) (he : ∀ k, k < N → e1 k = e2 k) : IterU P gf lb e2 N S G F := by
  intro n l J W hJ hG hY h0
  exact h n l J W hJ hG (fun k W1 hk hj => by rw [he k hk]; exact hY k W1 hk hj) h0
theorem taken_any (b : Nat) (n : Int) (w : World) : Calls Tryz.prog 48 #[ptr b, .int .i64 n] w fun e w' => e = .returned (.func (.func 68) #[] #[ptr (w.heap.size + 1), ptr w.heap.size]) ∧ Boxes w' (w.heap.size + 1) w.heap.size b n ∧ w'.heap.size = w.heap.size + 2 ∧ Kept0 w w' := by
  go_enter Tryz.func48, Tryz.ntmps48
  go_wp2_with fail
  go_ret
  have h1 : ((w.alloc (.cells #[ptr b] 127)).alloc (.cells #[.int .i64 n] 3)).heap[w.heap.size]? = some (.cells #[ptr b] 127 (0, 0)) := (Below.heap_alloc _ _ _ (by simp)).trans (heap_new w _)
  have h2 : ((w.alloc (.cells #[ptr b] 127)).alloc (.cells #[.int .i64 n] 3)).heap[w.heap.size + 1]? = some (.cells #[.int .i64 n] 3 (0, 0)) := heap_new2 w _ _
  exact ⟨rfl, ⟨by simp only [World.cell?, h2]; rfl, by simp only [World.cell?, h1]; rfl⟩, by simp, ((Kept.refl _ w).alloc _).alloc _⟩
theorem collect_any (lb : Array Value) (ys : List UInt8) (hy : ys.length ≤ 4096) (S : Nat → Prop) (F : World → Prop) (w : World) (G : World → Prop) (hit : IterU Tryz.prog 68 lb (encX ys) ys.length S G F) (hS : ∀ i, S i → i < w.heap.size) (hF : ∀ W W', F W → Kept (fun b => ¬ S b) W W' → F W') (hG : ∀ W, Kept0 w W → G W) :
    Calls Tryz.prog 47 #[.func (.func 68) #[] lb] w fun e w' => ∃ v, e = .returned v ∧ w'.ownsRow w.heap.size 5 1 v ys.length (ys.map encB) ∧ F w' ∧ Kept S w w' := by
  have HA := Lib.hid (append_any lb ys hy S F w G hit hS hF hG)
  clear hit hS hF hG
  go_enter Tryz.func47, Tryz.ntmps47
  go_wp2_with fail
  refine HA.out.mono ?_
  rintro e w1 ⟨v, rfl, h⟩
  have H := Lib.hid h
  clear h
  obtain ⟨a, cap, rfl⟩ := slice_of H.out.1
  go_wp2_with fail
  go_ret
  exact ⟨_, rfl, H.out⟩
section
variable {w : World} {b g most : Nat} {xs : List UInt8} {over : Bool}
theorem some_any (n : Int) (h : Qf w b g most xs over) : Calls Tryz.prog 31 #[ptr b, .int .i64 n] w fun e w' => e = .returned (.string (str (xs.take (takeN n xs)))) ∧ Qf w' b g most (xs.drop (takeN n xs)) over ∧ Kept (fun i => i = b ∨ i = g) w w' := by
  obtain ⟨N, hN⟩ : ∃ N, N = takeN n xs := ⟨_, rfl⟩
  have hNx : N ≤ xs.length := by rw [hN]; unfold takeN; omega
  have hit := fun bn br (h1 : bn ≠ b) (h2 : br ≠ b) => taken_iter bn br b g most n xs over h1 h2
  rw [← hN] at hit ⊢
  clear hN
  obtain ⟨ys, hys⟩ : ∃ ys, ys = xs.take N := ⟨_, rfl⟩
  have hyl : ys.length = N := by rw [hys, List.length_take]; omega
  have hy4 : ys.length ≤ 4096 := by have := h.len; have := h.le; omega
  have he : ∀ k, k < N → encX xs k = encX ys k := fun k hk => by
    unfold encX
    rw [hys, List.getD, List.getD, List.getElem?_take_of_lt hk]
  have hit2 := fun bn br (h1 : bn ≠ b) (h2 : br ≠ b) => (hit bn br h1 h2).congr he
  have HIT := Lib.hid hit2
  have HQ := Lib.hid h
  have hbl := h.lt
  have hgl := h.ltg
  rw [← hys]
  clear hit he hit2 h hys
  go_enter Tryz.func31, Tryz.ntmps31
  go_wp2_with fail
  refine (taken_any b n w).mono ?_
  rintro e w1 ⟨rfl, hb, hs, k1⟩
  have HB := Lib.hid hb
  have HK1 := Lib.hid k1
  have hcol := collect_any #[ptr (w.heap.size + 1), ptr w.heap.size] ys hy4 (fun i => i = b ∨ i = g ∨ i = w.heap.size + 1 ∨ i = w.heap.size) (fun W => Qf W b g most (xs.drop N) over) w1 (fun W => Boxes W (w.heap.size + 1) w.heap.size b n ∧ Qf W b g most xs over) (by rw [hyl]; exact HIT.out _ _ (by omega) (by omega)) (fun i hi => by omega)
    (fun W W' hq k => hq.kept k (fun e => e (Or.inl rfl)) (fun e => e (Or.inr (Or.inl rfl))))
    (fun W k => ⟨HB.out.kept (T := fun _ => False) k (fun e => e) (fun e => e), HQ.out.kept0 (k1.trans k)⟩)
  have HC := Lib.hid hcol
  clear hcol hb k1 HIT
  go_wp2_with fail
  refine HC.out.mono ?_
  rintro e w2 ⟨v, rfl, h1, h2, h3⟩
  have hcv := conv_row h1
  have H2 := Lib.hid h2
  have H3 := Lib.hid h3
  clear h1 h2 h3 HC
  go_wp2_with fail
  go_ret
  exact ⟨rfl, H2.out, (Kept0.to HK1.out).later H3.out (fun i hi e => by omega)⟩
theorem some_nil (n : Int) (w : World) : Calls Tryz.prog 31 #[.pointer none, .int .i64 n] w fun e w' => e = .returned (.string ⟨#[]⟩) ∧ w' = w := by
  go_enter Tryz.func31, Tryz.ntmps31
  go_wp2_with fail
  go_ret
  exact ⟨rfl, rfl⟩
theorem drain_any (h : Qf w b g most xs over) : Calls Tryz.prog 15 #[ptr b] w fun e w' => e = .returned (.string (str xs)) ∧ Qf w' b g most [] false ∧ Kept (fun i => i = b ∨ i = g) w w' := by
  have HL := Lib.hid (len_any h)
  have hs := some_any (xs.length : Int) h
  have ht : takeN (xs.length : Int) xs = xs.length := by unfold takeN; omega
  rw [ht, List.take_length] at hs
  have HS := Lib.hid hs
  clear hs ht h
  go_enter Tryz.func15, Tryz.ntmps15
  go_wp2_with fail
  refine HL.out.mono ?_
  rintro e w1 ⟨rfl, rfl⟩
  go_wp2_with fail
  refine HS.out.mono ?_
  rintro e w2 ⟨rfl, hq, k2⟩
  have HC := Lib.hid (clear_any hq)
  have HK := Lib.hid k2
  clear hq k2 HS HL
  go_wp2_with fail
  refine HC.out.mono ?_
  rintro e w3 ⟨rfl, hq, k3⟩
  have HQ := Lib.hid hq
  have HK3 := Lib.hid k3
  clear hq k3 HC
  go_wp2_with fail
  go_ret
  exact ⟨rfl, HQ.out, HK.out.trans (HK3.out.mono (fun _ _ e => Or.inl e))⟩
theorem drain_nil (w : World) : Calls Tryz.prog 15 #[.pointer none] w fun e w' => e = .returned (.string ⟨#[]⟩) ∧ w' = w := by
  go_enter Tryz.func15, Tryz.ntmps15
  go_wp2_with fail
  refine (len_nil _).mono ?_
  rintro e w1 ⟨rfl, rfl⟩
  go_wp2_with fail
  refine (some_nil _ _).mono ?_
  rintro e w1 ⟨rfl, rfl⟩
  go_wp2_with fail
  refine (clear_nil _).mono ?_
  rintro e w1 ⟨rfl, rfl⟩
  go_wp2_with fail
  go_ret
  exact ⟨rfl, rfl⟩
end
end Go.Proofs.YtlhajbcabpfbkaaGreatDoor.Qu
