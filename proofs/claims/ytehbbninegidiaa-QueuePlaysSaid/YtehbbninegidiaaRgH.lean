/-
  A queue and the document's, side by side: what a call does to both.
-/
import Derived.Test.YtehbbninegidiaaRgG
namespace Go.Proofs.Ytehbbninegidiaa
open Go.RowKit Go.Maps

/-- A queue, and the document's, in blocks that are newer than a world. -/
structure Both (w0 w : World) (b g x most : Nat) (xs : List UInt8) (over : Bool) : Prop where
  q : Qf w b g most xs over
  r : Rf w x most xs over
  nb : w0.heap.size ≤ b ∧ w0.heap.size ≤ g ∧ w0.heap.size ≤ x
  ne : x ≠ b ∧ x ≠ g
  old : Kept0 w0 w
/-- What a call comes to. -/
def stepX (most : Nat) (o : OpV) (xs : List UInt8) : List UInt8 := if o.ask = 0 then (if xs.length + sizes o.l ≤ most then xs ++ bytesOf o.l else xs) else if o.ask = 1 then [] else if o.ask = 3 then [] else xs.drop (takeN o.n xs)
def stepO (most : Nat) (o : OpV) (xs : List UInt8) (over : Bool) : Bool := if o.ask = 0 then (if xs.length + sizes o.l ≤ most then over else true) else if o.ask = 1 then false else if o.ask = 3 then false else over
theorem off_old {w0 : World} {a : Option Addr} {l : List ByteArray} (h : StrsIn w0 a l) {T : Nat → Prop} (hT : ∀ i, i < w0.heap.size → ¬ T i) : Off a l T := by
  intro hne p hp
  cases l with
  | nil => exact absurd rfl hne
  | cons s l =>
    obtain ⟨b, off, h1, h2, _⟩ := h 0 s rfl
    rw [hp] at h1
    cases h1
    exact hT _ (World.block_lt_of_cell? w0 _ h2)
theorem one_op {w : World} {b : Nat} {o : OpV} {t : TypeId} (h : w.heap[b]? = some (.cells #[.int .i64 o.ask, .slice o.la o.l.length o.lcap, .int .i64 o.n] t (0, 0))) : OpAt w b 0 o :=
  ⟨by simp [World.cell?, h], by simp [World.cell?, h], by simp [World.cell?, h]⟩
theorem push_any {w : World} {b g most : Nat} {xs : List UInt8} {over : Bool} (a : Option Addr) (cap : Nat) (l : List ByteArray) (h : Qf w b g most xs over) (hl : StrsIn w a l) (ho : Off a l (fun i => i = b ∨ i = g)) (hn : l.length ≤ 9223372036854775807) :
    Calls Try.prog 15 #[ptr b, .slice a l.length cap] w fun e w' => e = .returned (.bool (decide (xs.length + sizes l ≤ most))) ∧ Qf w' b g most (if xs.length + sizes l ≤ most then xs ++ bytesOf l else xs) (if xs.length + sizes l ≤ most then over else true) ∧ Kept (fun i => i = b ∨ i = g) w w' := by
  by_cases hf : xs.length + sizes l ≤ most
  · rw [if_pos hf, if_pos hf, decide_eq_true hf]
    exact push_yes a cap l h hl ho hn hf
  · rw [if_neg hf, if_neg hf, decide_eq_false hf]
    exact (push_no a cap l h hl hn hf).mono fun e w' ⟨h1, h2, h3⟩ => ⟨h1, h2, h3.mono (fun _ _ e => Or.inl e)⟩
theorem kcellS {T : Nat → Prop} {w w' : World} (h : Kept T w w') {b o : Nat} {v : Value} (hc : w.cell? ⟨b, o, none⟩ = some v) (hs : ¬ T b) : w'.cell? ⟨b, o, none⟩ = some v :=
  (h.cell (World.block_lt_of_cell? w _ hc) hs).trans hc
section
variable {w0 w : World} {b g x most : Nat} {xs : List UInt8} {over : Bool}
set_option maxRecDepth 100000 in
set_option maxHeartbeats 4000000 in
theorem does_any (o : OpV) (h : Both w0 w b g x most xs over) (hS : StrsIn w0 o.la o.l) (hok : o.Ok) (hz : sizes o.l ≤ 20000) :
    Calls Try.prog 12 #[ptr b, ptr x, .agg #[.int .i64 o.ask, .slice o.la o.l.length o.lcap, .int .i64 o.n]] w fun e w' => e = .returned (.bool true) ∧ Both w0 w' b g x most (stepX most o xs) (stepO most o xs over) := by
  obtain ⟨hq, hr, hnb, hne, hold⟩ := h
  have hbl := hq.lt
  have hgl := hq.ltg
  have hxl := hr.lt
  have hln := hq.len
  have hmo := hq.le
  have HNB : Hid (w0.heap.size ≤ b ∧ w0.heap.size ≤ g ∧ w0.heap.size ≤ x) := hnb
  have HNE : Hid (x ≠ b ∧ x ≠ g) := hne
  obtain ⟨w1, hw1⟩ : ∃ w1, w1 = w.alloc (.cells #[.int .i64 o.ask, .slice o.la o.l.length o.lcap, .int .i64 o.n] 35) := ⟨_, rfl⟩
  have hO : OpAt w1 w.heap.size 0 o := by rw [hw1]; exact one_op (heap_new _ _)
  have hk1 : Kept0 w w1 := by rw [hw1]; exact (Kept.refl _ w).alloc _
  have hs1 : w1.heap.size = w.heap.size + 1 := by rw [hw1]; simp
  have HQ := Lib.hid (hq.kept0 hk1)
  have HR := Lib.hid (hr.kept0 hk1)
  have HS : Hid (StrsIn w1 o.la o.l) := hS.kept0 (hold.trans hk1)
  have HOF : Hid (∀ T : Nat → Prop, (∀ i, i < w0.heap.size → ¬ T i) → Off o.la o.l T) := fun T hT => off_old hS hT
  have a0 := hO.ask
  have a1 := hO.l
  have a2 := hO.n
  simp only [Nat.zero_add] at a0 a1 a2
  have HOLD : Hid (Kept0 w0 w1) := hold.trans hk1
  have hol := hok.l
  obtain ⟨X, hX⟩ : ∃ X, X = stepX most o xs := ⟨_, rfl⟩
  obtain ⟨O, hOv⟩ : ∃ O, O = stepO most o xs over := ⟨_, rfl⟩
  rw [← hX, ← hOv]
  have fin : ∀ w', Kept (fun i => i = b ∨ i = g ∨ i = x) w1 w' → Qf w' b g most X O → Rf w' x most X O → Both w0 w' b g x most X O := fun w' k h1 h2 => ⟨h1, h2, HNB.out, HNE.out, HOLD.out.later k (fun i hi e => by have := HNB.out; omega)⟩
  have FIN := Lib.hid fin
  clear hq hr hnb hne hold hS hO fin hk1
  by_cases h0 : o.ask = 0
  · have HXO : Hid (X = (if xs.length + sizes o.l ≤ most then xs ++ bytesOf o.l else xs) ∧ O = (if xs.length + sizes o.l ≤ most then over else true)) := ⟨by rw [hX]; unfold stepX; rw [if_pos h0], by rw [hOv]; unfold stepO; rw [if_pos h0]⟩
    have d0 : (o.ask == 0) = true := by rw [h0]; rfl
    clear hX hOv h0
    obtain ⟨L, hL⟩ : ∃ L, L = o.l.length := ⟨_, rfl⟩
    obtain ⟨D, hD⟩ : ∃ D, D = decide (xs.length + sizes o.l ≤ most) := ⟨_, rfl⟩
    have HP : Hid (∀ W, Qf W b g most xs over → StrsIn W o.la o.l → Calls Try.prog 15 #[ptr b, .slice o.la L o.lcap] W fun e w' => e = .returned (.bool D) ∧ Qf w' b g most X O ∧ Kept (fun i => i = b ∨ i = g) W w') := fun W hq hs => by
      have := push_any o.la o.lcap o.l hq hs (HOF.out _ (fun i hi => by have := HNB.out; omega)) hol
      rw [hL, hD, HXO.out.1, HXO.out.2]
      exact this
    have HRP : Hid (∀ W, Rf W x most xs over → StrsIn W o.la o.l → Calls Try.prog 20 #[ptr x, .slice o.la L o.lcap] W fun e w' => e = .returned (.bool D) ∧ Rf w' x most X O ∧ Kept (· = x) W w') := fun W hq hs => by
      have := rpush_any o.la o.lcap o.l hq hs hol hz (by omega)
      rw [hL, hD, HXO.out.1, HXO.out.2]
      exact this
    rw [← hL] at a1 hw1 ⊢
    clear hL hD HXO
    have c1 : ∀ w', Kept (fun i => i = b ∨ i = g ∨ i = x) w1 w' → w'.cell? ⟨w.heap.size, 1, none⟩ = some (.slice o.la L o.lcap) := fun w' k => kcellS k a1 (by omega)
    go_enter Try.func12, Try.ntmps12
    go_wp2_with fail
    rw [← hw1]
    clear hw1
    go_region_held3 (fun w' => Kept (fun i => i = b ∨ i = g ∨ i = x) w1 w') (repeat (first | assumption | exact Kept.refl _ _ | refine Kept.drew ?_))
      (first
        | (go_at_call 15; refine (HP.out _ (HQ.out.kept0 (Kept.refl _ w1).drew) (HS.out.kept0 (Kept.refl _ w1).drew)).mono ?_; rintro e w5 ⟨rfl, hq5, hk5⟩; have HQ5 := Lib.hid hq5; have kx : Kept (fun i => i = b ∨ i = g ∨ i = x) w1 w5 := (Kept.refl _ w1).drew.trans (hk5.mono (fun _ _ e => by rcases e with e | e <;> simp [e])); clear hq5)
        | (go_at_call 20; refine (HRP.out _ (HR.out.kept ((Kept.refl (fun i => i = b ∨ i = g) w1).drew.trans hk5) (fun e => by have := HNE.out; omega)) (HS.out.kept kx (HOF.out _ (fun i hi => by have := HNB.out; omega)))).mono ?_; rintro e w6 ⟨rfl, hr6, hk6⟩; have HR6 := Lib.hid hr6; have ky : Kept (fun i => i = b ∨ i = g ∨ i = x) w1 w6 := kx.trans (hk6.mono (fun _ _ e => by simp [e])); clear hr6))
    go_wp2_with fail
    go_ret
    exact ⟨rfl, FIN.out _ ky (HQ5.out.kept hk6 (fun e => by have := HNE.out; omega) (fun e => by have := HNE.out; omega)) HR6.out⟩
  · have d0 : (o.ask == 0) = false := by simpa using h0
    have hxl2 : xs.length ≤ 9223372036854775807 := by omega
    by_cases h1 : o.ask = 1
    · have d1 : (o.ask == 1) = true := by rw [h1]; rfl
      have hXX : X = [] := by rw [hX]; unfold stepX; rw [if_neg h0, if_pos h1]
      have hOO : O = false := by rw [hOv]; unfold stepO; rw [if_neg h0, if_pos h1]
      clear hX hOv h0 h1
      have HD := Lib.hid (drain_any HQ.out)
      rw [← hXX, ← hOO] at HD
      have HRD : Hid (∀ W, Rf W x most xs over → Calls Try.prog 21 #[ptr x] W fun e w' => e = .returned (.string (str xs)) ∧ Rf w' x most X O ∧ Kept (· = x) W w') := fun W hq => by
        have := rdrain_any hq hxl2
        rwa [hXX, hOO]
      clear hXX hOO
      go_enter Try.func12, Try.ntmps12
      go_wp2_with fail
      rw [← hw1]
      clear hw1
      refine HD.out.mono ?_
      rintro e w5 ⟨rfl, hq5, hk5⟩
      have HQ5 := Lib.hid hq5
      have HK5 := Lib.hid hk5
      clear hq5 hk5 HD
      go_wp2_with fail
      refine (HRD.out _ (HR.out.kept HK5.out (fun e => by have := HNE.out; omega))).mono ?_
      rintro e w6 ⟨rfl, hr6, hk6⟩
      have HR6 := Lib.hid hr6
      have HK6 := Lib.hid hk6
      clear hr6 hk6 HRD
      go_wp2_with fail
      go_ret
      exact ⟨rfl, FIN.out _ ((HK5.out.mono (fun _ _ e => by rcases e with e | e <;> simp [e])).trans (HK6.out.mono (fun _ _ e => by simp [e]))) (HQ5.out.kept HK6.out (fun e => by have := HNE.out; omega) (fun e => by have := HNE.out; omega)) HR6.out⟩
    · have d1 : (o.ask == 1) = false := by simpa using h1
      by_cases h3 : o.ask = 3
      · have d3 : (o.ask == 3) = true := by rw [h3]; rfl
        have hXX : X = [] := by rw [hX]; unfold stepX; rw [if_neg h0, if_neg h1, if_pos h3]
        have hOO : O = false := by rw [hOv]; unfold stepO; rw [if_neg h0, if_neg h1, if_pos h3]
        clear hX hOv h0 h1 h3
        have HD := Lib.hid (clear_any HQ.out)
        rw [← hXX, ← hOO] at HD
        have HRD : Hid (∀ W, Rf W x most xs over → Calls Try.prog 21 #[ptr x] W fun e w' => e = .returned (.string (str xs)) ∧ Rf w' x most X O ∧ Kept (· = x) W w') := fun W hq => by
          have := rdrain_any hq hxl2
          rwa [hXX, hOO]
        clear hXX hOO
        go_enter Try.func12, Try.ntmps12
        go_wp2_with fail
        rw [← hw1]
        clear hw1
        refine HD.out.mono ?_
        rintro e w5 ⟨rfl, hq5, hk5⟩
        have HQ5 := Lib.hid hq5
        have HK5 := Lib.hid hk5
        clear hq5 hk5 HD
        go_wp2_with fail
        refine (HRD.out _ (HR.out.kept HK5.out (fun e => by have := HNE.out; omega))).mono ?_
        rintro e w6 ⟨rfl, hr6, hk6⟩
        have HR6 := Lib.hid hr6
        have HK6 := Lib.hid hk6
        clear hr6 hk6 HRD
        go_wp2_with fail
        go_ret
        exact ⟨rfl, FIN.out _ ((HK5.out.mono (fun _ _ e => by simp [e])).trans (HK6.out.mono (fun _ _ e => by simp [e]))) (HQ5.out.kept HK6.out (fun e => by have := HNE.out; omega) (fun e => by have := HNE.out; omega)) HR6.out⟩
      · have d3 : (o.ask == 3) = false := by simpa using h3
        have hXX : X = xs.drop (takeN o.n xs) := by rw [hX]; unfold stepX; rw [if_neg h0, if_neg h1, if_neg h3]
        have hOO : O = over := by rw [hOv]; unfold stepO; rw [if_neg h0, if_neg h1, if_neg h3]
        clear hX hOv h0 h1 h3
        obtain ⟨A, hA⟩ : ∃ A, A = str (xs.take (takeN o.n xs)) := ⟨_, rfl⟩
        have HP : Hid (∀ W, Qf W b g most xs over → Calls Try.prog 17 #[ptr b, .int .i64 o.n] W fun e w' => e = .returned (.string A) ∧ Qf w' b g most X O ∧ Kept (fun i => i = b ∨ i = g) W w') := fun W hq => by
          have := some_any o.n hq
          rwa [hA, hXX, hOO]
        have HRP : Hid (∀ W, Rf W x most xs over → Calls Try.prog 22 #[ptr x, .int .i64 o.n] W fun e w' => e = .returned (.string A) ∧ Rf w' x most X O ∧ Kept (· = x) W w') := fun W hq => by
          have := rsome_any o.n hq hxl2
          rwa [hA, hXX, hOO]
        clear hXX hOO hA
        have c2 : ∀ w', Kept (fun i => i = b ∨ i = g ∨ i = x) w1 w' → w'.cell? ⟨w.heap.size, 2, none⟩ = some (.int .i64 o.n) := fun w' k => kcellS k a2 (by omega)
        go_enter Try.func12, Try.ntmps12
        go_wp2_with fail
        rw [← hw1]
        clear hw1
        go_region_held3 (fun w' => Kept (fun i => i = b ∨ i = g ∨ i = x) w1 w') (repeat (first | assumption | exact Kept.refl _ _ | refine Kept.drew ?_))
          (first
            | (go_at_call 17; refine (HP.out _ (HQ.out.kept0 (Kept.refl _ w1).drew)).mono ?_; rintro e w5 ⟨rfl, hq5, hk5⟩; have HQ5 := Lib.hid hq5; have kx : Kept (fun i => i = b ∨ i = g ∨ i = x) w1 w5 := (Kept.refl _ w1).drew.trans (hk5.mono (fun _ _ e => by rcases e with e | e <;> simp [e])); clear hq5)
            | (go_at_call 22; refine (HRP.out _ (HR.out.kept ((Kept.refl (fun i => i = b ∨ i = g) w1).drew.trans hk5) (fun e => by have := HNE.out; omega))).mono ?_; rintro e w6 ⟨rfl, hr6, hk6⟩; have HR6 := Lib.hid hr6; have ky : Kept (fun i => i = b ∨ i = g ∨ i = x) w1 w6 := kx.trans (hk6.mono (fun _ _ e => by simp [e])); clear hr6))
        go_wp2_with fail
        go_ret
        exact ⟨rfl, FIN.out _ ky (HQ5.out.kept hk6 (fun e => by have := HNE.out; omega) (fun e => by have := HNE.out; omega)) HR6.out⟩
end
end Go.Proofs.Ytehbbninegidiaa
