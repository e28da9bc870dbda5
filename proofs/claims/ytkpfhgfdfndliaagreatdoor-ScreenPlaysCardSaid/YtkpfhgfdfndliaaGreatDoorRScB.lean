/-
  The document's screen: Step, Feed.
-/
import Derived.Test.YtkpfhgfdfndliaaGreatDoorRScA
import Derived.Test.YtkpfhgfdfndliaaGreatDoorFeedsF
namespace Go.Proofs.YtkpfhgfdfndliaaGreatDoor
open Go.RowKit

set_option maxHeartbeats 1000000 in
theorem rstep_any {s g t cap tb m R C : Nat} {F : Nat → Cel} {S : Nat → Bool} {r c : Int} {b : Bool} (p q : Int) (w : World) (h : RIn w s g t cap tb m R C F S r c b) :
    Calls Tryz.prog 45 #[ptr s, .int .i64 p, .int .i64 q] w fun e w' => e = .returned (.tuple #[]) ∧ RIn w' s g t cap tb m R C F S (nr (r + cut p 255) R) (nr (c + cut q 255) C) false ∧ Kept (· = s) w w' := by
  have hR1 := h.grid.R1
  have hR2 := h.grid.R2
  have hC1 := h.grid.C1
  have hC2 := h.grid.C2
  have hth := h.there
  have HN := Lib.hid (fun w' => refStep_any (R : Int) (C : Int) r c p q (may_nat hR1 hR2 hC1 hC2) w')
  rw [show nr (nr r R + cut p 1000) R = nr (r + cut p 255) R by rw [nr_in r R hth.1 hth.2.1]; have := hth.1; have := hth.2.1; unfold nr cut; omega,
    show nr (nr c C + cut q 1000) C = nr (c + cut q 255) C by rw [nr_in c C hth.2.2.1 hth.2.2.2]; have := hth.2.2; unfold nr cut; omega] at HN
  have HT : Hid (There R C (nr (r + cut p 255) R) (nr (c + cut q 255) C)) := st_there h.grid.R1 h.grid.C1
  have HW := Lib.hid h
  have c1 := h.c1
  have c2 := h.c2
  have hl := h.lt
  clear h hth hR1 hR2 hC1 hC2
  go_enter Tryz.func45, Tryz.ntmps45
  go_wp2_with fail
  obtain ⟨p5, hp5⟩ : ∃ p5, p5 = nr (r + cut p 255) R := ⟨_, rfl⟩
  obtain ⟨q5, hq5⟩ : ∃ q5, q5 = nr (c + cut q 255) C := ⟨_, rfl⟩
  rw [← hp5, ← hq5] at HN HT
  have HP5 := Lib.hid hp5
  have HQ5 := Lib.hid hq5
  clear hp5 hq5
  go_region_with
    (first
      | (go_at_call 87; refine (HN.out _).mono ?_; rintro e w4 ⟨rfl, hk4⟩; have kn4 : Hid (Kept0 w w4) := kn.out.trans hk4; have HS := Lib.hid (HW.out.kept0 kn4.out); have y0 := HS.out.c1; have y1 := HS.out.c2; have y2 := HS.out.c3; have f0 := HS.out.fz 1; have f1 := HS.out.fz 2; have f2 := HS.out.fz 3)
      | (go_at_call 32; refine (rsize_any _ (HW.out.kept0 (Kept.refl _ w).drew)).mono ?_; rintro e w3 ⟨rfl, hk3⟩; have kn : Hid (Kept0 w w3) := (Kept.refl _ w).drew.trans hk3; have z0 := kcell kn.out c1; have z1 := kcell kn.out c2))
  all_goals
    go_wp2_with fail
    go_end0
    have e1 := HP5.out
    have e2 := HQ5.out
    subst e1 e2
    exact ⟨rfl, HS.out.onPlace HT.out, kn4.out.to.trans (RIn.keptPlace _ s _ _ false)⟩

set_option maxHeartbeats 1000000 in
theorem blankR (w : World) : Calls Tryz.prog 30 #[] w fun e w' => e = .returned blk.v ∧ Kept0 w w' := by
  go_enter Tryz.func30, Tryz.ntmps30
  go_wp2_with fail
  have kk : Kept0 w (w.alloc (.cells #[.int .i32 0, .int .i64 0, .bool false, .int .i64 0] 36)) := (Kept.refl _ w).alloc _
  exact bodyPost_ret (v := blk.v) (by simp [results, Tryz.results30, go_sem, blk]) rfl ⟨rfl, (Kept.refl _ w).alloc _⟩

/-- Ups one behind the other, the same way. -/
theorem upF_upF {R C : Nat} (F : Nat → Cel) (d e : Int) (x : Cel) (h : (0 ≤ d ∧ 0 ≤ e) ∨ (d ≤ 0 ∧ e ≤ 0)) (hC : 1 ≤ C) {k : Nat} (hk : k < R * C) : upF R C (upF R C F d x) e x k = upF R C F (d + e) x k := by
  have hj2 := rowOf_lt hk
  have hj3 := colOf_lt (k := k) hC
  have e3 : rowOf C k * C + colOf C k = k := row_col_eq
  rw [← e3, upF_at _ _ _ hj2 hj3, upF_at _ _ _ hj2 hj3]
  by_cases c1 : 0 ≤ (rowOf C k : Int) + e ∧ (rowOf C k : Int) + e < R
  · rw [if_pos c1, upF_at _ _ _ (by omega) hj3]
    have e4 : ((((rowOf C k : Int) + e).toNat : Nat) : Int) + d = (rowOf C k : Int) + (d + e) := by omega
    rw [e4]
  · rw [if_neg c1, if_neg (by omega)]

theorem feed_up {R C : Nat} (F : Nat → Cel) (r k : Int) (hk : 0 ≤ k) (hr : 0 ≤ r ∧ r < R) (hC : 1 ≤ C) :
    (feedR R r k = (R : Int) - 1 → feedR R r (k + 1) = feedR R r k ∧ ∀ j, j < R * C → upF R C (upF R C F (feedD R r k) blk) 1 blk j = upF R C F (feedD R r (k + 1)) blk j) ∧
    (¬ feedR R r k = (R : Int) - 1 → feedR R r (k + 1) = feedR R r k + 1 ∧ feedD R r (k + 1) = feedD R r k) := by
  constructor
  · intro h
    have e1 : feedR R r (k + 1) = feedR R r k := by unfold feedR nr at *; omega
    have e2 : feedD R r (k + 1) = feedD R r k + 1 := by unfold feedD; unfold feedR at e1; omega
    refine ⟨e1, fun j hj => ?_⟩
    rw [e2]
    exact upF_upF F _ 1 blk (Or.inl ⟨by unfold feedD; unfold feedR nr at h; unfold nr; omega, by omega⟩) hC hj
  · intro h
    have e1 : feedR R r (k + 1) = feedR R r k + 1 := by unfold feedR nr at *; omega
    exact ⟨e1, by unfold feedD; unfold feedR at e1; omega⟩
theorem feed_down {R C : Nat} (F : Nat → Cel) (r k : Int) (hk : k ≤ 0) (hr : 0 ≤ r ∧ r < R) (hC : 1 ≤ C) :
    (feedR R r k = 0 → feedR R r (k - 1) = 0 ∧ ∀ j, j < R * C → upF R C (upF R C F (feedD R r k) blk) (-1) blk j = upF R C F (feedD R r (k - 1)) blk j) ∧
    (¬ feedR R r k = 0 → feedR R r (k - 1) = feedR R r k - 1 ∧ feedD R r (k - 1) = feedD R r k) := by
  constructor
  · intro h
    have e1 : feedR R r (k - 1) = 0 := by unfold feedR nr at *; omega
    have e2 : feedD R r (k - 1) = feedD R r k + -1 := by unfold feedD; unfold feedR at e1 h; omega
    refine ⟨e1, fun j hj => ?_⟩
    rw [e2]
    exact upF_upF F _ (-1) blk (Or.inr ⟨by unfold feedD; unfold feedR nr at h; unfold nr; omega, by omega⟩) hC hj
  · intro h
    have e1 : feedR R r (k - 1) = feedR R r k - 1 := by unfold feedR nr at *; omega
    exact ⟨e1, by unfold feedD; unfold feedR at e1; omega⟩
theorem upF_all {R C : Nat} (F : Nat → Cel) (d : Int) (x : Cel) (h : (R : Int) ≤ d ∨ d ≤ -(R : Int)) (hC : 1 ≤ C) {k : Nat} (hk : k < R * C) : upF R C F d x k = x := by
  have hj2 := rowOf_lt hk
  have hj3 := colOf_lt (k := k) hC
  have e3 : rowOf C k * C + colOf C k = k := row_col_eq
  rw [← e3, upF_at _ _ _ hj2 hj3, if_neg (by omega)]
/-- Six hundred lines are as many as all. -/
theorem feed_far {R C : Nat} (F : Nat → Cel) (r k n : Int) (hr : 0 ≤ r ∧ r < R) (hR : R ≤ 255) (hC : 1 ≤ C) (h : k = n ∨ (k = 600 ∧ 600 ≤ n) ∨ (k = -600 ∧ n ≤ -600)) :
    feedR R r k = feedR R r n ∧ ∀ j, j < R * C → upF R C F (feedD R r k) blk j = upF R C F (feedD R r n) blk j := by
  rcases h with rfl | ⟨rfl, h⟩ | ⟨rfl, h⟩
  · exact ⟨rfl, fun _ _ => rfl⟩
  · refine ⟨by unfold feedR nr; omega, fun j hj => ?_⟩
    rw [upF_all _ _ _ (Or.inl (by unfold feedD nr; omega)) hC hj, upF_all _ _ _ (Or.inl (by unfold feedD nr; omega)) hC hj]
  · refine ⟨by unfold feedR nr; omega, fun j hj => ?_⟩
    rw [upF_all _ _ _ (Or.inr (by unfold feedD nr; omega)) hC hj, upF_all _ _ _ (Or.inr (by unfold feedD nr; omega)) hC hj]

/-- A screen on the way of a Feed. -/
structure Fed (w wr : World) (s g t cap tb m R C : Nat) (F : Nat → Cel) (S : Nat → Bool) (r c : Int) (b : Bool) (k : Int) : Prop where
  scr : RIn wr s g t cap tb m R C (upF R C F (feedD R r k) blk) S (feedR R r k) c b
  kept : Kept (fun i => i = s ∨ i = t) w wr

set_option maxRecDepth 100000 in
set_option maxHeartbeats 4000000 in
theorem rfeed_any {s g t cap tb m R C : Nat} {F : Nat → Cel} {S : Nat → Bool} {r c : Int} {b : Bool} (n : Int) (w : World) (h : RIn w s g t cap tb m R C F S r c b) :
    Calls Tryz.prog 46 #[ptr s, .int .i64 n] w fun e w' => e = .returned (.tuple #[]) ∧ RIn w' s g t cap tb m R C (upF R C F (feedD R r n) blk) S (feedR R r n) c false ∧ Kept (fun i => i = s ∨ i = t) w w' := by
  have HR1 := Lib.hid h.grid.R1
  have hR2 := h.grid.R2
  have HR2 := Lib.hid hR2
  have HC1 := Lib.hid h.grid.C1
  have hth := h.there
  have HTH := Lib.hid hth
  have hwR : IntKind.i64.wrap ((R : Int) - 1) = (R : Int) - 1 := IntWalk.i64_in _ ⟨by omega, by omega⟩
  have HF : Hid (Fed w w s g t cap tb m R C F S r c b 0) := by
    refine ⟨?_, Kept.refl _ _⟩
    have e1 : feedR R r 0 = r := by unfold feedR; rw [Int.add_zero]; exact nr_in _ _ hth.1 hth.2.1
    have e2 : feedD R r 0 = 0 := by unfold feedD; unfold feedR at e1; omega
    rw [e1, e2, upF_zero]
    exact h
  clear h hth
  go_enter Tryz.func46, Tryz.ntmps46
  go_wp2_with fail
  go_loopw [4] (fun s4 wr => ∃ k : Int, 0 ≤ k ∧ k ≤ 600 ∧ (k = 0 ∨ k ≤ n) ∧ s4 = .int .i64 k ∧ Hid (Fed w wr s g t cap tb m R C F S r c b k)) (fun s4 _ => (600 - intOf s4).toNat)
  case atStart => exact ⟨0, by omega, by omega, Or.inl rfl, rfl, HF⟩
  case round =>
    clear HF
    obtain ⟨k, hk0, hk6, hkn, rfl, HF⟩ := hrel
    have c0 := HF.out.scr.c0
    have c1 := HF.out.scr.c1
    have d0 := HF.out.scr.grid.c0
    have y1 := HF.out.scr.fz 1
    obtain ⟨hup, hno⟩ := feed_up (C := C) F r k hk0 ⟨HTH.out.1, HTH.out.2.1⟩ HC1.out
    have HUP := Lib.hid hup
    have HNO := Lib.hid hno
    have hin : 0 ≤ feedR R r k ∧ feedR R r k < R := ⟨HF.out.scr.there.1, HF.out.scr.there.2.1⟩
    have hwx : IntKind.i64.wrap (feedR R r k + 1) = feedR R r k + 1 := IntWalk.i64_in _ ⟨by omega, by omega⟩
    have hwk : IntKind.i64.wrap (k + 1) = k + 1 := IntWalk.i64_in _ ⟨by omega, by omega⟩
    clear hup hno
    by_cases hcon : k < n ∧ k < 600
    · obtain ⟨hlt, hl6⟩ := hcon
      · obtain ⟨x, hx⟩ : ∃ x, x = feedR R r k := ⟨_, rfl⟩
        rw [← hx] at c1 hin hwx
        have HX := Lib.hid hx
        clear hx
        go_wp2_with fail
        go_region_held3 (fun w' => w'.cell? ⟨s, 0, none⟩ = some (ptr g) ∧ w'.cell? ⟨s, 1, none⟩ = some (.int .i64 x) ∧ w'.cell? ⟨g, 0, none⟩ = some (.int .i64 R)) (go_keep) (first | fail)
        by_cases hxr : x = (R : Int) - 1
        · have hxb : (x == (R : Int) - 1) = true := by simpa using hxr
          have hxd : decide (x = (R : Int) - 1) = true := by simpa using hxr
          have HXR := Lib.hid hxr
          clear hxr
          go_wp2_with fail
          go_region_with
            (first
              | (go_at_call 88; refine (upR g t cap R C _ 1 blk _ (HF.out.scr.grid.kept kn.out (fun e => e) (fun e => e)) ⟨by omega, by omega⟩).mono ?_; rintro e w4 ⟨rfl, hg4, hk4⟩; have HG := Lib.hid hg4; have HK4 := Lib.hid hk4; clear hg4 hk4)
              | (go_at_call 30; refine (blankR _).mono ?_; rintro e w3 ⟨rfl, hk3⟩; have kn : Hid (Kept0 wr w3) := (Kept.refl _ wr).drew.drew.trans hk3; have z0 := kcell kn.out c0))
          all_goals
            have HF2 : Hid (Fed w w4 s g t cap tb m R C F S r c b (k + 1)) := by
              have h1 := (HF.out.scr.kept0 kn.out).onGrid HK4.out HG.out
              have hm := HUP.out (by rw [← HX.out]; exact HXR.out)
              refine ⟨?_, (HF.out.kept.trans kn.out.to).trans (HK4.out.mono (fun i _ e => Or.inr e))⟩
              rw [hm.1]
              exact h1.congrF hm.2
            clear HF HG HK4
            go_wp2_with fail
            go_roundw
            case rel => exact ⟨k + 1, by omega, by omega, Or.inr (by omega), by simp, HF2⟩
            case measure => simp [intOf]; omega
        · have hxb : (x == (R : Int) - 1) = false := by simpa using hxr
          have hxd : decide (x = (R : Int) - 1) = false := by simpa using hxr
          have HXR := Lib.hid hxr
          clear hxr
          have HF2 : Hid (Fed w (wr.drew.setCell ⟨s, 1, none⟩ (.int .i64 (x + 1))) s g t cap tb m R C F S r c b (k + 1)) := by
            have hm := HNO.out (by rw [← HX.out]; exact HXR.out)
            refine ⟨?_, (HF.out.kept.drew).setCell _ (Or.inr (Or.inl rfl)) _⟩
            rw [hm.2, hm.1, ← HX.out]
            have ht := HF.out.scr.there
            refine (HF.out.scr.kept0 (Kept.refl _ _).drew).onRow ⟨by omega, ?_, ht.2.2.1, ht.2.2.2⟩
            have := HXR.out
            omega
          clear HF
          go_wp2_with fail
          try rw [hwx]
          go_roundw
          case rel => exact ⟨k + 1, by omega, by omega, Or.inr (by omega), by simp, HF2⟩
          case measure => simp [intOf]; omega
    · have HK : Hid ((k = n ∧ 0 ≤ n) ∨ (k = 0 ∧ n < 0) ∨ (k = 600 ∧ 600 ≤ n)) := by show _ ∨ _; omega
      clear HUP HNO hin hwx hwk c0 c1 d0 y1 hkn
      by_cases hlt : k < n
      · have hl6 : ¬ k < 600 := fun e => hcon ⟨hlt, e⟩
        clear hcon
        go_wp2_with fail
        go_loopw [5] (fun s5 wr => ∃ j : Int, j ≤ 0 ∧ -600 ≤ j ∧ (j = 0 ∨ n ≤ j) ∧ s5 = .int .i64 j ∧ Hid (Fed w wr s g t cap tb m R C F S r c b (k + j))) (fun s5 _ => (600 + intOf s5).toNat)
        case atStart => exact ⟨0, by omega, by omega, Or.inl rfl, rfl, by rw [Int.add_zero]; exact HF⟩
        case round =>
          clear HF hlt
          try clear hl6
          obtain ⟨j, hj0, hj6, hjn, rfl, HF⟩ := hrel
          have hwj : IntKind.i64.wrap (j - 1) = j - 1 := IntWalk.i64_in _ ⟨by omega, by omega⟩
          by_cases hcon : n < j ∧ -600 < j
          · obtain ⟨hlt, hl6⟩ := hcon
            have hkz : k = 0 := by have := HK.out; omega
            have HF1 : Hid (Fed w wr s g t cap tb m R C F S r c b j) := by have := HF.out; rw [hkz, Int.zero_add] at this; exact this
            clear HF
            have HKZ := Lib.hid hkz
            clear hkz
            have c0 := HF1.out.scr.c0
            have c1 := HF1.out.scr.c1
            have y1 := HF1.out.scr.fz 1
            obtain ⟨hup, hno⟩ := feed_down (C := C) F r j hj0 ⟨HTH.out.1, HTH.out.2.1⟩ HC1.out
            have HUP := Lib.hid hup
            have HNO := Lib.hid hno
            have hin : 0 ≤ feedR R r j ∧ feedR R r j < R := ⟨HF1.out.scr.there.1, HF1.out.scr.there.2.1⟩
            have hwx : IntKind.i64.wrap (feedR R r j - 1) = feedR R r j - 1 := IntWalk.i64_in _ ⟨by omega, by omega⟩
            clear hup hno
            obtain ⟨x, hx⟩ : ∃ x, x = feedR R r j := ⟨_, rfl⟩
            rw [← hx] at c1 hin hwx
            have HX := Lib.hid hx
            clear hx
            by_cases hxr : x = 0
            · subst hxr
              go_wp2_with fail
              go_region_with
                (first
                  | (go_at_call 88; refine (upR g t cap R C _ (-1) blk _ (HF1.out.scr.grid.kept kn.out (fun e => e) (fun e => e)) ⟨by omega, by omega⟩).mono ?_; rintro e w4 ⟨rfl, hg4, hk4⟩; have HG := Lib.hid hg4; have HK4 := Lib.hid hk4; clear hg4 hk4)
                  | (go_at_call 30; refine (blankR _).mono ?_; rintro e w3 ⟨rfl, hk3⟩; have kn : Hid (Kept0 wr w3) := (Kept.refl _ wr).drew.trans hk3; have z0 := kcell kn.out c0))
              all_goals
                have HF2 : Hid (Fed w w4 s g t cap tb m R C F S r c b (k + (j - 1))) := by
                  have h1 := (HF1.out.scr.kept0 kn.out).onGrid HK4.out HG.out
                  have hm := HUP.out HX.out.symm
                  refine ⟨?_, (HF1.out.kept.trans kn.out.to).trans (HK4.out.mono (fun i _ e => Or.inr e))⟩
                  rw [HKZ.out, Int.zero_add, hm.1]
                  have h2 := h1.congrF hm.2
                  rw [← HX.out] at h2
                  exact h2
                clear HF1 HG HK4
                go_wp2_with fail
                go_roundw
                case rel => exact ⟨j - 1, by omega, by omega, Or.inr (by omega), by simp, HF2⟩
                case measure => simp [intOf]; omega
            · have hxb : (x == 0) = false := by simpa using hxr
              have hxd : decide (x = 0) = false := by simpa using hxr
              have HXR := Lib.hid hxr
              clear hxr
              have HF2 : Hid (Fed w (wr.setCell ⟨s, 1, none⟩ (.int .i64 (x - 1))) s g t cap tb m R C F S r c b (k + (j - 1))) := by
                have hm := HNO.out (by rw [← HX.out]; exact HXR.out)
                refine ⟨?_, (HF1.out.kept).setCell _ (Or.inr (Or.inl rfl)) _⟩
                rw [HKZ.out, Int.zero_add, hm.2, hm.1, ← HX.out]
                have ht := HF1.out.scr.there
                have := HXR.out
                exact HF1.out.scr.onRow ⟨by omega, by omega, ht.2.2.1, ht.2.2.2⟩
              clear HF1
              go_wp2_with fail
              try rw [hwx]
              go_roundw
              case rel => exact ⟨j - 1, by omega, by omega, Or.inr (by omega), by simp, HF2⟩
              case measure => simp [intOf]; omega
          · have HJ : Hid (k + j = n ∨ (k + j = 600 ∧ 600 ≤ n) ∨ (k + j = -600 ∧ n ≤ -600)) := by have := HK.out; show _ ∨ _; omega
            have y3 := HF.out.scr.fz 3
            have c3 := HF.out.scr.c3
            by_cases hlt : n < j
            · have hl6 : ¬ -600 < j := fun e => hcon ⟨hlt, e⟩
              clear hcon
              go_wp2_with fail
              go_end0
              obtain ⟨f1, f2⟩ := feed_far (C := C) F r (k + j) n ⟨HTH.out.1, HTH.out.2.1⟩ HR2.out HC1.out HJ.out
              refine ⟨rfl, ?_, HF.out.kept.setCell _ (Or.inr (Or.inl rfl)) _⟩
              have h1 := HF.out.scr.onMark false
              rw [f1] at h1
              exact h1.congrF f2
            · clear hcon
              go_wp2_with fail
              go_end0
              obtain ⟨f1, f2⟩ := feed_far (C := C) F r (k + j) n ⟨HTH.out.1, HTH.out.2.1⟩ HR2.out HC1.out HJ.out
              refine ⟨rfl, ?_, HF.out.kept.setCell _ (Or.inr (Or.inl rfl)) _⟩
              have h1 := HF.out.scr.onMark false
              rw [f1] at h1
              exact h1.congrF f2
      · clear hcon
        go_wp2_with fail
        go_loopw [5] (fun s5 wr => ∃ j : Int, j ≤ 0 ∧ -600 ≤ j ∧ (j = 0 ∨ n ≤ j) ∧ s5 = .int .i64 j ∧ Hid (Fed w wr s g t cap tb m R C F S r c b (k + j))) (fun s5 _ => (600 + intOf s5).toNat)
        case atStart => exact ⟨0, by omega, by omega, Or.inl rfl, rfl, by rw [Int.add_zero]; exact HF⟩
        case round =>
          clear HF hlt
          try clear hl6
          obtain ⟨j, hj0, hj6, hjn, rfl, HF⟩ := hrel
          have hwj : IntKind.i64.wrap (j - 1) = j - 1 := IntWalk.i64_in _ ⟨by omega, by omega⟩
          by_cases hcon : n < j ∧ -600 < j
          · obtain ⟨hlt, hl6⟩ := hcon
            have hkz : k = 0 := by have := HK.out; omega
            have HF1 : Hid (Fed w wr s g t cap tb m R C F S r c b j) := by have := HF.out; rw [hkz, Int.zero_add] at this; exact this
            clear HF
            have HKZ := Lib.hid hkz
            clear hkz
            have c0 := HF1.out.scr.c0
            have c1 := HF1.out.scr.c1
            have y1 := HF1.out.scr.fz 1
            obtain ⟨hup, hno⟩ := feed_down (C := C) F r j hj0 ⟨HTH.out.1, HTH.out.2.1⟩ HC1.out
            have HUP := Lib.hid hup
            have HNO := Lib.hid hno
            have hin : 0 ≤ feedR R r j ∧ feedR R r j < R := ⟨HF1.out.scr.there.1, HF1.out.scr.there.2.1⟩
            have hwx : IntKind.i64.wrap (feedR R r j - 1) = feedR R r j - 1 := IntWalk.i64_in _ ⟨by omega, by omega⟩
            clear hup hno
            obtain ⟨x, hx⟩ : ∃ x, x = feedR R r j := ⟨_, rfl⟩
            rw [← hx] at c1 hin hwx
            have HX := Lib.hid hx
            clear hx
            by_cases hxr : x = 0
            · subst hxr
              go_wp2_with fail
              go_region_with
                (first
                  | (go_at_call 88; refine (upR g t cap R C _ (-1) blk _ (HF1.out.scr.grid.kept kn.out (fun e => e) (fun e => e)) ⟨by omega, by omega⟩).mono ?_; rintro e w4 ⟨rfl, hg4, hk4⟩; have HG := Lib.hid hg4; have HK4 := Lib.hid hk4; clear hg4 hk4)
                  | (go_at_call 30; refine (blankR _).mono ?_; rintro e w3 ⟨rfl, hk3⟩; have kn : Hid (Kept0 wr w3) := (Kept.refl _ wr).drew.trans hk3; have z0 := kcell kn.out c0))
              all_goals
                have HF2 : Hid (Fed w w4 s g t cap tb m R C F S r c b (k + (j - 1))) := by
                  have h1 := (HF1.out.scr.kept0 kn.out).onGrid HK4.out HG.out
                  have hm := HUP.out HX.out.symm
                  refine ⟨?_, (HF1.out.kept.trans kn.out.to).trans (HK4.out.mono (fun i _ e => Or.inr e))⟩
                  rw [HKZ.out, Int.zero_add, hm.1]
                  have h2 := h1.congrF hm.2
                  rw [← HX.out] at h2
                  exact h2
                clear HF1 HG HK4
                go_wp2_with fail
                go_roundw
                case rel => exact ⟨j - 1, by omega, by omega, Or.inr (by omega), by simp, HF2⟩
                case measure => simp [intOf]; omega
            · have hxb : (x == 0) = false := by simpa using hxr
              have hxd : decide (x = 0) = false := by simpa using hxr
              have HXR := Lib.hid hxr
              clear hxr
              have HF2 : Hid (Fed w (wr.setCell ⟨s, 1, none⟩ (.int .i64 (x - 1))) s g t cap tb m R C F S r c b (k + (j - 1))) := by
                have hm := HNO.out (by rw [← HX.out]; exact HXR.out)
                refine ⟨?_, (HF1.out.kept).setCell _ (Or.inr (Or.inl rfl)) _⟩
                rw [HKZ.out, Int.zero_add, hm.2, hm.1, ← HX.out]
                have ht := HF1.out.scr.there
                have := HXR.out
                exact HF1.out.scr.onRow ⟨by omega, by omega, ht.2.2.1, ht.2.2.2⟩
              clear HF1
              go_wp2_with fail
              try rw [hwx]
              go_roundw
              case rel => exact ⟨j - 1, by omega, by omega, Or.inr (by omega), by simp, HF2⟩
              case measure => simp [intOf]; omega
          · have HJ : Hid (k + j = n ∨ (k + j = 600 ∧ 600 ≤ n) ∨ (k + j = -600 ∧ n ≤ -600)) := by have := HK.out; show _ ∨ _; omega
            have y3 := HF.out.scr.fz 3
            have c3 := HF.out.scr.c3
            by_cases hlt : n < j
            · have hl6 : ¬ -600 < j := fun e => hcon ⟨hlt, e⟩
              clear hcon
              go_wp2_with fail
              go_end0
              obtain ⟨f1, f2⟩ := feed_far (C := C) F r (k + j) n ⟨HTH.out.1, HTH.out.2.1⟩ HR2.out HC1.out HJ.out
              refine ⟨rfl, ?_, HF.out.kept.setCell _ (Or.inr (Or.inl rfl)) _⟩
              have h1 := HF.out.scr.onMark false
              rw [f1] at h1
              exact h1.congrF f2
            · clear hcon
              go_wp2_with fail
              go_end0
              obtain ⟨f1, f2⟩ := feed_far (C := C) F r (k + j) n ⟨HTH.out.1, HTH.out.2.1⟩ HR2.out HC1.out HJ.out
              refine ⟨rfl, ?_, HF.out.kept.setCell _ (Or.inr (Or.inl rfl)) _⟩
              have h1 := HF.out.scr.onMark false
              rw [f1] at h1
              exact h1.congrF f2

end Go.Proofs.YtkpfhgfdfndliaaGreatDoor
