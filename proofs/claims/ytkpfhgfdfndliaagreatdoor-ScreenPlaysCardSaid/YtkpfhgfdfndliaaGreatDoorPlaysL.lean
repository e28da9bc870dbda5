/-
  ScreenPlays: what each call answers, and what is where, is as the document's own screen says.
-/
import Derived.Test.YtkpfhgfdfndliaaGreatDoorRDoC
import Derived.Test.YtkpfhgfdfndliaaGreatDoorSameC
import Derived.Test.YtkpfhgfdfndliaaGreatDoorRScN
import Derived.Test.YtkpfhgfdfndliaaGreatDoorFewZ
import Derived.Test.YtkpfhgfdfndliaaGreatDoorAw
namespace Go.Proofs.YtkpfhgfdfndliaaGreatDoor
open Go.RowKit

theorem eqv_cel (x : Cel) (w : World) : (Op.equalIn 10000 36 x.v x.v).run Tryz.prog w = .ok true w := by
  rw [run_equalIn_agg w 9999 36 _ _ (by kernel_rfl) (by kernel_rfl)]
  simp [go_sem]
/-- The program's screen and the document's, apart, in blocks that are new. -/
def Pr (w wr : World) (s : Nat) (z : St) (q : Nat) (y : St) : Prop :=
  ∃ B1 B2, Scr wr B1 s z ∧ RScr wr B2 q y ∧ (∀ i, B1 i → w.heap.size ≤ i ∧ ¬ B2 i) ∧ (∀ i, B2 i → w.heap.size ≤ i) ∧ Kept0 w wr

theorem Pr.old {w wr : World} {s q : Nat} {z y : St} (h : Pr w wr s z q y) : Kept0 w wr := by
  obtain ⟨_, _, _, _, _, _, k⟩ := h
  exact k
theorem Pr.kept0 {w wr w' : World} {s q : Nat} {z y : St} (h : Pr w wr s z q y) (k : Kept0 wr w') : Pr w w' s z q y := by
  obtain ⟨B1, B2, h1, h2, a, b, k0⟩ := h
  exact ⟨B1, B2, h1.kept0 k, h2.kept0 k, a, b, k0.trans k⟩
theorem Pr.does {w wr : World} {s q : Nat} {z y : St} (o : Op) (h : Pr w wr s z q y) (h0 : 0 < w.heap.size) (hb : Blank w) (ho : OpOk o) :
    Calls Tryz.prog 14 #[ptr s, o.v] wr fun e w' => e = .returned (.tuple #[(doX o z).v, .int .i64 (doE o z)]) ∧ Pr w w' s (doF o z) q y := by
  obtain ⟨B1, B2, h1, h2, a, b, k0⟩ := h
  refine (does_any o wr h1 (hb.kept0 k0) (fun e => by have := (a 0 e).1; omega) ho).mono ?_
  rintro e w' ⟨rfl, B', g1, g2, k⟩
  have hz := k0.size
  refine ⟨rfl, B', B2, g1, h2.kept k (fun i hi e => (a i e).2 hi), fun i hi => ?_, b, k0.later k (fun i hi e => by have := (a i e).1; omega)⟩
  rcases g2 i hi with h | h
  · exact a i h
  · refine ⟨by omega, fun e => ?_⟩
    have := h2.lt i e
    omega
theorem Pr.asked {w w5 wr : World} {s q : Nat} {z y : St} (o : Op) (h : Pr w w5 s z q y) (k5 : Kept0 w5 wr) (ho : OpOk o) :
    Calls Tryz.prog 15 #[ptr q, o.v] wr fun e w' => ∃ q', e = .returned (.tuple #[ptr q', (doX o y).v, .int .i64 (doE o y)]) ∧ Pr w w' s z q' (doF o y) ∧ Kept (fun i => i < w5.heap.size) wr w' := by
  obtain ⟨B1, B2, h1, h2, a, b, k0⟩ := h
  have l2 := h2.lt
  replace h1 := h1.kept0 k5
  replace h2 := h2.kept0 k5
  replace k0 := k0.trans k5
  refine (asked_any o wr h2 ho).mono ?_
  rintro e w' ⟨q', rfl, B', g1, g2, k⟩
  have hz := k0.size
  refine ⟨q', rfl, ⟨B1, B', h1.kept k (fun i hi e => (a i hi).2 e), g1, fun i hi => ⟨(a i hi).1, fun e => ?_⟩, fun i hi => ?_, k0.later k (fun i hi e => by have := b i e; omega)⟩, k.mono (fun i _ e => l2 i e)⟩
  · rcases g2 i e with h | h
    · exact (a i hi).2 h
    · have := h1.lt i hi
      omega
  · rcases g2 i hi with h | h
    · exact b i h
    · omega
theorem Pr.same {w wr : World} {s q : Nat} {z : St} (h : Pr w wr s z q z) :
    Calls Tryz.prog 13 #[ptr s, ptr q] wr fun e w' => e = .returned (.bool true) ∧ Kept0 wr w' := by
  obtain ⟨B1, B2, h1, h2, _⟩ := h
  obtain ⟨g, t, cap, tb, m, hr, _⟩ := h2
  exact same_any wr h1 hr

/-- Where the size is too great. -/
theorem plays_big (x y : Int) (a : Option Addr) (cap : Nat) (l : List Op) (w : World) (hb : Blank w) (hm : mayB x y = true) (h : 8 < x ∨ 20 < y) :
    Calls Tryz.prog 3 #[pos x y, .slice a l.length cap] w fun e w' => e = .returned (.bool true) ∧ Kept0 w w' := by
  obtain ⟨V, hV⟩ : ∃ V, V = w.alloc (.cells #[.int .i64 x, .int .i64 y] 23) := ⟨_, rfl⟩
  have kV : Kept0 w V := by rw [hV]; exact (Kept.refl _ _).alloc _
  have HB := Lib.hid (hb.kept0 kV)
  have m0 : V.cell? ⟨w.heap.size, 0, none⟩ = some (.int .i64 x) := by rw [hV]; simp [go_sem]
  have m1 : V.cell? ⟨w.heap.size, 1, none⟩ = some (.int .i64 y) := by rw [hV]; simp [go_sem]
  have HM := Lib.hid (mayQ x y true hm V)
  obtain ⟨M, hM⟩ : ∃ M, M = l.length := ⟨_, rfl⟩
  rw [← hM]
  clear hb hm hM
  by_cases h1 : 8 < x
  · have d1 : decide (8 < x) = true := by simpa using h1
    clear h h1
    go_enter Tryz.func3, Tryz.ntmps3
    go_wp2_with fail
    rw [← hV]
    clear hV
    refine HM.out.mono ?_
    rintro e V ⟨rfl, rfl⟩
    go_wp2_with fail
    refine (awake_any _ HB.out).mono ?_
    rintro e w2 ⟨rfl, k2⟩
    go_wp2_with fail
    go_ret
    exact ⟨rfl, kV.trans k2⟩
  · have d1 : decide (8 < x) = false := by simpa using h1
    have d2 : decide (20 < y) = true := by simp; omega
    clear h h1
    go_enter Tryz.func3, Tryz.ntmps3
    go_wp2_with fail
    rw [← hV]
    clear hV
    refine HM.out.mono ?_
    rintro e V ⟨rfl, rfl⟩
    go_wp2_with fail
    refine (awake_any _ HB.out).mono ?_
    rintro e w2 ⟨rfl, k2⟩
    go_wp2_with fail
    go_ret
    exact ⟨rfl, kV.trans k2⟩

/-- Where no screen is of the size. -/
theorem plays_no (x y : Int) (a : Option Addr) (cap : Nat) (l : List Op) (w : World) (hb : Blank w) (hm : mayB x y = false) (hl : OpsIn w a l) (nl : l.length ≤ 9223372036854775807) :
    Calls Tryz.prog 3 #[pos x y, .slice a l.length cap] w fun e w' => e = .returned (.bool true) ∧ Kept0 w w' := by
  obtain ⟨V, hV⟩ : ∃ V, V = w.alloc (.cells #[.int .i64 x, .int .i64 y] 23) := ⟨_, rfl⟩
  have kV : Kept0 w V := by rw [hV]; exact (Kept.refl _ _).alloc _
  have HB := Lib.hid (hb.kept0 kV)
  have m0 : V.cell? ⟨w.heap.size, 0, none⟩ = some (.int .i64 x) := by rw [hV]; simp [go_sem]
  have m1 : V.cell? ⟨w.heap.size, 1, none⟩ = some (.int .i64 y) := by rw [hV]; simp [go_sem]
  have HM := Lib.hid (mayQ x y false hm V)
  have HF1 := Lib.hid (few_any a cap l V (hl.kept0 kV) nl)
  have HN : Hid (∀ w', Kept0 V w' → _) := fun w' k => snew_no x y w' (HB.out.kept0 k) (of_decide_eq_false hm)
  obtain ⟨M, hM⟩ : ∃ M, M = l.length := ⟨_, rfl⟩
  rw [← hM] at HF1 nl ⊢
  clear hb hm hM hl
  go_enter Tryz.func3, Tryz.ntmps3
  go_wp2_with fail
  rw [← hV]
  clear hV
  refine HM.out.mono ?_
  rintro e V ⟨rfl, rfl⟩
  clear HM
  go_wp2_with fail
  refine HF1.out.mono ?_
  rintro e w1 ⟨⟨t1, rfl⟩, k1⟩
  clear HF1
  cases t1
  · go_wp2_with fail
    refine (awake_any _ (HB.out.kept0 k1)).mono ?_
    rintro e w2 ⟨rfl, k2⟩
    go_wp2_with fail
    go_ret
    exact ⟨rfl, kV.trans (k1.trans k2)⟩
  have n0 := kcell k1 m0
  have n1 := kcell k1 m1
  go_wp2_with fail
  refine (HN.out w1 k1).mono ?_
  rintro e w2 ⟨rfl, k2⟩
  replace k2 := k1.trans k2
  clear k1 n0 n1 HN
  go_wp2_with fail
  refine (awake_any _ (HB.out.kept0 k2)).mono ?_
  rintro e w3 ⟨rfl, k3⟩
  go_wp2_with fail
  go_ret
  exact ⟨rfl, kV.trans (k2.trans k3)⟩

set_option maxRecDepth 100000 in
set_option maxHeartbeats 8000000 in
theorem plays_in (R C : Nat) (a : Option Addr) (cap : Nat) (l : List Op) (w : World) (hb : Blank w) (hRC : 1 ≤ R ∧ R ≤ 8 ∧ 1 ≤ C ∧ C ≤ 20) (hl : OpsIn w a l) (nl : l.length ≤ 9223372036854775807) :
    Calls Tryz.prog 3 #[pos (R : Int) (C : Int), .slice a l.length cap] w fun e w' => e = .returned (.bool true) ∧ Kept0 w w' := by
  obtain ⟨V, hV⟩ : ∃ V, V = w.alloc (.cells #[.int .i64 (R : Int), .int .i64 (C : Int)] 23) := ⟨_, rfl⟩
  have kV : Kept0 w V := by rw [hV]; exact (Kept.refl _ _).alloc _
  have HB := Lib.hid (hb.kept0 kV)
  have h0 : 0 < V.heap.size := Nat.lt_of_lt_of_le hb.lt kV.size
  have m0 : V.cell? ⟨w.heap.size, 0, none⟩ = some (.int .i64 (R : Int)) := by rw [hV]; simp [go_sem]
  have m1 : V.cell? ⟨w.heap.size, 1, none⟩ = some (.int .i64 (C : Int)) := by rw [hV]; simp [go_sem]
  have hm : mayB (R : Int) (C : Int) = true := decide_eq_true (by omega)
  have HM := Lib.hid (mayQ R C true hm V)
  have HO := Lib.hid (hl.kept0 kV)
  have HL : Hid (∀ i, i < l.length → ∃ o, l[i]? = some o) := fun i hi => ⟨_, List.getElem?_eq_getElem hi⟩
  have HF1 := Lib.hid (few_any a cap l V (hl.kept0 kV) nl)
  have HN : Hid (∀ w', Kept0 V w' → _) := fun w' k => new_scr R C w' (HB.out.kept0 k) (by omega)
  have HQ : Hid (∀ w', Calls Tryz.prog 12 #[pos R C] w' fun e w'' => ∃ s g t cap tb m, e = .returned (ptr s) ∧ (∀ i, Own s g t tb m i → w'.heap.size ≤ i) ∧ RIn w'' s g t cap tb m R C (fun _ => blk) (fun _ => false) 0 0 false ∧ Kept0 w' w'') := fun w' => rnew_any R C w' (by omega)
  have d1 : decide (8 < (R : Int)) = false := by simp; omega
  have d2 : decide (20 < (C : Int)) = false := by simp; omega
  obtain ⟨M, hM⟩ : ∃ M, M = l.length := ⟨_, rfl⟩
  rw [← hM] at HF1 HL nl ⊢
  clear hb hm hM hl hRC
  go_enter Tryz.func3, Tryz.ntmps3
  go_wp2_with fail
  rw [← hV]
  clear hV
  refine HM.out.mono ?_
  rintro e V ⟨rfl, rfl⟩
  clear HM
  go_wp2_with fail
  refine HF1.out.mono ?_
  rintro e w1 ⟨⟨t1, rfl⟩, k1⟩
  clear HF1
  cases t1
  · go_wp2_with fail
    refine (awake_any _ (HB.out.kept0 k1)).mono ?_
    rintro e w2 ⟨rfl, k2⟩
    go_wp2_with fail
    go_ret
    exact ⟨rfl, kV.trans (k1.trans k2)⟩
  have M0 := Lib.hid m0
  have M1 := Lib.hid m1
  replace m0 := kcell k1 m0
  replace m1 := kcell k1 m1
  clear d1 d2
  go_wp2_with fail
  refine (HN.out w1 k1).mono ?_
  rintro e w2 ⟨s, B1, rfl, hs, hB1, k2⟩
  have K2 := Lib.hid (k1.trans k2)
  have HS := Lib.hid hs
  have HB1 : Hid (∀ i, B1 i → V.heap.size ≤ i) := fun i hi => Nat.le_trans k1.size (hB1 i hi)
  clear HN k1 k2 hs hB1 m0 m1
  have m0 := kcell K2.out M0.out
  have m1 := kcell K2.out M1.out
  go_wp2_with fail
  refine (HQ.out w2).mono ?_
  rintro e w3 ⟨q, g, t, cap', tb, m, rfl, hn, hr, k3⟩
  have HP : Hid (Pr V w3 s ⟨R, C, fun _ => blk, fun _ => false, 0, 0, false⟩ q ⟨R, C, fun _ => blk, fun _ => false, 0, 0, false⟩) :=
    ⟨B1, _, HS.out.kept0 k3, ⟨g, t, cap', tb, m, hr, rfl⟩, fun i hi => ⟨HB1.out i hi, fun e => by have := hn i e; have := HS.out.lt i hi; omega⟩, fun i hi => Nat.le_trans K2.out.size (hn i hi), K2.out.trans k3⟩
  clear HQ hr k3 hn HS HB1 K2 m0 m1 M0 M1
  go_wp2_with fail
  refine HP.out.same.mono ?_
  rintro e w4 ⟨rfl, k4⟩
  have HP4 := Lib.hid (HP.out.kept0 k4)
  clear HP k4
  go_wp2_with fail
  go_loopw [8, 9] (fun s8 s9 wr => ∃ (i q : Nat) (z : St), i ≤ M ∧ s8 = ptr q ∧ s9 = .int .i64 (i : Int) ∧ Hid (Pr V wr s z q z)) (fun _ s9 _ => M - (intOf s9).toNat)
  case atStart => exact ⟨0, q, _, by omega, rfl, rfl, HP4⟩
  case round =>
    clear HP4
    obtain ⟨i, q, z, hi, rfl, rfl, HP⟩ := hrel
    by_cases hlt : i < M
    · have hdt : decide ((i : Int) < (M : Int)) = true := by simp; omega
      obtain ⟨o, hoi⟩ := HL.out i hlt
      obtain ⟨hok, b, off, rfl, hcs⟩ := HO.out i o hoi
      have HK := Lib.hid hok
      have HC := Lib.hid hcs
      have kk := HP.out.old
      have o0 := kcell kk (hcs 0 _ rfl)
      have o1 := kcell kk (hcs 1 _ rfl)
      have o2 := kcell kk (hcs 2 _ rfl)
      have o3 := kcell kk (hcs 3 _ rfl)
      have o4 := kcell kk (hcs 4 _ rfl)
      have o5 := kcell kk (hcs 5 _ rfl)
      have o6 := kcell kk (hcs 6 _ rfl)
      have o7 := kcell kk (hcs 7 _ rfl)
      have o8 := kcell kk (hcs 8 _ rfl)
      have o9 := kcell kk (hcs 9 _ rfl)
      have o10 := kcell kk (hcs 10 _ rfl)
      have o11 := kcell kk (hcs 11 _ rfl)
      have HD := Lib.hid (HP.out.does o h0 HB.out hok)
      have HA : Hid (∀ w5 w', Pr V w5 s (doF o z) q z → Kept0 w5 w' → _) := fun w5 w' h k => h.asked o k hok
      obtain ⟨X, hX⟩ : ∃ X, X = doX o z := ⟨_, rfl⟩
      obtain ⟨E, hE⟩ : ∃ E, E = doE o z := ⟨_, rfl⟩
      obtain ⟨z', hz'⟩ : ∃ z', z' = doF o z := ⟨_, rfl⟩
      rw [← hX, ← hE, ← hz'] at HD HA
      clear hcs kk hoi hok hX hE hz' HP
      simp only [Nat.add_zero] at o0
      go_wp2_with fail
      refine HD.out.mono ?_
      rintro e w5 ⟨rfl, hp5⟩
      obtain ⟨V6, hV6⟩ : ∃ V6, V6 = w5.alloc (.cells #[.int .i32 X.g, .int .i64 X.a, .bool X.b, .int .i64 X.m] 36) := ⟨_, rfl⟩
      have kV6 : Kept0 w5 V6 := by rw [hV6]; exact (Kept.refl _ _).alloc _
      have hc : CelAt V6 w5.heap.size X := by rw [hV6]; exact CelAt.new w5 X 36
      have hp6 := hp5.kept0 kV6
      have kk := hp6.old
      have hcs := HC.out
      have HP5 := Lib.hid (And.intro hp5 kV6)
      clear o0 o1 o2 o3 o4 o5 o6 o7 o8 o9 o10 o11 hp5 kV6 hp6 HD
      have o0 := kcell kk (hcs 0 _ rfl)
      have o1 := kcell kk (hcs 1 _ rfl)
      have o2 := kcell kk (hcs 2 _ rfl)
      have o3 := kcell kk (hcs 3 _ rfl)
      have o4 := kcell kk (hcs 4 _ rfl)
      have o5 := kcell kk (hcs 5 _ rfl)
      have o6 := kcell kk (hcs 6 _ rfl)
      have o7 := kcell kk (hcs 7 _ rfl)
      have o8 := kcell kk (hcs 8 _ rfl)
      have o9 := kcell kk (hcs 9 _ rfl)
      have o10 := kcell kk (hcs 10 _ rfl)
      have o11 := kcell kk (hcs 11 _ rfl)
      clear hcs kk
      simp only [Nat.add_zero] at o0
      go_upto_region 16 with fail
      rw [← hV6]
      have l5 : w5.heap.size < V6.heap.size := by rw [hV6]; simp
      clear hV6
      go_wp2_with fail
      refine (HA.out w5 V6 HP5.out.1 HP5.out.2).mono ?_
      rintro e w6 ⟨q', rfl, hp7, k7⟩
      obtain ⟨c0, c1, c2, c3⟩ := hc.kept k7 (Nat.lt_irrefl _)
      have l6 := World.block_lt_of_cell? _ _ c0
      obtain ⟨V7, hV7⟩ : ∃ V7, V7 = w6.alloc (.cells #[.int .i32 X.g, .int .i64 X.a, .bool X.b, .int .i64 X.m] 36) := ⟨_, rfl⟩
      have kV7 : Kept0 w6 V7 := by rw [hV7]; exact (Kept.refl _ _).alloc _
      obtain ⟨e0, e1, e2, e3⟩ : CelAt V7 w6.heap.size X := by rw [hV7]; exact CelAt.new w6 X 36
      have HP7 := Lib.hid (hp7.kept0 kV7)
      replace c0 := kcell kV7 c0
      replace c1 := kcell kV7 c1
      replace c2 := kcell kV7 c2
      replace c3 := kcell kV7 c3
      have q1 : ∀ w, (Op.equalIn 10000 36 X.v X.v).run Tryz.prog w = .ok true w := fun w => eqv_cel X w
      clear hp7 kV7 HP5 HA hc k7 o0 o1 o2 o3 o4 o5 o6 o7 o8 o9 o10 o11
      go_upto_region 18 with fail
      rw [← hV7]
      clear hV7
      go_wp2_with fail
      refine HP7.out.same.mono ?_
      rintro e w8 ⟨rfl, k8⟩
      have HP8 := Lib.hid (HP7.out.kept0 k8)
      clear HP7 k8 c0 c1 c2 c3 e0 e1 e2 e3
      go_wp2_with fail
      go_roundw
      case rel => exact ⟨i + 1, q', z', by omega, rfl, by go_num, HP8⟩
      case measure => simp [intOf]; omega
    · obtain rfl : i = M := by omega
      have hdt : decide ((i : Int) < (i : Int)) = false := by simp
      have kk := HP.out.old
      go_wp2_with fail
      refine (awake_any _ (HB.out.kept0 kk)).mono ?_
      rintro e w10 ⟨rfl, k10⟩
      go_wp2_with fail
      go_ret
      exact ⟨rfl, kV.trans (kk.trans k10)⟩

theorem plays_calls (x y : Int) (a : Option Addr) (cap : Nat) (l : List Op) (w : World) (hb : Blank w) (bx : -9223372036854775808 ≤ x ∧ x ≤ 9223372036854775807) (by_ : -9223372036854775808 ≤ y ∧ y ≤ 9223372036854775807)
    (hl : OpsIn w a l) (nl : l.length ≤ 9223372036854775807) :
    Calls Tryz.prog 3 #[pos x y, .slice a l.length cap] w fun e w' => e = .returned (.bool true) ∧ Below w.heap.size w w' := by
  cases hm : mayB x y with
  | false => exact (plays_no x y a cap l w hb hm hl nl).mono fun e w' ⟨h1, h2⟩ => ⟨h1, Kept0.below h2⟩
  | true =>
    by_cases h : 8 < x ∨ 20 < y
    · exact (plays_big x y a cap l w hb hm h).mono fun e w' ⟨h1, h2⟩ => ⟨h1, Kept0.below h2⟩
    · have := of_decide_eq_true hm
      obtain ⟨R, rfl⟩ : ∃ R : Nat, x = (R : Int) := ⟨x.toNat, by omega⟩
      obtain ⟨C, rfl⟩ : ∃ C : Nat, y = (C : Int) := ⟨y.toNat, by omega⟩
      exact (plays_in R C a cap l w hb (by omega) hl nl).mono fun e w' ⟨h1, h2⟩ => ⟨h1, Kept0.below h2⟩
end Go.Proofs.YtkpfhgfdfndliaaGreatDoor
