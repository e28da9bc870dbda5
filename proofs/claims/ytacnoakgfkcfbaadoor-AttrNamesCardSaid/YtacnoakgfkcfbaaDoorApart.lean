/-
  The law AttrApart: no two attributes that may be have one text, the last Paint counts, and Colours of what is painted are the paint.
-/
import Derived.Test.YtacnoakgfkcfbaaDoorPaints
import Derived.Test.YtacnoakgfkcfbaaDoorSplit
namespace Go.Proofs.YtacnoakgfkcfbaaDoor
open Go.RowKit

/-- A call answers v wherever the table lies. -/
def Says (f : Nat) (args : Array Value) (v : Value) : Prop :=
  ∀ w w', WordsAt w → Kept0 w w' → Calls Tryd.prog f args w' fun e w'' => e = .returned v ∧ Kept0 w w''
theorem Says.words {f : Nat} {args : Array Value} {v : Value} (h : ∀ w', WordsAt w' → Calls Tryd.prog f args w' fun e w'' => e = .returned v ∧ Kept0 w' w'') : Hid (Says f args v) :=
  fun _ w' hw hk => (h w' (hw.kept hk)).mono fun _ _ ⟨he, hk2⟩ => ⟨he, hk.trans hk2⟩
theorem Says.pure {f : Nat} {args : Array Value} {v : Value} (h : ∀ w', Calls Tryd.prog f args w' fun e w'' => e = .returned v ∧ w'' = w') : Hid (Says f args v) :=
  fun _ w' _ hk => (h w').mono fun _ _ ⟨he, hk2⟩ => ⟨he, by rw [hk2]; exact hk⟩

def fourC (lf : Nat → Int) : Array Value := #[.int .i64 (lf 0), .int .i64 (lf 1), .int .i64 (lf 2), .int .i64 (lf 3)]
theorem fourC_cell (w : World) (lf : Nat → Int) {k : Nat} (hk : k < 4) : (w.alloc (.cells (fourC lf) 44)).cell? ⟨w.heap.size, k, none⟩ = some (.int .i64 (lf k)) := by
  unfold World.cell?
  rw [show (w.alloc (.cells (fourC lf) 44)).heap[w.heap.size]? = some (.cells (fourC lf) 44) from heap_new w _]
  have : k = 0 ∨ k = 1 ∨ k = 2 ∨ k = 3 := by omega
  rcases this with rfl | rfl | rfl | rfl <;> rfl

set_option maxRecDepth 100000 in
theorem apart_first (a b : Int) (lf : Nat → Int) (w : World) (hw : WordsAt w) (H8 : Hid (Says 8 #[.int .i64 a] (.bool false))) (H14 : Hid (Says 14 #[] (.bool true))) :
    Calls Tryd.prog 7 #[.int .i64 a, .int .i64 b, .agg (fourC lf)] w fun e w' => e = .returned (.bool true) ∧ Below w.heap.size w w' := by
  have hk0 := (Kept.refl (fun _ => False) w).alloc (.cells (fourC lf) 44)
  go_enter Tryd.func7, Tryd.ntmps7
  go_wp2_with fail
  refine (H8.out _ _ hw hk0).mono ?_
  rintro e w1 ⟨rfl, hk⟩
  go_wp2_with fail
  refine (H14.out _ _ hw hk).mono ?_
  rintro e w2 ⟨rfl, hk⟩
  go_wp2_with fail
  go_ret
  exact ⟨rfl, Kept0.below hk⟩

set_option maxRecDepth 100000 in
theorem apart_second (a b : Int) (lf : Nat → Int) (w : World) (hw : WordsAt w) (H8 : Hid (Says 8 #[.int .i64 a] (.bool true))) (H8b : Hid (Says 8 #[.int .i64 b] (.bool false))) (H14 : Hid (Says 14 #[] (.bool true))) :
    Calls Tryd.prog 7 #[.int .i64 a, .int .i64 b, .agg (fourC lf)] w fun e w' => e = .returned (.bool true) ∧ Below w.heap.size w w' := by
  have hk0 := (Kept.refl (fun _ => False) w).alloc (.cells (fourC lf) 44)
  go_enter Tryd.func7, Tryd.ntmps7
  go_wp2_with fail
  refine (H8.out _ _ hw hk0).mono ?_
  rintro e w1 ⟨rfl, hk⟩
  go_wp2_with fail
  refine (H8b.out _ _ hw hk).mono ?_
  rintro e w1 ⟨rfl, hk⟩
  go_wp2_with fail
  refine (H14.out _ _ hw hk).mono ?_
  rintro e w2 ⟨rfl, hk⟩
  go_wp2_with fail
  go_ret
  exact ⟨rfl, Kept0.below hk⟩

set_option maxRecDepth 100000 in
set_option maxHeartbeats 4000000 in
theorem apart_core (a b : Int) (ha0 : 0 ≤ a) (ha1 : a < 16384) (lf : Nat → Int) (Sa Sb : ByteArray) (eq : Bool) (hs : (Sa.toList == Sb.toList) = eq) (hs2 : (a == b) = eq) (w : World) (hw : WordsAt w) (H8 : Hid (Says 8 #[.int .i64 a] (.bool true))) (H8b : Hid (Says 8 #[.int .i64 b] (.bool true))) (H14 : Hid (Says 14 #[] (.bool true)))
    (H19 : Hid (Says 19 #[.int .i64 a] (.string Sa))) (H19b : Hid (Says 19 #[.int .i64 b] (.string Sb)))
    (HG : Hid ((∀ j, j < 4 → 0 ≤ lf j ∧ lf j ≤ 7) → ∃ x z F G : Nat, Hid (Says 15 #[.int .i64 a, .int .i64 (lf 0), .int .i64 (lf 1)] (.tuple #[.int .i64 (x : Int), .int .i64 0])) ∧
      Hid (Says 15 #[.int .i64 (x : Int), .int .i64 (lf 2), .int .i64 (lf 3)] (.tuple #[.int .i64 (z : Int), .int .i64 0])) ∧
      Hid (Says 15 #[.int .i64 a, .int .i64 (lf 2), .int .i64 (lf 3)] (.tuple #[.int .i64 (z : Int), .int .i64 0])) ∧
      Hid (Says 16 #[.int .i64 (z : Int)] (.tuple #[.int .i64 (F : Int), .int .i64 (G : Int)])) ∧ Hid (a / 16 % 2 = 0 → a / 32 % 2 = 0 → (F : Int) = lf 2 ∧ (G : Int) = lf 3))) :
    Calls Tryd.prog 7 #[.int .i64 a, .int .i64 b, .agg (fourC lf)] w fun e w' => e = .returned (.bool true) ∧ Below w.heap.size w w' := by
  have hk0 := (Kept.refl (fun _ => False) w).alloc (.cells (fourC lf) 44)
  have HC0 : Hid (∀ k, k < 4 → (w.alloc (.cells (fourC lf) 44)).cell? ⟨w.heap.size, k, none⟩ = some (.int .i64 (lf k))) := fun k hk => fourC_cell w lf hk
  go_enter Tryd.func7, Tryd.ntmps7
  go_wp2_with fail
  obtain ⟨w1, hw1⟩ : ∃ w1, w1 = w.alloc (.cells (fourC lf) 44) := ⟨_, rfl⟩
  rw [← hw1] at hk0 HC0 ⊢
  have hwW := hw.kept hk0
  clear hw1 hw
  refine (H8.out _ _ hwW (Kept.refl _ w1)).mono ?_
  rintro e w2 ⟨rfl, hk⟩
  go_wp2_with fail
  refine (H8b.out _ _ hwW hk).mono ?_
  rintro e w2 ⟨rfl, hk⟩
  go_wp2_with fail
  refine (H19.out _ _ hwW hk).mono ?_
  rintro e w2 ⟨rfl, hk⟩
  go_wp2_with fail
  refine (H19b.out _ _ hwW hk).mono ?_
  rintro e w2 ⟨rfl, hk⟩
  clear H8 H8b H19 H19b
  go_wp2_with fail
  clear hs hs2
  go_loopw [7] (fun s7 wr => ∃ k : Nat, k ≤ 4 ∧ s7 = .int .i64 (k : Int) ∧ wr = w2 ∧ Hid (∀ j, j < k → 0 ≤ lf j ∧ lf j ≤ 7)) (fun s7 _ => 4 - (intOf s7).toNat)
  case atStart => exact ⟨0, by omega, rfl, rfl, fun j hj => absurd hj (by omega)⟩
  case round =>
    obtain ⟨k, hk2, rfl, rfl, hg⟩ := hrel
    have hC : Hid (∀ k, k < 4 → wr.cell? ⟨w.heap.size, k, none⟩ = some (.int .i64 (lf k))) := fun k hk3 => kcell hk (HC0.out k hk3)
    by_cases hlt : k < 4
    · have hcell := hC.out k hlt
      have hd : decide (4 ≤ k) = false := by simp; omega
      have hcs : lf k < 0 ∨ (0 ≤ lf k ∧ 7 < lf k) ∨ (0 ≤ lf k ∧ lf k ≤ 7) := by omega
      rcases hcs with h1 | ⟨h1, h2⟩ | ⟨h1, h2⟩
      · go_wp2_with fail
        refine (H14.out _ _ hwW hk).mono ?_
        rintro e w3 ⟨rfl, hk⟩
        go_wp2_with fail
        go_ret
        exact ⟨rfl, Kept0.below (hk0.trans hk)⟩
      · go_wp2_with fail
        refine (H14.out _ _ hwW hk).mono ?_
        rintro e w3 ⟨rfl, hk⟩
        go_wp2_with fail
        go_ret
        exact ⟨rfl, Kept0.below (hk0.trans hk)⟩
      · have HN : Hid (∀ j, j < k + 1 → 0 ≤ lf j ∧ lf j ≤ 7) := fun j hj => by
          rcases Nat.lt_succ_iff_lt_or_eq.1 hj with h3 | h3
          · exact hg.out j h3
          · subst h3; exact ⟨h1, h2⟩
        clear hg
        go_wp2_with fail
        go_roundw
        case rel => exact ⟨k + 1, by omega, by go_num, trivial, HN⟩
        case measure => simp [intOf]; omega
    · obtain rfl : k = 4 := by omega
      obtain ⟨x, z, F, G, K1, K2, K3, K4, HF⟩ := HG.out hg.out
      have c0 := hC.out 0 (by omega)
      have c1 := hC.out 1 (by omega)
      have c2 := hC.out 2 (by omega)
      have c3 := hC.out 3 (by omega)
      clear HG hC hg
      go_wp2_with fail
      refine (K1.out _ _ hwW hk).mono ?_
      rintro e w3 ⟨rfl, hk3⟩
      replace c2 : w3.cell? ⟨w.heap.size, 2, none⟩ = some (.int .i64 (lf 2)) := kcell hk3 (HC0.out 2 (by omega))
      replace c3 : w3.cell? ⟨w.heap.size, 3, none⟩ = some (.int .i64 (lf 3)) := kcell hk3 (HC0.out 3 (by omega))
      clear c0 c1 hk
      go_wp2_with fail
      refine (K2.out _ _ hwW hk3).mono ?_
      rintro e w4 ⟨rfl, hk4⟩
      replace c2 : w4.cell? ⟨w.heap.size, 2, none⟩ = some (.int .i64 (lf 2)) := kcell hk4 (HC0.out 2 (by omega))
      replace c3 : w4.cell? ⟨w.heap.size, 3, none⟩ = some (.int .i64 (lf 3)) := kcell hk4 (HC0.out 3 (by omega))
      clear hk3
      go_wp2_with fail
      refine (K3.out _ _ hwW hk4).mono ?_
      rintro e w5 ⟨rfl, hk5⟩
      clear hk4 c2 c3
      go_wp2_with fail
      refine (K4.out _ _ hwW hk5).mono ?_
      rintro e w6 ⟨rfl, hk6⟩
      have c2 : w6.cell? ⟨w.heap.size, 2, none⟩ = some (.int .i64 (lf 2)) := kcell hk6 (HC0.out 2 (by omega))
      have c3 : w6.cell? ⟨w.heap.size, 3, none⟩ = some (.int .i64 (lf 3)) := kcell hk6 (HC0.out 3 (by omega))
      clear hk5 K1 K2 K3 K4
      by_cases hp : a / 16 % 2 = 0
      · have t16 : (a / 16 % 2 == 0) = true := by simpa using hp
        by_cases hq : a / 32 % 2 = 0
        · have t32 : (a / 32 % 2 == 0) = true := by simpa using hq
          obtain ⟨e1, e2⟩ := HF.out hp hq
          rw [← e1] at c2
          rw [← e2] at c3
          clear HF hp hq
          go_wp2_with fail
          refine (H14.out _ _ hwW hk6).mono ?_
          rintro e w7 ⟨rfl, hk7⟩
          go_wp2_with fail
          go_ret
          exact ⟨rfl, Kept0.below (hk0.trans hk7)⟩
        · have t32 : (a / 32 % 2 == 0) = false := by simpa using hq
          clear HF hp hq
          go_wp2_with fail
          refine (H14.out _ _ hwW hk6).mono ?_
          rintro e w7 ⟨rfl, hk7⟩
          go_wp2_with fail
          go_ret
          exact ⟨rfl, Kept0.below (hk0.trans hk7)⟩
      · have t16 : (a / 16 % 2 == 0) = false := by simpa using hp
        clear HF hp
        go_wp2_with fail
        refine (H14.out _ _ hwW hk6).mono ?_
        rintro e w7 ⟨rfl, hk7⟩
        go_wp2_with fail
        go_ret
        exact ⟨rfl, Kept0.below (hk0.trans hk7)⟩

/-- What Paint makes of attributes. -/
theorem mix_facts {m f b x : Nat} (hm : m < 64) (hf : f < 8) (hb : b < 8) (hx : x = m + 64 + 256 * f + 2048 * b) :
    x < 16384 ∧ mayN x = true ∧ x % 64 = m ∧ foN x = f ∧ baN x = b ∧ bitN x 16 = bitN m 16 ∧ bitN x 32 = bitN m 32 := by
  have h64 : bitN x 64 = true := by unfold bitN; rw [beq_iff_eq]; omega
  have h128 : bitN x 128 = false := by unfold bitN; rw [beq_eq_false_iff_ne]; omega
  refine ⟨by omega, ?_, by omega, ?_, ?_, ?_, ?_⟩
  · rw [mayN_eq, h64, h128]
    have : x < 16384 := by omega
    simp [this]
  · unfold foN; rw [h64, if_pos rfl]; omega
  · unfold baN; rw [h64, if_pos rfl]; omega
  · unfold bitN; rw [show x / 16 % 2 = m / 16 % 2 by omega]
  · unfold bitN; rw [show x / 32 % 2 = m / 32 % 2 by omega]

theorem paint_good (a : Int) (ha : mayB a = true) (f b : Int) (hf0 : 0 ≤ f) (hf : f ≤ 7) (hb0 : 0 ≤ b) (hb : b ≤ 7) :
    paintE a f b = 0 ∧ paintN a f b = a.toNat % 64 + 64 + 256 * f.toNat + 2048 * b.toNat := by
  have hp : paintsB f = true := by simp [paintsB]; omega
  have hq : paintsB b = true := by simp [paintsB]; omega
  refine ⟨by simp [paintE, ha, hp, hq], ?_⟩
  simp only [paintN, ha, hp, hq, Bool.and_self, if_true, mixN]
  rw [if_neg (by omega), if_neg (by omega)]

theorem apart_calls (a b : Int) (ha0 : -9223372036854775808 ≤ a) (ha1 : a ≤ 9223372036854775807) (hb0 : -9223372036854775808 ≤ b) (hb1 : b ≤ 9223372036854775807) (lf : Nat → Int) (w : World) (hw : WordsAt w) :
    Calls Tryd.prog 7 #[.int .i64 a, .int .i64 b, .agg (fourC lf)] w fun e w' => e = .returned (.bool true) ∧ Below w.heap.size w w' := by
  have H8 := Says.pure (refMay_any a ha1)
  have H8b := Says.pure (refMay_any b hb1)
  have H14 := Says.words awake_any
  cases hm : mayB a
  · rw [hm] at H8
    exact apart_first a b lf w hw H8 H14
  rw [hm] at H8
  cases hmb : mayB b
  · rw [hmb] at H8b
    exact apart_second a b lf w hw H8 H8b H14
  rw [hmb] at H8b
  have H19 := Says.words (fun w' => names_any a ha0 ha1 w')
  have H19b := Says.words (fun w' => names_any b hb0 hb1 w')
  have hl := mayB_lt hm
  have heq : ((str (namesOf a)).toList == (str (namesOf b)).toList) = (a == b) := by
    rw [Lib.toList_data, Lib.toList_data]
    show (namesOf a == namesOf b) = _
    by_cases h : a = b
    · rw [h]; simp
    · have h2 : namesOf a ≠ namesOf b := fun e => h (names_inj hm hmb e)
      rw [beq_eq_false_iff_ne.2 h, beq_eq_false_iff_ne.2 h2]
  refine apart_core a b hl.1 hl.2 lf (str (namesOf a)) (str (namesOf b)) _ heq rfl w hw H8 H8b H14 H19 H19b ?_
  intro hg
  have g0 := hg 0 (by omega)
  have g1 := hg 1 (by omega)
  have g2 := hg 2 (by omega)
  have g3 := hg 3 (by omega)
  obtain ⟨e1, p1⟩ := paint_good a hm (lf 0) (lf 1) g0.1 g0.2 g1.1 g1.2
  obtain ⟨e3, p3⟩ := paint_good a hm (lf 2) (lf 3) g2.1 g2.2 g3.1 g3.2
  obtain ⟨x1, x2, x3, _⟩ := mix_facts (m := a.toNat % 64) (f := (lf 0).toNat) (b := (lf 1).toNat) (by omega) (by omega) (by omega) p1
  obtain ⟨z1, z2, z3, z4, z5, z6, z7⟩ := mix_facts (m := a.toNat % 64) (f := (lf 2).toNat) (b := (lf 3).toNat) (by omega) (by omega) (by omega) p3
  have hx : mayB (paintN a (lf 0) (lf 1) : Int) = true := by rw [mayB_nat]; exact x2
  have hz : mayB (paintN a (lf 2) (lf 3) : Int) = true := by rw [mayB_nat]; exact z2
  obtain ⟨e2, p2⟩ := paint_good (paintN a (lf 0) (lf 1) : Int) hx (lf 2) (lf 3) g2.1 g2.2 g3.1 g3.2
  rw [Int.toNat_natCast, x3, ← p3] at p2
  have K1 := Says.words (fun w' => paint_any a (lf 0) (lf 1) ha0 ha1 w')
  have K2 := Says.words (fun w' => paint_any (paintN a (lf 0) (lf 1) : Int) (lf 2) (lf 3) (by omega) (by omega) w')
  have K3 := Says.words (fun w' => paint_any a (lf 2) (lf 3) ha0 ha1 w')
  have K4 := Says.words (fun w' => colours_any (paintN a (lf 2) (lf 3) : Int) (by omega) (by omega) w')
  rw [e1] at K1
  rw [e2, p2] at K2
  rw [e3] at K3
  refine ⟨_, _, _, _, K1, K2, K3, K4, ?_⟩
  intro h16 h32
  have b16 : bitN (a.toNat % 64) 16 = false := by unfold bitN; rw [beq_eq_false_iff_ne]; omega
  have b32 : bitN (a.toNat % 64) 32 = false := by unfold bitN; rw [beq_eq_false_iff_ne]; omega
  simp only [colF, colB, hz, if_true, Int.toNat_natCast, seeF, seeB, z6, z7, b16, b32, z4, z5]
  simp
  omega

#print axioms apart_calls
end Go.Proofs.YtacnoakgfkcfbaaDoor
