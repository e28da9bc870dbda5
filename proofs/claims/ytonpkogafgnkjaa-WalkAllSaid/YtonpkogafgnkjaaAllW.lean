/-
  WalkAll: as many glyphs as there are places, one behind the other, come by all of them once, and the lines go up just behind the last one.
-/
import Derived.Test.YtonpkogafgnkjaaBackL
import Derived.Test.YtonpkogafgnkjaaWraps
namespace Go.Proofs.Ytonpkogafgnkjaa
open Go.RowKit

theorem Three.set3a {w : World} {b : Nat} {x y : Int} {v : Bool} (h : Three w b x y v) (x' y' : Int) (v' : Bool) : Three (((w.setCell ⟨b, 0, none⟩ (.int .i64 x')).setCell ⟨b, 1, none⟩ (.int .i64 y')).setCell ⟨b, 2, none⟩ (.bool v')) b x' y' v' :=
  ⟨by simp [go_sem, h.c0], by simp [go_sem, h.c1], by simp [go_sem, h.c2], by simp [go_sem, h.f0], by simp [go_sem, h.f1], by simp [go_sem, h.f2]⟩
theorem Kept.set3a (w : World) (b : Nat) (u0 u1 u2 : Value) : Kept (· = b) w (((w.setCell ⟨b, 0, none⟩ u0).setCell ⟨b, 1, none⟩ u1).setCell ⟨b, 2, none⟩ u2) :=
  ((Kept.set1 w b 0 u0).trans (Kept.set1 _ b 1 u1)).trans (Kept.set1 _ b 2 u2)

set_option maxHeartbeats 4000000 in
set_option maxRecDepth 100000 in
theorem all_no (R C : Int) (auto : Bool) (hm : ¬ may R C) (w : World) :
    Calls Try.prog 7 #[pos R C, .bool auto] w fun e w' => e = .returned (.bool true) ∧ Kept0 w w' := by
  have HM := Lib.hid (refMay_any R C)
  rw [decide_eq_false hm] at HM
  clear hm
  go_enter Try.func7, Try.ntmps7
  go_wp2_with fail
  refine (HM.out _).mono ?_
  rintro e w1 ⟨rfl, hk1⟩
  have hk : Kept0 w w1 := ((Kept.refl _ w).alloc _).trans hk1
  clear hk1
  go_wp2_with fail
  refine (awake_any _).mono ?_
  rintro e w4 ⟨rfl, hk4⟩
  go_wp2_with fail
  go_ret
  exact ⟨rfl, hk.trans hk4⟩

set_option maxHeartbeats 4000000 in
set_option maxRecDepth 100000 in
theorem all_great (R C : Int) (n : Nat) (auto : Bool) (hm : may R C) (e1 : IntKind.i64.wrap (R * C) = (n : Int)) (h : 600 < n) (w : World) :
    Calls Try.prog 7 #[pos R C, .bool auto] w fun e w' => e = .returned (.bool true) ∧ Kept0 w w' := by
  have HM := Lib.hid (refMay_any R C)
  rw [decide_eq_true hm] at HM
  clear hm
  go_enter Try.func7, Try.ntmps7
  go_wp2_with fail
  refine (HM.out _).mono ?_
  rintro e w1 ⟨rfl, hk1⟩
  have hs : Two w1 w.heap.size R C := (Two.of (heap_new _ _)).kept0 hk1
  have hk : Kept0 w w1 := ((Kept.refl _ w).alloc _).trans hk1
  clear hk1
  obtain ⟨s0, s1, _, _⟩ := hs
  go_wp2_with fail
  refine (awake_any _).mono ?_
  rintro e w4 ⟨rfl, hk4⟩
  go_wp2_with fail
  go_ret
  exact ⟨rfl, hk.trans hk4⟩

set_option maxHeartbeats 8000000 in
set_option maxRecDepth 100000 in
theorem all_core (R C : Int) (n : Nat) (auto : Bool) (X Y QR QC : Nat → Int) (V : Nat → Bool) (hM : Says 11 #[pos R C] (.bool true)) (e1 : IntKind.i64.wrap (R * C) = (n : Int)) (h600 : n ≤ 600) (h1 : 1 ≤ n)
    (e3 : IntKind.i64.wrap (R - 1) = R - 1) (x0 : X 0 = 0) (y0 : Y 0 = 0) (v0 : V 0 = false)
    (hA : ∀ i, i < n → Says 15 #[pos R C, place (X i) (Y i) (V i)] (.tuple #[pos (QR i) (QC i), .bool false]))
    (hI : ∀ i : Nat, i < n → Says 19 #[pos R C, pos (QR i) (QC i)] (.tuple #[.int .i64 (i : Int), .int .i64 0]))
    (hB : ∀ i : Nat, i < n → Says 16 #[pos R C, pos (QR i) (QC i), .int .i64 (if auto then 2 else 3)] (.tuple #[place (X (i + 1)) (Y (i + 1)) (V (i + 1)), .bool (auto && ((i : Int) == (n : Int) - 1))]))
    (hE : Says 15 #[pos R C, place (X n) (Y n) (V n)] (.tuple #[pos (R - 1) 0, .bool (!auto)])) (w : World) :
    Calls Try.prog 7 #[pos R C, .bool auto] w fun e w' => e = .returned (.bool true) ∧ Kept0 w w' := by
  have HM := Lib.hid hM
  have HA := Lib.hid hA
  have HI := Lib.hid hI
  have HB := Lib.hid hB
  have HE := Lib.hid hE
  have HX := Lib.hid x0
  have HY := Lib.hid y0
  have HV := Lib.hid v0
  have HR := Lib.hid e3
  clear hM hA hI hB hE x0 y0 v0 e3
  have e2 : IntKind.i64.wrap ((n : Int) - 1) = (n : Int) - 1 := IntWalk.i64_in _ (by constructor <;> omega)
  have HN := Lib.hid e2
  clear e2
  cases auto
  · have HB' : ∀ i : Nat, i < n → Says 16 #[pos R C, pos (QR i) (QC i), .int .i64 3] (.tuple #[place (X (i + 1)) (Y (i + 1)) (V (i + 1)), .bool false]) := HB.out
    have HE' : Says 15 #[pos R C, place (X n) (Y n) (V n)] (.tuple #[pos (R - 1) 0, .bool true]) := HE.out
    clear HB HE
    go_enter Try.func7, Try.ntmps7
    go_wp2_with fail
    refine (HM.out _).mono ?_
    rintro e w1 ⟨rfl, hk1⟩
    have hs : Two w1 w.heap.size R C := (Two.of (heap_new _ _)).kept0 hk1
    have hk : Kept0 w w1 := ((Kept.refl _ w).alloc _).trans hk1
    have l1 := hs.lt
    clear hk1
    have s0 := hs.c0
    have s1 := hs.c1
    go_wp2_with fail
    clear s0 s1
    have hs := hs.kept0 ((Kept.refl _ _).alloc (Obj.cells #[Value.int IntKind.i64 0, Value.int IntKind.i64 0, Value.bool false] 27))
    have hp : Three (w1.alloc (Obj.cells #[Value.int IntKind.i64 0, Value.int IntKind.i64 0, Value.bool false] 27)) w1.heap.size 0 0 false := Three.of (heap_new _ _)
    have hk := hk.alloc (Obj.cells #[Value.int IntKind.i64 0, Value.int IntKind.i64 0, Value.bool false] 27)
    generalize (w1.alloc (Obj.cells #[Value.int IntKind.i64 0, Value.int IntKind.i64 0, Value.bool false] 27)) = W at *
    generalize w1.heap.size = pb at *
    have hlt1 : ¬ (w.heap.size = pb) := by omega
    have hle : w.heap.size ≤ pb := by omega
    clear l1
    go_loopw [8, 9, 10, 11, 12, 13, 14] (fun i _ _ _ _ _ _ wr => ∃ k : Nat, k ≤ n ∧ i = .int .i64 (k : Int) ∧ Two wr w.heap.size R C ∧ Three wr pb (X k) (Y k) (V k) ∧ Kept0 w wr) (fun i _ _ _ _ _ _ _ => n - (intOf i).toNat)
    case atStart => exact ⟨0, by omega, rfl, hs, by rw [HX.out, HY.out, HV.out]; exact hp, hk⟩
    case round =>
      clear hs hp hk
      obtain ⟨k, hkn, rfl, hs, hp, hk⟩ := hrel
      by_cases hlt : k < n
      · have s0 := hs.c0
        have s1 := hs.c1
        have p0 := hp.c0
        have p1 := hp.c1
        have p2 := hp.c2
        have KA := Lib.hid (HA.out k hlt)
        have KI := Lib.hid (HI.out k hlt)
        have KB := Lib.hid (HB' k hlt)
        go_wp2_with fail
        refine (KA.out _).mono ?_
        rintro e wa ⟨rfl, hka⟩
        clear s0 s1 p0 p1 p2
        have hs := hs.kept0 hka
        have hp := hp.kept0 hka
        have hk := hk.trans hka
        have l1 := hs.lt
        have l2 := hp.lt
        clear hka
        have s0 := hs.c0
        have s1 := hs.c1
        go_wp2_with fail
        refine (KI.out _).mono ?_
        rintro e wb ⟨rfl, hkb⟩
        have hq : Two wb wa.heap.size (QR k) (QC k) := (Two.of (heap_new _ _)).kept0 hkb
        have kk := ((Kept.refl (fun _ => False) wa).alloc _).trans hkb
        have hs := hs.kept0 kk
        have hp := hp.kept0 kk
        have hk := hk.trans kk
        clear hkb kk s0 s1 l1 l2
        generalize wa.heap.size = a1 at *
        have s0 := hs.c0
        have s1 := hs.c1
        have q0 := hq.c0
        have q1 := hq.c1
        go_wp2_with fail
        refine (KB.out _).mono ?_
        rintro e wc ⟨rfl, hkc⟩
        clear s0 s1 q0 q1
        have hs := hs.kept0 hkc
        have hp := hp.kept0 hkc
        have hk := hk.trans hkc
        clear hkc
        have l2 := hp.lt
        have e2 := HN.out
        have hp' := hp
        obtain ⟨p0, p1, p2, p3, p4, p5⟩ := hp'
        go_wp2_with fail
        go_roundw
        case rel =>
          refine ⟨k + 1, by omega, by go_num, ?_, ?_, ?_⟩
          · exact (hs.kept (Kept.set3a wc pb _ _ _) hlt1).kept0 ((Kept.refl _ _).alloc _)
          · exact (hp.set3a _ _ _).kept0 ((Kept.refl _ _).alloc _)
          · exact (hk.later (Kept.set3a wc pb _ _ _) (fun i hi e => by omega)).alloc _
        case measure => simp [intOf]; omega
      · obtain rfl : k = n := by omega
        have HK := Lib.hid HE'
        clear HE' HB'
        have s0 := hs.c0
        have s1 := hs.c1
        have p0 := hp.c0
        have p1 := hp.c1
        have p2 := hp.c2
        go_wp2_with fail
        refine (HK.out _).mono ?_
        rintro e wa ⟨rfl, hka⟩
        have hs := hs.kept0 hka
        have hk := hk.trans hka
        have l1 := hs.lt
        have e3 := HR.out
        clear hka s0 s1 p0 p1 p2
        have s0 := hs.c0
        have s1 := hs.c1
        go_wp2_with fail
        refine (awake_any _).mono ?_
        rintro e wz ⟨rfl, hkz⟩
        go_wp2_with fail
        go_ret
        exact ⟨rfl, (hk.alloc _).trans hkz⟩
  · have HB' : ∀ i : Nat, i < n → Says 16 #[pos R C, pos (QR i) (QC i), .int .i64 2] (.tuple #[place (X (i + 1)) (Y (i + 1)) (V (i + 1)), .bool ((i : Int) == (n : Int) - 1)]) := HB.out
    have HE' : Says 15 #[pos R C, place (X n) (Y n) (V n)] (.tuple #[pos (R - 1) 0, .bool false]) := HE.out
    clear HB HE
    go_enter Try.func7, Try.ntmps7
    go_wp2_with fail
    refine (HM.out _).mono ?_
    rintro e w1 ⟨rfl, hk1⟩
    have hs : Two w1 w.heap.size R C := (Two.of (heap_new _ _)).kept0 hk1
    have hk : Kept0 w w1 := ((Kept.refl _ w).alloc _).trans hk1
    have l1 := hs.lt
    clear hk1
    have s0 := hs.c0
    have s1 := hs.c1
    go_wp2_with fail
    clear s0 s1
    have hs := hs.kept0 ((Kept.refl _ _).alloc (Obj.cells #[Value.int IntKind.i64 0, Value.int IntKind.i64 0, Value.bool false] 27))
    have hp : Three (w1.alloc (Obj.cells #[Value.int IntKind.i64 0, Value.int IntKind.i64 0, Value.bool false] 27)) w1.heap.size 0 0 false := Three.of (heap_new _ _)
    have hk := hk.alloc (Obj.cells #[Value.int IntKind.i64 0, Value.int IntKind.i64 0, Value.bool false] 27)
    generalize (w1.alloc (Obj.cells #[Value.int IntKind.i64 0, Value.int IntKind.i64 0, Value.bool false] 27)) = W at *
    generalize w1.heap.size = pb at *
    have hlt1 : ¬ (w.heap.size = pb) := by omega
    have hle : w.heap.size ≤ pb := by omega
    clear l1
    go_loopw [8, 9, 10, 11, 12, 13, 14] (fun i _ _ _ _ _ _ wr => ∃ k : Nat, k ≤ n ∧ i = .int .i64 (k : Int) ∧ Two wr w.heap.size R C ∧ Three wr pb (X k) (Y k) (V k) ∧ Kept0 w wr) (fun i _ _ _ _ _ _ _ => n - (intOf i).toNat)
    case atStart => exact ⟨0, by omega, rfl, hs, by rw [HX.out, HY.out, HV.out]; exact hp, hk⟩
    case round =>
      clear hs hp hk
      obtain ⟨k, hkn, rfl, hs, hp, hk⟩ := hrel
      by_cases hlt : k < n
      · have s0 := hs.c0
        have s1 := hs.c1
        have p0 := hp.c0
        have p1 := hp.c1
        have p2 := hp.c2
        have KA := Lib.hid (HA.out k hlt)
        have KI := Lib.hid (HI.out k hlt)
        have KB := Lib.hid (HB' k hlt)
        go_wp2_with fail
        refine (KA.out _).mono ?_
        rintro e wa ⟨rfl, hka⟩
        clear s0 s1 p0 p1 p2
        have hs := hs.kept0 hka
        have hp := hp.kept0 hka
        have hk := hk.trans hka
        have l1 := hs.lt
        have l2 := hp.lt
        clear hka
        have s0 := hs.c0
        have s1 := hs.c1
        go_wp2_with fail
        refine (KI.out _).mono ?_
        rintro e wb ⟨rfl, hkb⟩
        have hq : Two wb wa.heap.size (QR k) (QC k) := (Two.of (heap_new _ _)).kept0 hkb
        have kk := ((Kept.refl (fun _ => False) wa).alloc _).trans hkb
        have hs := hs.kept0 kk
        have hp := hp.kept0 kk
        have hk := hk.trans kk
        clear hkb kk s0 s1 l1 l2
        generalize wa.heap.size = a1 at *
        have s0 := hs.c0
        have s1 := hs.c1
        have q0 := hq.c0
        have q1 := hq.c1
        go_wp2_with fail
        refine (KB.out _).mono ?_
        rintro e wc ⟨rfl, hkc⟩
        clear s0 s1 q0 q1
        have hs := hs.kept0 hkc
        have hp := hp.kept0 hkc
        have hk := hk.trans hkc
        clear hkc
        have l2 := hp.lt
        have e2 := HN.out
        have hp' := hp
        obtain ⟨p0, p1, p2, p3, p4, p5⟩ := hp'
        go_wp2_with fail
        go_roundw
        case rel =>
          refine ⟨k + 1, by omega, by go_num, ?_, ?_, ?_⟩
          · exact (hs.kept (Kept.set3a wc pb _ _ _) hlt1).kept0 ((Kept.refl _ _).alloc _)
          · exact (hp.set3a _ _ _).kept0 ((Kept.refl _ _).alloc _)
          · exact (hk.later (Kept.set3a wc pb _ _ _) (fun i hi e => by omega)).alloc _
        case measure => simp [intOf]; omega
      · obtain rfl : k = n := by omega
        have HK := Lib.hid HE'
        clear HE' HB'
        have s0 := hs.c0
        have s1 := hs.c1
        have p0 := hp.c0
        have p1 := hp.c1
        have p2 := hp.c2
        go_wp2_with fail
        refine (HK.out _).mono ?_
        rintro e wa ⟨rfl, hka⟩
        have hs := hs.kept0 hka
        have hk := hk.trans hka
        have l1 := hs.lt
        have e3 := HR.out
        clear hka s0 s1 p0 p1 p2
        have s0 := hs.c0
        have s1 := hs.c1
        go_wp2_with fail
        refine (awake_any _).mono ?_
        rintro e wz ⟨rfl, hkz⟩
        go_wp2_with fail
        go_ret
        exact ⟨rfl, (hk.alloc _).trans hkz⟩

theorem next_in {j b : Nat} (h : j % b + 1 < b) : (j + 1) / b = j / b ∧ (j + 1) % b = j % b + 1 := by
  refine (Nat.div_mod_unique (by omega)).2 ⟨?_, h⟩
  have := Nat.mod_add_div j b
  omega
theorem next_end {j b : Nat} (hb : 0 < b) (h : j % b + 1 = b) : (j + 1) / b = j / b + 1 ∧ (j + 1) % b = 0 := by
  refine (Nat.div_mod_unique hb).2 ⟨?_, hb⟩
  have := Nat.mod_add_div j b
  rw [Nat.mul_add]
  omega
theorem last_of {j a b : Nat} (ha : 0 < a) (hb : 0 < b) (h : j + 1 = a * b) : j / b = a - 1 ∧ j % b = b - 1 := by
  refine (Nat.div_mod_unique hb).2 ⟨?_, by omega⟩
  obtain ⟨a', rfl⟩ : ∃ a', a = a' + 1 := ⟨a - 1, by omega⟩
  rw [Nat.add_mul, Nat.one_mul, Nat.mul_comm] at h
  simp only [Nat.add_sub_cancel]
  omega
theorem of_last {j a b : Nat} (ha : 0 < a) (hb : 0 < b) (h1 : j / b = a - 1) (h2 : j % b = b - 1) : j + 1 = a * b := by
  have h := Nat.mod_add_div j b
  rw [h1, h2] at h
  obtain ⟨a', rfl⟩ : ∃ a', a = a' + 1 := ⟨a - 1, by omega⟩
  rw [Nat.add_mul, Nat.one_mul, Nat.mul_comm]
  simp only [Nat.add_sub_cancel] at h
  omega

/-- Where glyph number i is put. -/
def atR (b i : Nat) : Int := ((i / b : Nat) : Int)
def atC (b i : Nat) : Int := ((i % b : Nat) : Int)
/-- Where the cursor is behind i glyphs. -/
def curR (R : Int) (b : Nat) (auto : Bool) : Nat → Int
  | 0 => 0
  | j + 1 => behR R (atR b j) (decide (atC b j < (b : Int) - 1)) false auto
def curC (b : Nat) (auto : Bool) : Nat → Int
  | 0 => 0
  | j + 1 => behC (atC b j) (decide (atC b j < (b : Int) - 1)) false auto
def curP (b : Nat) (auto : Bool) : Nat → Bool
  | 0 => false
  | j + 1 => behP (decide (atC b j < (b : Int) - 1)) false auto

theorem ahead_of (R C p q : Int) (hm : may R C) (h0 : 0 ≤ p) (h1 : p < R) (h2 : 0 ≤ q) (h3 : q < C) : Says 15 #[pos R C, place p q false] (.tuple #[pos p q, .bool false]) := by
  have h := ahead_plain R C p q
  rw [nearR_yes hm, nearC_yes hm, nr_in p R h0 h1, nr_in q C h2 h3] at h
  exact h
theorem ahead_next (R C p q : Int) (hm : may R C) (h0 : 0 ≤ p) (h1 : p < R) : Says 15 #[pos R C, place p q true] (.tuple #[pos (nextR R p) 0, .bool (p == R - 1)]) := by
  have h := ahead_pend R C p q hm
  rw [nr_in p R h0 h1] at h
  exact h

theorem all_calls (R C : Int) (auto : Bool) (w : World) :
    Calls Try.prog 7 #[pos R C, .bool auto] w fun e w' => e = .returned (.bool true) ∧ Below w.heap.size w w' := by
  by_cases hm : may R C
  · have hMay := refMay_any R C
    rw [decide_eq_true hm] at hMay
    have ha := area_in hm
    have hm1 := hm.1
    have hm2 := hm.2.1
    have hm3 := hm.2.2.1
    have hm4 := hm.2.2.2
    obtain ⟨a, rfl⟩ := Int.eq_ofNat_of_zero_le (show 0 ≤ R by omega)
    obtain ⟨b, rfl⟩ := Int.eq_ofNat_of_zero_le (show 0 ≤ C by omega)
    have hab : (a : Int) * (b : Int) = ((a * b : Nat) : Int) := by simp
    have e1 : IntKind.i64.wrap ((a : Int) * (b : Int)) = ((a * b : Nat) : Int) := by
      rw [hab] at ha ⊢
      exact IntWalk.i64_in _ (by constructor <;> omega)
    rw [hab] at ha
    by_cases h6 : 600 < a * b
    · exact (all_great _ _ (a * b) auto hm e1 h6 w).mono fun e w' h => ⟨h.1, h.2.below⟩
    have a0 : 0 < a := by omega
    have b0 : 0 < b := by omega
    have rlo : ∀ j, 0 ≤ atR b j := fun j => Int.natCast_nonneg _
    have rhi : ∀ j, j < a * b → atR b j < (a : Int) := fun j hj => by
      have : j / b < a := Nat.div_lt_of_lt_mul (by rw [Nat.mul_comm]; exact hj)
      unfold atR; omega
    have clo : ∀ j, 0 ≤ atC b j := fun j => Int.natCast_nonneg _
    have chi : ∀ j, atC b j < (b : Int) := fun j => by
      have := Nat.mod_lt j b0
      unfold atC; omega
    refine (all_core a b (a * b) auto (curR a b auto) (curC b auto) (atR b) (atC b) (curP b auto) hMay e1 (by omega) (by omega) (IntWalk.i64_in _ (by constructor <;> omega)) rfl rfl rfl ?_ ?_ ?_ ?_ w).mono fun e w' h => ⟨h.1, h.2.below⟩
    · intro i hi
      cases i with
      | zero =>
        have z1 : atR b 0 = 0 := by simp [atR]
        have z2 : atC b 0 = 0 := by simp [atC]
        rw [z1, z2]
        exact ahead_of a b 0 0 hm (by omega) (by omega) (by omega) (by omega)
      | succ j =>
        by_cases hc : atC b j < (b : Int) - 1
        · have hn := next_in (j := j) (b := b) (by unfold atC at hc; omega)
          have r1 : atR b (j + 1) = atR b j := by unfold atR; rw [hn.1]
          have c1 : atC b (j + 1) = atC b j + 1 := by unfold atC; rw [hn.2]; omega
          have x1 : curR a b auto (j + 1) = atR b j := by simp [curR, behR, hc]
          have x2 : curC b auto (j + 1) = atC b j + 1 := by simp [curC, behC, hc]
          have x3 : curP b auto (j + 1) = false := by simp [curP, behP, hc]
          rw [r1, c1, x1, x2, x3]
          exact ahead_of a b _ _ hm (rlo j) (rhi j (by omega)) (by have := clo j; omega) (by omega)
        · have hj := chi j
          have hn := next_end (j := j) b0 (by unfold atC at hc hj; omega)
          have r1 : atR b (j + 1) = atR b j + 1 := by unfold atR; rw [hn.1]; omega
          have c1 : atC b (j + 1) = 0 := by unfold atC; rw [hn.2]; rfl
          have r2 := rhi (j + 1) hi
          have hx : nextR a (atR b j) = atR b j + 1 := by unfold nextR; rw [if_neg (by omega)]
          cases auto
          · have x1 : curR a b false (j + 1) = atR b j := by simp [curR, behR]
            have x2 : curC b false (j + 1) = atC b j := by simp [curC, behC, hc]
            have x3 : curP b false (j + 1) = true := by simp [curP, behP, hc]
            have h := ahead_next a b (atR b j) (atC b j) hm (rlo j) (by omega)
            have hf : (atR b j == (a : Int) - 1) = false := by simp; omega
            rw [hx, hf] at h
            rw [r1, c1, x1, x2, x3]
            exact h
          · have x1 : curR a b true (j + 1) = atR b j + 1 := by simp [curR, behR, hc, hx]
            have x2 : curC b true (j + 1) = 0 := by simp [curC, behC, hc]
            have x3 : curP b true (j + 1) = false := by simp [curP, behP, hc]
            rw [r1, c1, x1, x2, x3]
            exact ahead_of a b _ _ hm (by have := rlo j; omega) (by omega) (by omega) (by omega)
    · intro i hi
      have h := index_there a b (atR b i) (atC b i) hm (rlo i) (rhi i hi) (clo i) (chi i)
      have hd : atR b i * (b : Int) + atC b i = (i : Int) := by
        have := Nat.mod_add_div i b
        have h2 : atR b i * (b : Int) = ((b * (i / b) : Nat) : Int) := by simp [atR, Int.mul_comm]
        rw [h2]
        unfold atC
        omega
      rw [hd] at h
      exact h
    · intro i hi
      have g : behG a (atR b i) (decide (atC b i < (b : Int) - 1)) false auto = (auto && ((i : Int) == ((a * b : Nat) : Int) - 1)) := by
        cases auto
        · simp [behG]
        · by_cases hc : atC b i < (b : Int) - 1
          · have : ¬ ((i : Int) = ((a * b : Nat) : Int) - 1) := fun e => by
              have := (last_of (j := i) a0 b0 (by omega)).2
              unfold atC at hc
              omega
            simp only [behG, hc]
            simp
            simpa using this
          · have hj := chi i
            have hv : behG a (atR b i) (decide (atC b i < (b : Int) - 1)) false true = (atR b i == (a : Int) - 1) := by simp [behG, hc]
            rw [hv, Bool.true_and]
            by_cases hr : atR b i = (a : Int) - 1
            · have := of_last (j := i) (a := a) (b := b) a0 b0 (by unfold atR at hr; omega) (by unfold atC at hc hj; omega)
              have h2 : (i : Int) = ((a * b : Nat) : Int) - 1 := by omega
              rw [hr, h2, beq_self_eq_true, beq_self_eq_true]
            · have h2 : ¬ ((i : Int) = ((a * b : Nat) : Int) - 1) := fun e => by
                have := (last_of (j := i) a0 b0 (by omega)).1
                unfold atR at hr
                omega
              rw [beq_false_of_ne hr, beq_false_of_ne h2]
      rw [← g]
      have hk : ((if auto = true then (2 : Int) else 3) == 1) = false := by cases auto <;> decide
      have hk2 : ((if auto = true then (2 : Int) else 3) == 2) = auto := by cases auto <;> decide
      have h := behind_says a b (atR b i) (atC b i) (if auto = true then 2 else 3) hm
      rw [hk, hk2, nr_in _ _ (rlo i) (rhi i hi), nr_in _ _ (clo i) (chi i)] at h
      exact h
    · obtain ⟨j, hj⟩ : ∃ j, a * b = j + 1 := ⟨a * b - 1, by omega⟩
      obtain ⟨l1, l2⟩ := last_of (j := j) a0 b0 hj.symm
      have r1 : atR b j = (a : Int) - 1 := by unfold atR; omega
      have c1 : atC b j = (b : Int) - 1 := by unfold atC; omega
      have hx : nextR a ((a : Int) - 1) = (a : Int) - 1 := by unfold nextR; rw [if_pos (by omega)]
      rw [hj]
      cases auto
      · have x1 : curR a b false (j + 1) = (a : Int) - 1 := by simp [curR, behR, r1]
        have x2 : curC b false (j + 1) = (b : Int) - 1 := by simp [curC, behC, c1]
        have x3 : curP b false (j + 1) = true := by simp [curP, behP, c1]
        have h := ahead_next a b ((a : Int) - 1) ((b : Int) - 1) hm (by omega) (by omega)
        rw [hx] at h
        rw [x1, x2, x3]
        simpa using h
      · have x1 : curR a b true (j + 1) = (a : Int) - 1 := by simp [curR, behR, r1, c1, hx]
        have x2 : curC b true (j + 1) = 0 := by simp [curC, behC, c1]
        have x3 : curP b true (j + 1) = false := by simp [curP, behP, c1]
        rw [x1, x2, x3]
        exact ahead_of a b _ _ hm (by omega) (by omega) (by omega) (by omega)
  · exact (all_no R C auto hm w).mono fun e w' h => ⟨h.1, h.2.below⟩

end Go.Proofs.Ytonpkogafgnkjaa
