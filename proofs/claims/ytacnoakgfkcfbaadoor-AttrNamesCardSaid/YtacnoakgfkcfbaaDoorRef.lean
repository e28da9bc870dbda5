/-
  What the document's answers, Fore, Back, Colours, Paint, Mask and Sum, are.
-/
import Derived.Test.YtacnoakgfkcfbaaDoorInk
namespace Go.Proofs.YtacnoakgfkcfbaaDoor
open Go.RowKit

theorem fore_int (a : Int) (h0 : 0 ≤ a) (h1 : a < 16384) (w : World) : Calls Tryd.prog 28 #[.int .i64 a] w fun e w' => e = .returned (.int .i64 (a / 256 % 8)) ∧ w' = w := by
  go_enter Tryd.func28, Tryd.ntmps28
  go_wp2_with fail
  go_ret
  exact ⟨rfl, rfl⟩
theorem back_int (a : Int) (h0 : 0 ≤ a) (h1 : a < 16384) (w : World) : Calls Tryd.prog 29 #[.int .i64 a] w fun e w' => e = .returned (.int .i64 (a / 2048 % 8)) ∧ w' = w := by
  go_enter Tryd.func29, Tryd.ntmps29
  go_wp2_with fail
  go_ret
  exact ⟨rfl, rfl⟩
theorem fore_any (n : Nat) (hn : n < 16384) (w : World) : Calls Tryd.prog 28 #[.int .i64 (n : Int)] w fun e w' => e = .returned (.int .i64 ((n / 256 % 8 : Nat) : Int)) ∧ w' = w := by
  have := fore_int n (by omega) (by omega) w
  exact this
theorem backd_any (n : Nat) (hn : n < 16384) (w : World) : Calls Tryd.prog 29 #[.int .i64 (n : Int)] w fun e w' => e = .returned (.int .i64 ((n / 2048 % 8 : Nat) : Int)) ∧ w' = w := by
  have := back_int n (by omega) (by omega) w
  exact this

theorem refColours_any (a : Int) (h1 : a ≤ 9223372036854775807) (w : World) :
    Calls Tryd.prog 17 #[.int .i64 a] w fun e w' => e = .returned (.tuple #[.int .i64 (colF a : Int), .int .i64 (colB a : Int)]) ∧ w' = w := by
  have hM := refMay_any a h1
  obtain ⟨F, hF⟩ : ∃ F : Int, F = (colF a : Int) := ⟨_, rfl⟩
  obtain ⟨B, hB⟩ : ∃ B : Int, B = (colB a : Int) := ⟨_, rfl⟩
  rw [← hF, ← hB]
  unfold colF at hF
  unfold colB at hB
  cases hm : mayB a
  · rw [hm] at hM hF hB
    subst hF hB
    have HM := Lib.hid hM
    clear hM
    go_enter Tryd.func17, Tryd.ntmps17
    go_wp2_with fail
    refine (HM.out _).mono ?_
    rintro e w1 ⟨rfl, rfl⟩
    go_wp2_with fail
    go_ret2
    exact ⟨rfl, rfl⟩
  · rw [hm, if_pos rfl] at hF hB
    rw [hm] at hM
    have HM := Lib.hid hM
    clear hM
    obtain ⟨n, rfl⟩ := Int.eq_ofNat_of_zero_le (mayB_lt hm).1
    have hn : n < 16384 := by have := (mayB_lt hm).2; omega
    rw [Int.toNat_natCast] at hF hB
    unfold seeF foN baN at hF
    unfold seeB foN baN at hB
    have H64 := bit_any n 64 (by omega) (by omega) (by omega)
    have H16 := bit_any n 16 (by omega) (by omega) (by omega)
    have H32 := bit_any n 32 (by omega) (by omega) (by omega)
    have HFo := fore_any n hn
    have HBa := backd_any n hn
    obtain ⟨fo, hfo⟩ : ∃ fo, fo = n / 256 % 8 := ⟨_, rfl⟩
    obtain ⟨ba, hba⟩ : ∃ ba, ba = n / 2048 % 8 := ⟨_, rfl⟩
    rw [← hfo] at hF hB HFo
    rw [← hba] at hF hB HBa
    replace HFo := Lib.hid HFo
    replace HBa := Lib.hid HBa
    clear hfo hba hm
    cases hb64 : bitN n 64 <;> cases hb16 : bitN n 16 <;> cases hb32 : bitN n 32
    all_goals
      rw [hb16] at hF hB H16
      rw [hb32] at hF H32
      rw [hb64] at hF hB H64
      simp only [if_true, Bool.false_eq_true, if_false] at hF hB
      subst hF hB
      clear hb16 hb32 hb64
      replace H64 := Lib.hid H64
      replace H16 := Lib.hid H16
      replace H32 := Lib.hid H32
      go_enter Tryd.func17, Tryd.ntmps17
      go_wp2_with fail
      refine (HM.out _).mono ?_
      rintro e w1 ⟨rfl, rfl⟩
      go_wp2_with fail
      refine (H64.out _).mono ?_
      rintro e w1 ⟨rfl, rfl⟩
      go_wp2_with fail
    all_goals try
      (refine (HFo.out _).mono ?_
       rintro e w1 ⟨rfl, rfl⟩
       go_wp2_with fail
       refine (HBa.out _).mono ?_
       rintro e w1 ⟨rfl, rfl⟩
       go_wp2_with fail)
    all_goals
      refine (H16.out _).mono ?_
      rintro e w1 ⟨rfl, rfl⟩
      go_wp2_with fail
      refine (H32.out _).mono ?_
      rintro e w1 ⟨rfl, rfl⟩
      go_wp2_with fail
      go_ret2
      exact ⟨rfl, rfl⟩

theorem refPaint_any (n : Nat) (hn : n < 16384) (fore back : Int) (hp : paintsB fore = true) (hq : paintsB back = true) (w : World) :
    Calls Tryd.prog 18 #[.int .i64 (n : Int), .int .i64 fore, .int .i64 back] w fun e w' => e = .returned (.int .i64 (mixN n fore back : Int)) ∧ w' = w := by
  have H64 := bit_any n 64 (by omega) (by omega) (by omega)
  have HFo := fore_any n hn
  have HBa := backd_any n hn
  simp only [paintsB, Bool.and_eq_true, decide_eq_true_eq] at hp hq
  obtain ⟨R, hR⟩ : ∃ R : Int, R = (mixN n fore back : Int) := ⟨_, rfl⟩
  rw [← hR]
  unfold mixN foN baN at hR
  obtain ⟨fo, hfo⟩ : ∃ fo, fo = n / 256 % 8 := ⟨_, rfl⟩
  obtain ⟨ba, hba⟩ : ∃ ba, ba = n / 2048 % 8 := ⟨_, rfl⟩
  have hfl : fo < 8 := by omega
  have hbl : ba < 8 := by omega
  rw [← hfo] at hR HFo
  rw [← hba] at hR HBa
  replace HFo := Lib.hid HFo
  replace HBa := Lib.hid HBa
  obtain ⟨⟨hp1, hp2⟩, ⟨hq1, hq2⟩⟩ := And.intro hp hq
  have hmod : ((n : Int).tmod 64) = ((n % 64 : Nat) : Int) := by rw [Int.tmod_eq_emod_of_nonneg (by omega)]; rfl
  have hml : n % 64 < 64 := by omega
  obtain ⟨m, hm⟩ : ∃ m, m = n % 64 := ⟨_, rfl⟩
  rw [← hm] at hR hmod hml
  clear hfo hba hm hp hq
  cases hb64 : bitN n 64 <;> by_cases hf : fore < 0 <;> by_cases hb : back < 0
  all_goals
    rw [hb64] at hR H64
    simp only [hf, hb, if_true, Bool.false_eq_true, if_false] at hR
    clear hb64
    replace H64 := Lib.hid H64
    have HR := Lib.hid hR
    clear hR
    go_enter Tryd.func18, Tryd.ntmps18
    go_wp2_with fail
    refine (H64.out _).mono ?_
    rintro e w1 ⟨rfl, rfl⟩
    go_wp2_with fail
  all_goals try
    (refine (HFo.out _).mono ?_
     rintro e w1 ⟨rfl, rfl⟩
     go_wp2_with fail
     refine (HBa.out _).mono ?_
     rintro e w1 ⟨rfl, rfl⟩
     go_wp2_with fail)
  all_goals
    go_ret
    refine ⟨?_, rfl⟩
    rw [HR.out]
    exact congrArg (fun x : Int => Ending.returned (.int .i64 x)) (by omega)

/-- The bits that a personality has. -/
def maskL (p : Int) : List Nat := if p = 2 then [1, 4, 8, 16, 32, 64, 256, 512, 1024, 2048, 4096, 8192] else if p = 3 then [2, 4, 8, 16, 32] else if p = 4 then [4, 8, 16, 32] else []
def intCells (l : List Nat) : Array Value := (l.map fun n : Nat => Value.int .i64 (n : Int)).toArray
theorem intCells_get {l : List Nat} {k : Nat} (h : k < l.length) : (intCells l)[k]? = some (.int .i64 (l.getD k 0 : Int)) := by
  simp [intCells, h, List.getD]
/-- A slice of numbers. -/
structure IntsAt (w : World) (ad : Option Addr) (l : List Nat) : Prop where
  at' : l ≠ [] → ∃ b, ad = some ⟨b, 0, none⟩ ∧ ∀ k, k < l.length → w.cell? ⟨b, k, none⟩ = some (.int .i64 (l.getD k 0 : Int))
theorem IntsAt.kept {w w' : World} {ad : Option Addr} {l : List Nat} (h : IntsAt w ad l) (k : Kept0 w w') : IntsAt w' ad l :=
  ⟨fun hl => let ⟨b, h1, h2⟩ := h.at' hl; ⟨b, h1, fun i hi => kcell k (h2 i hi)⟩⟩
theorem IntsAt.new (w : World) (l : List Nat) (t : TypeId) : IntsAt (w.alloc (.cells (intCells l) t)) (some ⟨w.heap.size, 0, none⟩) l :=
  ⟨fun _ => ⟨_, rfl, fun k hk => by
    unfold World.cell?
    rw [show (w.alloc (.cells (intCells l) t)).heap[w.heap.size]? = some (.cells (intCells l) t) from heap_new w _]
    exact intCells_get hk⟩⟩

theorem refMask_any (p : Int) (w : World) : Calls Tryd.prog 10 #[.int .i64 p] w fun e w' => ∃ ad, e = .returned (.slice ad (maskL p).length (maskL p).length) ∧ IntsAt w' ad (maskL p) ∧ Kept0 w w' := by
  by_cases h2 : p = 2
  · subst h2
    have hA := IntsAt.new w (maskL 2) 3
    have hK := (Kept.refl (fun _ => False) w).alloc (.cells (intCells (maskL 2)) 3)
    have HA := Lib.hid hA
    have HK := Lib.hid hK
    clear hA hK
    go_enter Tryd.func10, Tryd.ntmps10
    go_wp2_with fail
    go_ret
    exact ⟨_, rfl, HA.out, HK.out⟩
  by_cases h3 : p = 3
  · subst h3
    have hA := IntsAt.new w (maskL 3) 3
    have hK := (Kept.refl (fun _ => False) w).alloc (.cells (intCells (maskL 3)) 3)
    have HA := Lib.hid hA
    have HK := Lib.hid hK
    clear hA hK
    go_enter Tryd.func10, Tryd.ntmps10
    go_wp2_with fail
    go_ret
    exact ⟨_, rfl, HA.out, HK.out⟩
  by_cases h4 : p = 4
  · subst h4
    have hA := IntsAt.new w (maskL 4) 3
    have hK := (Kept.refl (fun _ => False) w).alloc (.cells (intCells (maskL 4)) 3)
    have HA := Lib.hid hA
    have HK := Lib.hid hK
    clear hA hK
    go_enter Tryd.func10, Tryd.ntmps10
    go_wp2_with fail
    go_ret
    exact ⟨_, rfl, HA.out, HK.out⟩
  have e : maskL p = [] := by unfold maskL; rw [if_neg h2, if_neg h3, if_neg h4]
  rw [e]
  go_enter Tryd.func10, Tryd.ntmps10
  go_wp2_with fail
  go_ret
  exact ⟨none, rfl, ⟨fun h => absurd rfl h⟩, Kept.refl _ _⟩

/-- The sum of the first k of those bits of a number. -/
def sumTo (l : List Nat) (n : Nat) : Nat → Nat
  | 0 => 0
  | k + 1 => if bitN n (l.getD k 0) then sumTo l n k + l.getD k 0 else sumTo l n k
theorem sumTo_le {l : List Nat} (hl : ∀ x ∈ l, x ≤ 8192) (n : Nat) : ∀ k, sumTo l n k ≤ 8192 * k
  | 0 => Nat.le_refl _
  | k + 1 => by
    have h := sumTo_le hl n k
    have h2 : l.getD k 0 ≤ 8192 := by
      rw [List.getD]
      cases e : l[k]? with
      | none => simp
      | some x => exact hl x (List.mem_of_getElem? e)
    unfold sumTo
    split <;> omega

set_option maxHeartbeats 1000000 in
theorem sum_any (l : List Nat) (hl : ∀ x ∈ l, 0 < x ∧ x ≤ 8192) (hlen : l.length ≤ 100) (n : Nat) (hn : n < 16384) (ad : Option Addr) (w : World) (hA : IntsAt w ad l) :
    Calls Tryd.prog 11 #[.slice ad l.length l.length, .int .i64 (n : Int)] w fun e w' => e = .returned (.int .i64 (sumTo l n l.length : Int)) ∧ w' = w := by
  have HB := Lib.hid (fun x h1 h2 w => bit_any n x (by omega) h1 h2 w)
  have HL := Lib.hid (sumTo_le (fun x hx => (hl x hx).2) n)
  by_cases he : l = []
  · subst he
    clear HB HL
    go_enter Tryd.func11, Tryd.ntmps11
    go_wp2_with fail
    go_loopw [5, 6] (fun s5 s6 wr => s5 = .int .i64 0 ∧ s6 = .int .i64 0 ∧ wr = w) (fun _ _ _ => 0)
    case atStart => exact ⟨rfl, rfl, rfl⟩
    case round =>
      obtain ⟨rfl, rfl, rfl⟩ := hrel
      go_wp2_with fail
      go_ret
      exact ⟨rfl, rfl⟩
  · obtain ⟨b, rfl, hc⟩ := hA.at' he
    have HC := Lib.hid hc
    have HX : Hid (∀ k, k < l.length → 0 < l.getD k 0 ∧ l.getD k 0 ≤ 8192) := by
      intro k hk
      have : l[k]? = some (l.getD k 0) := by rw [List.getD, List.getElem?_eq_getElem hk]; rfl
      exact hl _ (List.mem_of_getElem? this)
    obtain ⟨N, hN⟩ : ∃ N, N = l.length := ⟨_, rfl⟩
    rw [← hN] at HC HX hlen ⊢
    clear hc hA hl he hN
    go_enter Tryd.func11, Tryd.ntmps11
    go_wp2_with fail
    go_loopw [5, 6] (fun s5 s6 wr => ∃ k : Nat, k ≤ N ∧ s6 = .int .i64 (k : Int) ∧ s5 = .int .i64 (sumTo l n k : Int) ∧ wr = w) (fun _ s6 _ => N - (intOf s6).toNat)
    case atStart => exact ⟨0, by omega, rfl, rfl, rfl⟩
    case round =>
      obtain ⟨k, hk, rfl, rfl, rfl⟩ := hrel
      by_cases hlt : k < N
      · have hx := HX.out k hlt
        have hcell := HC.out k hlt
        have hsl := HL.out k
        have hst : sumTo l n (k + 1) = if bitN n (l.getD k 0) then sumTo l n k + l.getD k 0 else sumTo l n k := rfl
        obtain ⟨x, hxx⟩ : ∃ x, x = l.getD k 0 := ⟨_, rfl⟩
        obtain ⟨s, hs⟩ : ∃ s, s = sumTo l n k := ⟨_, rfl⟩
        rw [← hxx, ← hs] at hst
        rw [← hxx] at hx hcell
        rw [← hs] at hsl
        rw [← hs]
        clear hxx hs
        have H1 := HB.out x hx.1 (by omega)
        obtain ⟨hx1, hx2⟩ := hx
        cases hb : bitN n x
        · rw [hb] at H1 hst
          replace H1 := Lib.hid H1
          go_wp2_with fail
          refine (H1.out _).mono ?_
          rintro e w1 ⟨rfl, rfl⟩
          go_wp2_with fail
          go_roundw
          case rel => exact ⟨k + 1, by omega, by go_num, by rw [hst]; rfl, trivial⟩
          case measure => simp [intOf]; omega
        · rw [hb, if_pos rfl] at hst
          rw [hb] at H1
          replace H1 := Lib.hid H1
          have HST := Lib.hid hst
          clear hst
          go_wp2_with fail
          refine (H1.out _).mono ?_
          rintro e w1 ⟨rfl, rfl⟩
          go_wp2_with fail
          go_roundw
          case rel => exact ⟨k + 1, by omega, by go_num, by rw [HST.out]; go_num, trivial⟩
          case measure => simp [intOf]; omega
      · obtain rfl : k = N := by omega
        go_wp2_with fail
        go_ret
        exact ⟨rfl, rfl⟩

#print axioms refPaint_any
#print axioms sum_any
end Go.Proofs.YtacnoakgfkcfbaaDoor
