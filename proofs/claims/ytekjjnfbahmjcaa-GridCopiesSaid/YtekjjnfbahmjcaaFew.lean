/-
  What Few answers.
-/
import Derived.Test.YtekjjnfbahmjcaaAwake
namespace Go.Proofs.Ytekjjnfbahmjcaa
open Go.RowKit

/-- A call, as numbers. -/
structure OpV where
  ask : Int
  ar : Int
  ac : Int
  br : Int
  bc : Int
  n : Int
  x : Int

/-- A call lies at a place. -/
structure OpAt (w : World) (b p : Nat) (o : OpV) : Prop where
  ask : w.cell? ⟨b, p, none⟩ = some (.int .i64 o.ask)
  ar : w.cell? ⟨b, p + 1, none⟩ = some (.int .i64 o.ar)
  ac : w.cell? ⟨b, p + 2, none⟩ = some (.int .i64 o.ac)
  br : w.cell? ⟨b, p + 3, none⟩ = some (.int .i64 o.br)
  bc : w.cell? ⟨b, p + 4, none⟩ = some (.int .i64 o.bc)
  n : w.cell? ⟨b, p + 5, none⟩ = some (.int .i64 o.n)
  x : w.cell? ⟨b, p + 6, none⟩ = some (.int .i64 o.x)

/-- The calls lie from a place on. -/
def OpsAt (w : World) (b off : Nat) (l : List OpV) : Prop := ∀ (i : Nat) (o : OpV), l[i]? = some o → OpAt w b (off + i * 7) o

def mayB (r c : Int) : Bool := decide (1 ≤ r ∧ r ≤ 255 ∧ 1 ≤ c ∧ c ≤ 255)
/-- A call that is too great. -/
def bigB (o : OpV) : Bool := o.ask == 4 && (mayB o.br o.bc && (decide (12 < o.br) || decide (20 < o.bc)))
def fewB (l : List OpV) : Bool := (l.all fun o => !bigB o) && decide (l.length ≤ 40)

theorem mayQ (r c : Int) (t : Bool) (h : mayB r c = t) (w : World) : Calls Try.prog 10 #[.int .i64 r, .int .i64 c] w fun e w' => e = .returned (.bool t) ∧ w' = w :=
  (mayR_any r c w).mono fun _ _ ⟨a, b⟩ => ⟨h ▸ a, b.symm⟩

theorem fewB_of {l : List OpV} {n : Nat} (hn : n = l.length) (h : ∀ j o, j < n → l[j]? = some o → bigB o = false) : fewB l = decide (n ≤ 40) := by
  unfold fewB
  have : (l.all fun o => !bigB o) = true := by
    rw [List.all_eq_true]
    intro o ho
    obtain ⟨i, hi, rfl⟩ := List.getElem_of_mem ho
    rw [h i l[i] (by omega) (List.getElem?_eq_getElem hi)]
    rfl
  rw [this, hn]
  rfl
theorem fewB_big {l : List OpV} {k : Nat} {o : OpV} (ho : l[k]? = some o) (h : bigB o = true) : fewB l = false := by
  unfold fewB
  have : (l.all fun o => !bigB o) = false := by
    rw [List.all_eq_false]
    exact ⟨o, List.mem_of_getElem? ho, by simp [h]⟩
  rw [this]
  rfl
theorem ret_bool {a b : Bool} (h : a = b) : Ending.returned (.bool a) = .returned (.bool b) := by rw [h]

set_option maxHeartbeats 2000000 in
theorem few_any (b off cap : Nat) (l : List OpV) (w : World) (hl : OpsAt w b off l) (hn : l.length ≤ 9223372036854775807) :
    Calls Try.prog 11 #[.slice (some ⟨b, off, none⟩) l.length cap] w fun e w' => e = .returned (.bool (fewB l)) ∧ Kept0 w w' := by
  obtain ⟨n, hnl⟩ : ∃ n, n = l.length := ⟨_, rfl⟩
  rw [← hnl] at hn ⊢
  have HN := Lib.hid hnl
  clear hnl
  go_enter Try.func11, Try.ntmps11
  go_wp2
  go_loopw [3] (fun i wr => ∃ k : Nat, k ≤ n ∧ i = .int .i64 k ∧ (∀ j o, j < k → l[j]? = some o → bigB o = false) ∧ Kept0 w wr) (fun i _ => n - (intOf i).toNat)
  case atStart => exact ⟨0, by omega, rfl, fun j o hj => by omega, Kept.refl _ _⟩
  case round =>
    obtain ⟨k, hk, rfl, hp, hkr⟩ := hrel
    by_cases hlt : k < n
    · obtain ⟨o, ho⟩ : ∃ o, l[k]? = some o := ⟨_, List.getElem?_eq_getElem (by rw [← HN.out]; exact hlt)⟩
      have c0 := kcell hkr (hl k o ho).ask
      have c3 := kcell hkr (hl k o ho).br
      have c4 := kcell hkr (hl k o ho).bc
      have HP : Hid (bigB o = false → ∀ j o, j < k + 1 → l[j]? = some o → bigB o = false) := fun hb j o' hj ho' => by
        by_cases e : j = k
        · subst e
          rw [ho] at ho'
          cases ho'
          exact hb
        · exact hp j o' (by omega) ho'
      have HO := Lib.hid ho
      clear ho hp
      by_cases h4 : o.ask = 4
      · have d4 : (o.ask == 4) = true := by simpa using h4
        have Hb : Hid (bigB o = (mayB o.br o.bc && (decide (12 < o.br) || decide (20 < o.bc)))) := by simp [Hid, bigB, h4]
        clear h4
        cases hm : mayB o.br o.bc with
        | false =>
          have HM := Lib.hid hm
          clear hm
          go_wp2_with fail
          go_quiet ((go_at_call 10; exact Calls.quiet_of_same (mayQ _ _ false HM.out _)))
          go_wp2
          go_roundw
          case rel => exact ⟨k + 1, by omega, by go_num, HP.out (by rw [Hb.out, HM.out]; rfl), hkr.drewN _⟩
          case measure => simp [intOf]; omega
        | true =>
          have HM := Lib.hid hm
          clear hm
          by_cases h12 : 12 < o.br
          · have Hbig : Hid (bigB o = true) := by simp [Hid, Hb.out, HM.out, h12]
            go_wp2_with fail
            go_quiet ((go_at_call 10; exact Calls.quiet_of_same (mayQ _ _ true HM.out _)))
            go_wp2
            go_ret
            exact ⟨ret_bool (fewB_big HO.out Hbig.out).symm, hkr.drewN _⟩
          · have d12 : decide (12 < o.br) = false := by simpa using h12
            by_cases h20 : 20 < o.bc
            · have Hbig : Hid (bigB o = true) := by simp [Hid, Hb.out, HM.out, h20]
              go_wp2_with fail
              go_quiet ((go_at_call 10; exact Calls.quiet_of_same (mayQ _ _ true HM.out _)))
              go_wp2
              go_ret
              exact ⟨ret_bool (fewB_big HO.out Hbig.out).symm, hkr.drewN _⟩
            · have d20 : decide (20 < o.bc) = false := by simpa using h20
              have Hno : Hid (bigB o = false) := by simp only [Hid, Hb.out, HM.out, d12, d20]; rfl
              go_wp2_with fail
              go_quiet ((go_at_call 10; exact Calls.quiet_of_same (mayQ _ _ true HM.out _)))
              go_wp2
              go_roundw
              case rel => exact ⟨k + 1, by omega, by go_num, HP.out Hno.out, hkr.drewN _⟩
              case measure => simp [intOf]; omega
      · have d4 : (o.ask == 4) = false := by simpa using h4
        go_wp2_with fail
        go_quiet (fail)
        go_wp2
        go_roundw
        case rel => exact ⟨k + 1, by omega, by go_num, HP.out (by simp [bigB, d4]), hkr.drewN _⟩
        case measure => simp [intOf]; omega
    · have HP := Lib.hid hp
      clear hp
      go_wp2
      go_ret
      refine ⟨ret_bool ?_, hkr⟩
      obtain rfl : k = n := by omega
      rw [fewB_of HN.out HP.out]
      simp
      omega
end Go.Proofs.Ytekjjnfbahmjcaa
