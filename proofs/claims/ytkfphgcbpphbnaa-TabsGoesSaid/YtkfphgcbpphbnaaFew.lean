/-
  What the law's own small calls do: ints, Few and awake.
-/
import Derived.Test.YtkfphgcbpphbnaaRefB
namespace Go.Proofs.Ytkfphgcbpphbnaa
open Go.RowKit Go.Maps Go.ChangeMaps Go.MapKept

theorem ext_ints {l k : List Int} (hl : l.length = k.length) (h : ∀ j, j < l.length → l[j]? = k[j]?) : l = k := by
  refine List.ext_getElem? fun i => ?_
  by_cases hi : i < l.length
  · exact h i hi
  · rw [List.getElem?_eq_none (by omega), List.getElem?_eq_none (by omega)]

set_option maxHeartbeats 2000000 in
theorem ints_any (a1 a2 : Option Addr) (c1 c2 : Nat) (l1 l2 : List Int) (w : World) (h1 : IntsIn w a1 l1) (h2 : IntsIn w a2 l2) (hn : l1.length ≤ 9223372036854775807) (hn2 : l2.length ≤ 9223372036854775807) :
    Calls Try.prog 13 #[.slice a1 l1.length c1, .slice a2 l2.length c2] w fun e w' => e = .returned (.bool (decide (l1 = l2))) ∧ Kept0 w w' := by
  obtain ⟨n, hnl⟩ : ∃ n, n = l1.length := ⟨_, rfl⟩
  obtain ⟨n2, hnl2⟩ : ∃ n2, n2 = l2.length := ⟨_, rfl⟩
  rw [← hnl] at hn ⊢
  rw [← hnl2] at hn2 ⊢
  have HN := Lib.hid hnl
  have HN2 := Lib.hid hnl2
  clear hnl hnl2
  by_cases hlen : n = n2
  · subst hlen
    go_enter Try.func13, Try.ntmps13
    go_wp2_with fail
    go_loopw [5] (fun i wr => ∃ k : Nat, k ≤ n ∧ i = .int .i64 (k : Int) ∧ (∀ j, j < k → l1[j]? = l2[j]?) ∧ Kept0 w wr) (fun i _ => n - (num i).toNat)
    case atStart => exact ⟨0, by omega, rfl, fun j hj => by omega, Kept.refl _ _⟩
    case round =>
      obtain ⟨k, hk, rfl, hp, hkr⟩ := hrel
      by_cases hlt : k < n
      · obtain ⟨x, hx⟩ : ∃ x, l1[k]? = some x := ⟨_, List.getElem?_eq_getElem (by rw [← HN.out]; exact hlt)⟩
        obtain ⟨y, hy⟩ : ∃ y, l2[k]? = some y := ⟨_, List.getElem?_eq_getElem (by rw [← HN2.out]; exact hlt)⟩
        obtain ⟨b, off, rfl, hc⟩ := h1 k x hx
        obtain ⟨b', off', rfl, hc'⟩ := h2 k y hy
        have cx := kcell hkr hc
        have cy := kcell hkr hc'
        clear hc hc'
        by_cases hxy : x = y
        · subst hxy
          have HP : Hid (∀ j, j < k + 1 → l1[j]? = l2[j]?) := fun j hj => by
            by_cases e : j = k
            · subst e; rw [hx, hy]
            · exact hp j (by omega)
          clear hp hx hy
          go_wp2_with fail
          go_quiet (fail)
          go_wp2
          go_roundw
          case rel => exact ⟨k + 1, by omega, by go_num, HP.out, hkr.drewN _⟩
          case measure => simp [num]; omega
        · have HD : Hid (decide (l1 = l2) = false) := decide_eq_false (fun e => hxy (by rw [e, hy] at hx; cases hx; rfl))
          clear hp hx hy
          go_wp2_with fail
          go_quiet (fail)
          go_wp2
          go_ret
          exact ⟨ret_bool HD.out.symm, hkr.drewN _⟩
      · have HD : Hid (decide (l1 = l2) = true) := decide_eq_true (ext_ints (by rw [← HN.out, ← HN2.out]) (fun j hj => hp j (by have := HN.out; omega)))
        clear hp
        go_wp2_with fail
        go_ret
        exact ⟨ret_bool HD.out.symm, hkr⟩
  · have HD : Hid (decide (l1 = l2) = false) := decide_eq_false (fun e => hlen (by rw [HN.out, HN2.out, e]))
    go_enter Try.func13, Try.ntmps13
    go_wp2_with fail
    go_ret
    exact ⟨ret_bool HD.out.symm, Kept.refl _ _⟩

/-- A call, as numbers. -/
structure OpV where
  ask : Int
  n : Int
  m : Int
  la : Option Addr
  lcap : Nat
  l : List Int

/-- A call lies at a place. -/
structure OpAt (w : World) (b p : Nat) (o : OpV) : Prop where
  ask : w.cell? ⟨b, p, none⟩ = some (.int .i64 o.ask)
  n : w.cell? ⟨b, p + 1, none⟩ = some (.int .i64 o.n)
  m : w.cell? ⟨b, p + 2, none⟩ = some (.int .i64 o.m)
  l : w.cell? ⟨b, p + 3, none⟩ = some (.slice o.la o.l.length o.lcap)
theorem OpAt.kept0 {w w' : World} {b p : Nat} {o : OpV} (h : OpAt w b p o) (k : Kept0 w w') : OpAt w' b p o := ⟨kcell k h.ask, kcell k h.n, kcell k h.m, kcell k h.l⟩

/-- The calls that a slice leads to. -/
def OpsIn (w : World) (a : Option Addr) (l : List OpV) : Prop := ∀ (i : Nat) (o : OpV), l[i]? = some o → ∃ b off, a = some ⟨b, off, none⟩ ∧ OpAt w b (off + i * 4) o ∧ IntsIn w o.la o.l
theorem OpsIn.kept0 {w w' : World} {a : Option Addr} {l : List OpV} (h : OpsIn w a l) (k : Kept0 w w') : OpsIn w' a l := fun i o ho => by
  obtain ⟨b, off, ha, h1, h2⟩ := h i o ho
  exact ⟨b, off, ha, h1.kept0 k, h2.kept0 k⟩
/-- Numbers of 64 bits. -/
structure OpV.Ok (o : OpV) : Prop where
  n : -9223372036854775808 ≤ o.n ∧ o.n ≤ 9223372036854775807
  m : -9223372036854775808 ≤ o.m ∧ o.m ≤ 9223372036854775807
  l : o.l.length ≤ 9223372036854775807
def OpsOk (l : List OpV) : Prop := ∀ (i : Nat) (o : OpV), l[i]? = some o → o.Ok

def fewB (l : List OpV) : Bool := (l.all fun o => decide (o.l.length ≤ 20)) && decide (l.length ≤ 40)
theorem fewB_of {l : List OpV} {n : Nat} (hn : n = l.length) (h : ∀ j o, j < n → l[j]? = some o → o.l.length ≤ 20) : fewB l = decide (n ≤ 40) := by
  unfold fewB
  have : (l.all fun o => decide (o.l.length ≤ 20)) = true := by
    rw [List.all_eq_true]
    intro o ho
    obtain ⟨i, hi, rfl⟩ := List.getElem_of_mem ho
    rw [decide_eq_true_eq]
    exact h i l[i] (by omega) (List.getElem?_eq_getElem hi)
  rw [this, hn]
  rfl
theorem fewB_big {l : List OpV} {k : Nat} {o : OpV} (ho : l[k]? = some o) (h : ¬ o.l.length ≤ 20) : fewB l = false := by
  unfold fewB
  have : (l.all fun o => decide (o.l.length ≤ 20)) = false := by
    rw [List.all_eq_false]
    exact ⟨o, List.mem_of_getElem? ho, by simp; omega⟩
  rw [this]
  rfl

set_option maxHeartbeats 2000000 in
theorem few_any (a : Option Addr) (cap : Nat) (l : List OpV) (w : World) (hl : OpsIn w a l) (hok : OpsOk l) (hn : l.length ≤ 9223372036854775807) :
    Calls Try.prog 10 #[.slice a l.length cap] w fun e w' => e = .returned (.bool (fewB l)) ∧ w = w' := by
  obtain ⟨n, hnl⟩ : ∃ n, n = l.length := ⟨_, rfl⟩
  rw [← hnl] at hn ⊢
  have HN := Lib.hid hnl
  clear hnl
  go_enter Try.func10, Try.ntmps10
  go_wp2
  go_loopw [3] (fun i wr => ∃ k : Nat, k ≤ n ∧ i = .int .i64 (k : Int) ∧ (∀ j o, j < k → l[j]? = some o → o.l.length ≤ 20) ∧ w = wr) (fun i _ => n - (num i).toNat)
  case atStart => exact ⟨0, by omega, rfl, fun j o hj => by omega, rfl⟩
  case round =>
    obtain ⟨k, hk, rfl, hp, rfl⟩ := hrel
    by_cases hlt : k < n
    · obtain ⟨o, ho⟩ : ∃ o, l[k]? = some o := ⟨_, List.getElem?_eq_getElem (by rw [← HN.out]; exact hlt)⟩
      obtain ⟨b, off, rfl, hO, _⟩ := hl k o ho
      have c3 := hO.l
      have hol := (hok k o ho).l
      have HP : Hid (o.l.length ≤ 20 → ∀ j o, j < k + 1 → l[j]? = some o → o.l.length ≤ 20) := fun hb j o' hj ho' => by
        by_cases e : j = k
        · subst e
          rw [ho] at ho'
          cases ho'
          exact hb
        · exact hp j o' (by omega) ho'
      have HO := Lib.hid ho
      clear ho hp hO
      obtain ⟨ol, hol'⟩ : ∃ ol, ol = o.l.length := ⟨_, rfl⟩
      rw [← hol'] at c3 hol
      have HOL := Lib.hid hol'
      clear hol'
      by_cases h20 : ol ≤ 20
      · go_wp2_with fail
        go_roundw
        case rel => exact ⟨k + 1, by omega, by go_num, HP.out (by rw [← HOL.out]; exact h20), by trivial⟩
        case measure => simp [num]; omega
      · go_wp2_with fail
        go_ret
        exact ⟨ret_bool (fewB_big HO.out (by rw [← HOL.out]; exact h20)).symm, rfl⟩
    · have HP := Lib.hid hp
      clear hp
      go_wp2
      go_ret
      refine ⟨ret_bool ?_, rfl⟩
      obtain rfl : k = n := by omega
      rw [fewB_of HN.out HP.out]
      simp
      omega

theorem lit816 : listN 20 (everyF (8 : Nat)) = [8, 16] := by decide
theorem two_ints (w : World) (b : Nat) (x y : Int) (h : w.heap[b]? = some (.cells #[.int .i64 x, .int .i64 y] 3 (0, 0))) : IntsIn w (some ⟨b, 0, none⟩) [x, y] := fun k z hz => by
  refine ⟨b, 0, rfl, ?_⟩
  match k, hz with
  | 0, hz => simp at hz; subst hz; simp [World.cell?, h]
  | 1, hz => simp at hz; subst hz; simp [World.cell?, h]

theorem lit1 : nextN 20 (everyF (8 : Nat)) 8 = 16 := by decide
theorem lit2 : nextN 20 (everyF (8 : Nat)) 16 = 19 := by decide
theorem lit3 : prevN 20 (everyF (8 : Nat)) 8 = 0 := by decide
theorem lit4 : goN 20 (everyF (8 : Nat)) 0 2 = 16 := by decide

set_option maxRecDepth 100000 in
set_option maxHeartbeats 4000000 in
theorem awake_any (w : World) : Calls Try.prog 9 #[] w fun e w' => e = .returned (.bool true) ∧ Kept0 w w' := by
  go_enter Try.func9, Try.ntmps9
  go_wp2_with fail
  refine (new_yes 20 _ (by omega) (by omega)).mono ?_
  rintro e w1 ⟨t, m, rfl, ht, hm, hT1, hk1⟩
  go_wp2_with fail
  refine (every_pos t m 20 _ 8 _ hT1 (by omega)).mono ?_
  rintro e w2 ⟨rfl, hT2, hk2⟩
  have hk02 : Kept0 w w2 := hk1.later hk2 (fun i hi e => by omega)
  clear hT1 hk1 hk2
  go_wp2_with fail
  refine (list_any t m 20 _ _ hT2).mono ?_
  rintro e w3 ⟨a, cap, rfl, hI, _, hk3⟩
  rw [lit816] at hI ⊢
  replace hT2 := hT2.kept0 hk3
  replace hk02 := hk02.trans hk3
  clear hk3
  go_wp2_with fail
  have k4 : Kept0 w3 (w3.alloc (Obj.cells #[Value.int IntKind.i64 8, Value.int IntKind.i64 16] 3)) := (Kept.refl _ w3).alloc _
  refine (ints_any a _ cap 2 [8, 16] [8, 16] _ (hI.kept0 k4) (two_ints _ _ 8 16 (heap_new _ _)) (by decide) (by decide)).mono ?_
  rintro e w5 ⟨rfl, hk5⟩
  have k5 := k4.trans hk5
  replace hT2 := hT2.kept0 k5
  replace hk02 := hk02.trans k5
  clear hk5 k4 k5 hI
  go_wp2_with fail
  refine (next_any t m 20 _ 8 _ hT2).mono ?_
  rw [lit1]
  rintro e w6 ⟨rfl, hk6⟩
  replace hT2 := hT2.kept0 hk6
  replace hk02 := hk02.trans hk6
  clear hk6
  go_wp2_with fail
  refine (next_any t m 20 _ 16 _ hT2).mono ?_
  rw [lit2]
  rintro e w6 ⟨rfl, hk6⟩
  replace hT2 := hT2.kept0 hk6
  replace hk02 := hk02.trans hk6
  clear hk6
  go_wp2_with fail
  refine (prev_any t m 20 _ 8 _ hT2).mono ?_
  rw [lit3]
  rintro e w6 ⟨rfl, hk6⟩
  replace hT2 := hT2.kept0 hk6
  replace hk02 := hk02.trans hk6
  clear hk6
  go_wp2_with fail
  refine (go_any t m 20 _ 0 2 _ hT2 (by omega)).mono ?_
  rw [lit4]
  rintro e w6 ⟨rfl, hk6⟩
  go_wp2_with fail
  go_ret
  exact ⟨rfl, hk02.trans hk6⟩
end Go.Proofs.Ytkfphgcbpphbnaa
