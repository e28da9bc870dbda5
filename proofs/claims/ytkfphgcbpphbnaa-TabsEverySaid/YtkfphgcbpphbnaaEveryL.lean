/-
  What TabsEvery does: it returns true, and writes nothing that was there.
-/
import Derived.Test.YtkfphgcbpphbnaaPlays
import Derived.Deep.DeepCutAuto
namespace Go.Proofs.Ytkfphgcbpphbnaa
open Go.RowKit Go.Maps Go.ChangeMaps Go.MapKept

/-- The stops behind Every: the multiples, in order. -/
theorem every_list (M : Nat) (hM : 0 < M) : ∀ N : Nat, listN N (everyF (M : Int)) = (List.range ((N - 1) / M)).map (fun i : Nat => ((i + 1) * M : Int))
  | 0 => by simp [listN]
  | N + 1 => by
    rw [listN_succ, every_list M hM N]
    by_cases h : everyF (M : Int) N = true
    · rw [if_pos h]
      unfold everyF at h
      simp only [Bool.and_eq_true, decide_eq_true_eq, beq_iff_eq] at h
      obtain ⟨⟨_, hN⟩, hm⟩ := h
      have hm' : N % M = 0 := by omega
      obtain ⟨q, rfl⟩ := Nat.dvd_of_mod_eq_zero hm'
      have hq : 0 < q := by
        rcases Nat.eq_zero_or_pos q with e | e
        · subst e; simp at hN
        · exact e
      obtain ⟨p, rfl⟩ : ∃ p, q = p + 1 := ⟨q - 1, by omega⟩
      have e1 : (M * (p + 1) + 1 - 1) / M = p + 1 := by rw [Nat.add_sub_cancel, Nat.mul_div_cancel_left _ hM]
      have e2 : (M * (p + 1) - 1) / M = p := by
        rw [show M * (p + 1) - 1 = (M - 1) + M * p by rw [Nat.mul_add]; omega, Nat.add_mul_div_left _ _ hM, Nat.div_eq_of_lt (by omega)]
        omega
      rw [e1, e2, List.range_succ, List.map_append]
      simp [Int.mul_comm]
    · rw [if_neg h, List.append_nil]
      have hd : (N + 1 - 1) / M = (N - 1) / M := by
        rcases Nat.eq_zero_or_pos N with e | e
        · subst e; simp
        · have hm : N % M ≠ 0 := fun e' => h (by unfold everyF; simp only [Bool.and_eq_true, decide_eq_true_eq, beq_iff_eq]; exact ⟨⟨by omega, e⟩, by omega⟩)
          have h1 := Nat.div_add_mod N M
          have h2 := Nat.mod_lt N hM
          rw [Nat.add_sub_cancel]
          refine Nat.div_eq_of_lt_le ?_ ?_ |>.symm
          · rw [Nat.mul_comm]; omega
          · rw [Nat.add_mul, Nat.mul_comm]; omega
      rw [hd]
theorem every_none (N : Nat) : listN N (everyF 0) = [] := by
  rw [everyF_zero]
  unfold listN
  simp

/-- Behind Every the k-th stop is the k-th multiple. -/
theorem every_kth {N : Nat} {n : Int} (hn : 0 ≤ n) {k : Nat} (hk : k < (listN N (everyF n)).length) : 0 < n ∧ (listN N (everyF n))[k]? = some (((k : Int) + 1) * n) ∧ ((k : Int) + 1) * n < N := by
  obtain ⟨M, rfl⟩ := Int.eq_ofNat_of_zero_le hn
  rcases Nat.eq_zero_or_pos M with e | e
  · subst e
    rw [show (((0 : Nat) : Int)) = 0 from rfl, every_none] at hk
    simp at hk
  · have hg : (listN N (everyF (M : Int)))[k]? = some (((k : Int) + 1) * (M : Int)) := by
      rw [every_list M e] at hk ⊢
      simp at hk
      simp [hk]
    refine ⟨by omega, hg, ?_⟩
    obtain ⟨c, hc, _, hx⟩ := mem_listN.1 (List.mem_of_getElem? hg)
    omega
theorem every_len {N : Nat} {n : Int} (hn : 0 < n) (hN : 1 ≤ N) : (((listN N (everyF n)).length : Nat) : Int) = ((N : Int) - 1) / n := by
  obtain ⟨M, rfl⟩ := Int.eq_ofNat_of_zero_le (Int.le_of_lt hn)
  rw [every_list M (by omega), List.length_map, List.length_range, show (N : Int) - 1 = ((N - 1 : Nat) : Int) by omega]
  rfl

/-- Those of the columns that are no stops. -/
def freshL (N : Nat) (f : Nat → Bool) (l : List Int) : List Int := l.filter (fun x => !decide (x ∈ listN N f))
theorem freshL_snoc (N : Nat) (f : Nat → Bool) (l : List Int) (x : Int) : freshL N f (l ++ [x]) = freshL N f l ++ (if x ∈ listN N f then [] else [x]) := by
  unfold freshL
  rw [List.filter_append]
  congr 1
  by_cases h : x ∈ listN N f <;> simp [h]
theorem freshL_len (N : Nat) (f : Nat → Bool) (l : List Int) : (freshL N f l).length ≤ l.length := List.length_filter_le _ _
/-- What was put, and taken away again, leaves all as it was. -/
theorem put_back {N : Nat} {f : Nat → Bool} {l : List Int} : ∀ c, c < N → putF (putF f true l) false (freshL N f l) c = f c := fun c hc => by
  have hm : (c : Int) ∈ freshL N f l ↔ (c : Int) ∈ l ∧ f c = false := by
    unfold freshL
    rw [List.mem_filter]
    simp only [Bool.not_eq_true', decide_eq_false_iff_not, mem_listN]
    constructor
    · rintro ⟨h1, h2⟩
      refine ⟨h1, ?_⟩
      cases hf : f c
      · rfl
      · exact absurd ⟨c, hc, hf, rfl⟩ h2
    · rintro ⟨h1, h2⟩
      refine ⟨h1, ?_⟩
      rintro ⟨d, _, h3, h4⟩
      obtain rfl : c = d := by omega
      rw [h2] at h3
      cases h3
  unfold putF
  by_cases h1 : (c : Int) ∈ freshL N f l
  · rw [if_pos h1]
    exact (hm.1 h1).2.symm
  · rw [if_neg h1]
    by_cases h2 : (c : Int) ∈ l
    · rw [if_pos h2]
      cases hf : f c
      · exact absurd (hm.2 ⟨h2, hf⟩) h1
      · rfl
    · rw [if_neg h2]
theorem fresh_ins {N : Nat} {f : Nat → Bool} {l : List Int} (h : Ins N l) : Ins N (freshL N f l) := fun x hx => h x (List.mem_filter.1 hx).1

set_option maxRecDepth 100000 in
set_option maxHeartbeats 16000000 in
theorem everyL_calls (c n : Int) (a : Option Addr) (cap : Nat) (l : List Int) (w : World) (hI : IntsIn w a l) (hl : l.length ≤ 9223372036854775807) (hn : -9223372036854775808 ≤ n ∧ n ≤ 9223372036854775807) :
    Calls Try.prog 7 #[.int .i64 c, .int .i64 n, .slice a l.length cap] w fun e w' => e = .returned (.bool true) ∧ Below w.heap.size w w' := by
  have HPO := Lib.hid (fun t m N f W h1 h2 h3 => put_ok t m N f true a cap l W h1 h2 hl h3)
  have HPB := Lib.hid (fun t m N f W h1 h2 h3 => put_bad t m N f true a cap l W h1 h2 hl h3)
  obtain ⟨nl, hnl⟩ : ∃ nl, nl = l.length := ⟨_, rfl⟩
  rw [← hnl] at HPO HPB hl ⊢
  have HN := Lib.hid hnl
  have HI := Lib.hid hI
  clear hnl hI
  by_cases hmay : 1 ≤ c ∧ c ≤ 255
  · obtain ⟨N, rfl⟩ := Int.eq_ofNat_of_zero_le (show 0 ≤ c by omega)
    have hN1 : 1 ≤ N := by omega
    have hN2 : N ≤ 255 := by omega
    have q1 : ¬ (N : Int) < 1 := by omega
    have q2 : ¬ 255 < (N : Int) := by omega
    clear hmay
    go_enter Try.func7, Try.ntmps7
    go_wp2_with fail
    refine (new_yes N _ hN1 hN2).mono ?_
    rintro e w1 ⟨t, m, rfl, ht, hm, hT1, hk1⟩
    by_cases hn0 : n < 0
    · go_wp2_with fail
      refine (awake_any _).mono ?_
      rintro e w4 ⟨rfl, hk4⟩
      go_wp2_with fail
      go_ret
      exact ⟨rfl, Kept0.below (hk1.trans hk4)⟩
    · by_cases h20 : 20 < nl
      · go_wp2_with fail
        refine (awake_any _).mono ?_
        rintro e w4 ⟨rfl, hk4⟩
        go_wp2_with fail
        go_ret
        exact ⟨rfl, Kept0.below (hk1.trans hk4)⟩
      · go_wp2_with fail
        have HE := Lib.hid (every_u t m N (fun _ => false) n w1 hT1)
        rw [show everyE n = 0 from if_neg (by omega), show everyU n (fun _ => false) = everyF n from if_neg (by omega)] at HE
        refine HE.out.mono ?_
        clear HE
        rintro e w2 ⟨rfl, hT2, hk2⟩
        have k2 : Kept0 w w2 := hk1.later hk2 (fun i hi e => by omega)
        clear hT1 hk1 hk2
        go_wp2_with fail
        refine (list_any t m N _ _ hT2).mono ?_
        rintro e w3 ⟨aw, capw, rfl, hW, _, k3⟩
        have hT3 := hT2.kept0 k3
        have hk3 := k2.trans k3
        obtain ⟨f, hf⟩ : ∃ f, f = everyF n := ⟨_, rfl⟩
        have HKT := Lib.hid (fun k hk => every_kth (N := N) (n := n) (by omega) (k := k) hk)
        have HLN := Lib.hid (fun h => every_len (N := N) (n := n) h hN1)
        rw [← hf] at hT3 hW HKT HLN ⊢
        have hL := listN_len N f
        obtain ⟨L, hLL⟩ : ∃ L, L = (listN N f).length := ⟨_, rfl⟩
        rw [← hLL] at hL HKT HLN ⊢
        have HLL := Lib.hid hLL
        have HT3 := Lib.hid hT3
        have HW := Lib.hid hW
        clear hf hLL hT2 k2 k3 hT3 hW
        go_wp2_with fail
        go_loopw [10] (fun i wr => ∃ k : Nat, k ≤ L ∧ i = .int .i64 (k : Int) ∧ w3 = wr) (fun i _ => L - (num i).toNat)
        case atStart => exact ⟨0, by omega, rfl, rfl⟩
        case round =>
        obtain ⟨k, hk, rfl, rfl⟩ := hrel
        by_cases hlt : k < L
        · obtain ⟨p1, p2, p3⟩ := HKT.out k hlt
          obtain ⟨bl, off, rfl, cell⟩ := HW.out k _ p2
          have v1 : 0 ≤ ((k : Int) + 1) * n := Int.mul_nonneg (by omega) (by omega)
          obtain ⟨s, hs⟩ : ∃ s, s = ((k : Int) + 1) * n := ⟨_, rfl⟩
          have v2 : IntKind.i64.wrap (((k : Int) + 1) * n) = s := by rw [← hs]; exact IntWalk.i64_in _ (by constructor <;> omega)
          have v3 : wrap64 (((k : Int) + 1) * n) = s := by rw [← hs]; exact w64 (by omega) (by omega)
          rw [← hs] at cell
          clear hs v1 p2 p3
          go_wp2_with fail
          go_roundw
          case rel => exact ⟨k + 1, by omega, by go_num, by trivial⟩
          case measure => simp [num]; omega
        clear HKT
        go_upto_region 12 with fail
        clear hlt hk
        go_cut [83] (fun s wx => s = .bool false ∧ w3 = wx)
        case first =>
          by_cases g1 : 0 < n
          · by_cases g2 : n < 1000
            · have hll := HLN.out g1
              have g3 : ¬ n = 0 := by omega
              go_wp2_with fail
              go_meet
              exact ⟨rfl, rfl⟩
            · go_wp2_with fail
              go_meet
              exact ⟨by first | rfl | simp, rfl⟩
          · go_wp2_with fail
            go_meet
            exact ⟨by first | rfl | simp, rfl⟩
        case rest =>
        obtain ⟨rfl, rfl⟩ := hcut
        clear HLN
        obtain ⟨i0, hi, hz0, hz1, hz2⟩ := info_parts info3
        have hb3 := hk3.size
        go_wp2_with fail
        go_loopw [11, 12] (fun s11 i wr => ∃ k : Nat, k ≤ nl ∧ i = .int .i64 (k : Int) ∧ (∀ x ∈ l.take k, 0 ≤ x ∧ x < (N : Int)) ∧ wr.ownsRow w3.heap.size 3 1 s11 (freshL N f (l.take k)).length ((freshL N f (l.take k)).map encZ) ∧ Kept0 w3 wr) (fun _ i _ => nl - (num i).toNat)
        case atStart => exact ⟨0, by omega, rfl, fun x hx => by simp at hx, World.ownsRow_nil _ _ _ _, Kept.refl _ _⟩
        case round =>
        obtain ⟨k, hk, rfl, hp, hown, kr⟩ := hrel
        by_cases hlt : k < nl
        · obtain ⟨x, hx⟩ : ∃ x, l[k]? = some x := ⟨_, List.getElem?_eq_getElem (by rw [← HN.out]; exact hlt)⟩
          obtain ⟨bl, off, ha, cell0⟩ := HI.out k x hx
          have cell := kcell (hk3.trans kr) cell0
          have htk : l.take (k + 1) = l.take k ++ [x] := by rw [List.take_add_one, hx]; rfl
          by_cases hin : 0 ≤ x ∧ x < (N : Int)
          · have HP : Hid (∀ y ∈ l.take (k + 1), 0 ≤ y ∧ y < (N : Int)) := fun y hy => by
              rw [htk, List.mem_append] at hy
              rcases hy with hy | hy
              · exact hp y hy
              · simp at hy; subst hy; exact hin
            have HFR := Lib.hid (freshL_snoc N f (l.take k) x)
            rw [← htk] at HFR
            have hfl : (freshL N f (l.take k)).length ≤ 20 := by
              have h1 := freshL_len N f (l.take k)
              rw [List.length_take] at h1
              omega
            have g1 : ¬ x < 0 := by omega
            have g2 : ¬ (N : Int) ≤ x := by omega
            have HC0 := Lib.hid cell0
            rw [ha]
            clear hp hin htk cell0 hx ha
            go_wp2_with fail
            go_loopw [13, 14] (fun s13 i wi => ∃ j : Nat, j ≤ L ∧ i = .int .i64 (j : Int) ∧ s13 = .bool (decide (x ∈ (listN N f).take j)) ∧ wi.ownsRow w3.heap.size 3 1 u11 (freshL N f (l.take k)).length ((freshL N f (l.take k)).map encZ) ∧ Kept0 w3 wi) (fun _ i _ => L - (num i).toNat)
            case atStart => exact ⟨0, by omega, rfl, by simp, hown, kr⟩
            case round =>
            clear hown kr cell
            obtain ⟨j, hj, rfl, rfl, hown, kr⟩ := hrel
            by_cases hjl : j < L
            · obtain ⟨y, hy⟩ : ∃ y, (listN N f)[j]? = some y := ⟨_, List.getElem?_eq_getElem (by rw [← HLL.out]; exact hjl)⟩
              obtain ⟨bl', off', ha', cellw0⟩ := HW.out j y hy
              have cellw := kcell kr cellw0
              have cell := kcell (hk3.trans kr) HC0.out
              have htk : (listN N f).take (j + 1) = (listN N f).take j ++ [y] := by rw [List.take_add_one, hy]; rfl
              have HD : Hid (decide (x ∈ (listN N f).take (j + 1)) = (decide (x ∈ (listN N f).take j) || y == x)) := by
                show decide (x ∈ (listN N f).take (j + 1)) = (decide (x ∈ (listN N f).take j) || y == x)
                rw [htk, Bool.eq_iff_iff, decide_eq_true_eq, Bool.or_eq_true, decide_eq_true_eq, beq_iff_eq, List.mem_append, List.mem_singleton]
                exact or_congr_right ⟨Eq.symm, Eq.symm⟩
              rw [ha']
              clear htk cellw0 hy ha'
              have HO := Lib.hid hown
              clear hown
              cases hd : decide (x ∈ (listN N f).take j) with
              | true =>
                rw [hd] at HD
                clear hd
                go_wp2_with fail
                go_quiet (fail)
                go_wp2
                go_roundw
                case rel => exact ⟨j + 1, by omega, by go_num, by rw [HD.out]; rfl, HO.out, kr.drewN _⟩
                case measure => simp [num]; omega
              | false =>
                rw [hd] at HD
                clear hd
                go_wp2_with fail
                go_quiet (fail)
                go_wp2
                go_roundw
                case rel => exact ⟨j + 1, by omega, by go_num, by rw [HD.out]; rfl, HO.out, kr.drewN _⟩
                case measure => simp [num]; omega
            · have htL : (listN N f).take j = listN N f := List.take_of_length_le (by have := HLL.out; omega)
              have hsz := kr.size
              rw [htL]
              clear htL
              by_cases hst : x ∈ listN N f
              · have hd : decide (x ∈ listN N f) = true := decide_eq_true hst
                have HO : Hid (wr.ownsRow w3.heap.size 3 1 u11 (freshL N f (l.take (k + 1))).length ((freshL N f (l.take (k + 1))).map encZ)) := by
                  rw [HFR.out, if_pos hst, List.append_nil]; exact hown
                rw [hd]
                clear hst hd hown
                go_wp2_with fail
                go_roundw
                case rel => exact ⟨k + 1, by omega, by go_num, HP.out, HO.out, kr⟩
                case measure => simp [num]; omega
              · have hd : decide (x ∈ listN N f) = false := decide_eq_false hst
                have HFR2 : Hid (freshL N f (l.take (k + 1)) = freshL N f (l.take k) ++ [x]) := by rw [HFR.out, if_neg hst]; exact Lib.hid rfl
                have cell := kcell (hk3.trans kr) HC0.out
                rw [hd]
                clear hst hd HFR
                go_wp2_with (at_builtin; refine wpList_append_own _ rfl _ _ 33 rfl w3.heap.size 3 i0 (.int .i64 0) 1 8 Try.underlying33 hi hz0 hz1 hz2 rfl (by decide) _ _ _ rfl (hown.alloc _) ⟨wr.heap.size, 0, none⟩ 1 1 [.int .i64 x] rfl rfl (cell_one_new _ _ _) (by simp [Value.oneCell']) (by unfold maxLen; omega) (by omega) (by simp; omega) ?_)
                intro v' w1 hown' hgrow _
                have hkw : Kept0 w3 w1 := (kr.alloc (.cells #[.int .i64 x] 3)).later (Kept.ofGrown hgrow) (fun i hi e => by have := (hown.lt _ e.symm).1; omega)
                have hown2 : w1.ownsRow w3.heap.size 3 1 v' (freshL N f (l.take (k + 1))).length ((freshL N f (l.take (k + 1))).map encZ) := by
                  rw [HFR2.out]
                  simpa using hown'
                obtain ⟨av, capv, rfl, _, _⟩ := ints_owned hown2
                have HO := Lib.hid hown2
                clear hown2 hown hown' hgrow cell
                go_wp2_with fail
                go_roundw
                case rel => exact ⟨k + 1, by omega, by go_num, HP.out, HO.out, hkw⟩
                case measure => simp [num]; omega
          · have HNI : Hid (¬ Ins N l) := fun hI => hin (hI x (List.mem_of_getElem? hx))
            have HT := Lib.hid (HT3.out.kept0 kr)
            have HIr := Lib.hid (HI.out.kept0 (hk3.trans kr))
            have HWr := Lib.hid (HW.out.kept0 kr)
            have HLS : Hid ((listN N f).length ≤ 9223372036854775807) := list_small hN2 f
            have hor : x < 0 ∨ (¬ x < 0 ∧ (N : Int) ≤ x) := by omega
            have HKR : Hid (Kept0 w wr) := hk3.trans kr
            have hLL := HLL.out
            rw [ha] at HPB HIr ⊢
            clear hp hin htk cell0 hx ha hown kr HI HPO HW
            rcases hor with g1 | ⟨g1, g2⟩
            all_goals
              go_wp2_with fail
              refine (HPB.out t m N f _ HT.out HIr.out HNI.out).mono ?_
              rintro e w4 ⟨rfl, k4⟩
              go_wp2_with fail
              refine (list_any t m N f _ (HT.out.kept0 k4)).mono ?_
              rintro e w5 ⟨a5, cap5, rfl, hI5, _, k5⟩
              go_wp2_with fail
              try rw [hLL]
              refine (ints_same _ _ _ _ _ _ hI5 (HWr.out.kept0 (k4.trans k5)) HLS.out).mono ?_
              rintro e w6 ⟨rfl, k6⟩
              go_wp2_with fail
              refine (awake_any _).mono ?_
              rintro e w7 ⟨rfl, k7⟩
              go_wp2_with fail
              go_ret
              exact ⟨rfl, Kept0.below ((((HKR.out.trans k4).trans k5).trans k6).trans k7)⟩
        · have htk : l.take k = l := List.take_of_length_le (by have := HN.out; omega)
          rw [htk] at hp hown
          obtain ⟨af, capf, rfl, hF, _⟩ := ints_owned hown
          have HINS : Hid (Ins N l) := hp
          have HT := Lib.hid (HT3.out.kept0 kr)
          have HIr := Lib.hid (HI.out.kept0 (hk3.trans kr))
          have HWr := Lib.hid (HW.out.kept0 kr)
          have HFr := Lib.hid hF
          have HLS : Hid ((listN N f).length ≤ 9223372036854775807) := list_small hN2 f
          have HFL : Hid ((freshL N f l).length ≤ 9223372036854775807) := by
            have h1 := freshL_len N f l
            have h2 := HN.out
            show (freshL N f l).length ≤ 9223372036854775807
            omega
          have HKR : Hid (Kept0 w wr) := hk3.trans kr
          have hLL := HLL.out
          clear hp hown kr HI HPB HW hF htk
          go_wp2_with fail
          refine (HPO.out t m N f _ HT.out HIr.out HINS.out).mono ?_
          rintro e w4 ⟨rfl, hT4, k4⟩
          have HFr4 := Lib.hid (HFr.out.keptM HT.out.set k4)
          have HWr4 := Lib.hid (HWr.out.keptM HT.out.set k4)
          have k04 : Kept0 w w4 := HKR.out.later k4 (fun i hi e => by omega)
          clear k4
          go_wp2_with fail
          refine (put_ok t m N _ false af capf (freshL N f l) _ hT4 HFr4.out HFL.out (fresh_ins HINS.out)).mono ?_
          rintro e w5 ⟨rfl, hT5, k5⟩
          have hT5' := hT5.congr put_back
          have HWr5 := Lib.hid (HWr4.out.keptM hT4.set k5)
          have k05 : Kept0 w w5 := k04.later k5 (fun i hi e => by omega)
          clear k5 hT4 hT5
          go_wp2_with fail
          refine (list_any t m N f _ hT5').mono ?_
          rintro e w6 ⟨a6, cap6, rfl, hI6, _, k6⟩
          go_wp2_with fail
          try rw [hLL]
          refine (ints_same _ _ _ _ _ _ hI6 (HWr5.out.kept0 k6) HLS.out).mono ?_
          rintro e w7 ⟨rfl, k7⟩
          go_wp2_with fail
          refine (awake_any _).mono ?_
          rintro e w8 ⟨rfl, k8⟩
          go_wp2_with fail
          go_ret
          exact ⟨rfl, Kept0.below (((k05.trans k6).trans k7).trans k8)⟩
  · go_enter Try.func7, Try.ntmps7
    go_wp2_with fail
    refine (new_no _ _ hmay).mono ?_
    rintro e w1 ⟨rfl, hk1⟩
    have hor : c < 1 ∨ (¬ c < 1 ∧ 255 < c) := by omega
    clear hmay
    rcases hor with q1 | ⟨q1, q2⟩
    all_goals
      go_wp2_with fail
      refine (awake_any _).mono ?_
      rintro e w4 ⟨rfl, hk4⟩
      go_wp2_with fail
      go_ret
      exact ⟨rfl, Kept0.below (hk1.trans hk4)⟩
end Go.Proofs.Ytkfphgcbpphbnaa
