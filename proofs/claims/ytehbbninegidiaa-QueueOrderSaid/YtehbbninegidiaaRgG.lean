/-
  The law's own small calls: Few and awake.
-/
import Derived.Test.YtehbbninegidiaaRgF
namespace Go.Proofs.Ytehbbninegidiaa
open Go.RowKit Go.Maps

/-- A call, as values. -/
structure OpV where
  ask : Int
  la : Option Addr
  lcap : Nat
  l : List ByteArray
  n : Int
/-- A call lies at a place. -/
structure OpAt (w : World) (b p : Nat) (o : OpV) : Prop where
  ask : w.cell? ⟨b, p, none⟩ = some (.int .i64 o.ask)
  l : w.cell? ⟨b, p + 1, none⟩ = some (.slice o.la o.l.length o.lcap)
  n : w.cell? ⟨b, p + 2, none⟩ = some (.int .i64 o.n)
theorem OpAt.kept0 {w w' : World} {b p : Nat} {o : OpV} (h : OpAt w b p o) (k : Kept0 w w') : OpAt w' b p o := ⟨kcell k h.ask, kcell k h.l, kcell k h.n⟩
/-- The calls that a slice leads to. -/
def OpsIn (w : World) (a : Option Addr) (l : List OpV) : Prop := ∀ (i : Nat) (o : OpV), l[i]? = some o → ∃ b off, a = some ⟨b, off, none⟩ ∧ OpAt w b (off + i * 3) o ∧ StrsIn w o.la o.l
theorem OpsIn.kept0 {w w' : World} {a : Option Addr} {l : List OpV} (h : OpsIn w a l) (k : Kept0 w w') : OpsIn w' a l := fun i o ho => by
  obtain ⟨b, off, ha, h1, h2⟩ := h i o ho
  exact ⟨b, off, ha, h1.kept0 k, h2.kept0 k⟩
/-- Numbers of 64 bits, and blocks that are there. -/
structure OpV.Ok (o : OpV) : Prop where
  n : -9223372036854775808 ≤ o.n ∧ o.n ≤ 9223372036854775807
  l : o.l.length ≤ 9223372036854775807
def OpsOk (l : List OpV) : Prop := ∀ (i : Nat) (o : OpV), l[i]? = some o → o.Ok
/-- How many bytes all calls' texts have. -/
def total (l : List OpV) : Nat := (l.map fun o => sizes o.l).sum
theorem total_step {l : List OpV} {k : Nat} {o : OpV} (h : l[k]? = some o) : total (l.take (k + 1)) = total (l.take k) + sizes o.l := by
  rw [List.take_add_one, h]
  simp [total]
theorem total_take_le (l : List OpV) (k : Nat) : total (l.take k) ≤ total l := by
  induction l generalizing k with
  | nil => simp
  | cons s l ih =>
    cases k with
    | zero => simp [total]
    | succ k =>
      have := ih k
      simp only [total, List.take_succ_cons, List.map_cons, List.sum_cons] at this ⊢
      omega
theorem total_mem {l : List OpV} {k : Nat} {o : OpV} (h : l[k]? = some o) : sizes o.l ≤ total l := by
  have h1 := total_step h
  have h2 := total_take_le l (k + 1)
  omega
def fewB (l : List OpV) : Bool := (l.all fun o => decide (o.l.length ≤ 20)) && decide (l.length ≤ 60) && decide (total l ≤ 20000)
theorem fewB_big {l : List OpV} {k : Nat} {o : OpV} (ho : l[k]? = some o) (h : ¬ o.l.length ≤ 20) : fewB l = false := by
  unfold fewB
  have : (l.all fun o => decide (o.l.length ≤ 20)) = false := by
    rw [List.all_eq_false]
    exact ⟨o, List.mem_of_getElem? ho, by simp; omega⟩
  rw [this]
  rfl
theorem fewB_long {l : List OpV} (h : ¬ l.length ≤ 60) : fewB l = false := by
  unfold fewB
  rw [decide_eq_false h]
  simp
theorem fewB_of {l : List OpV} (hn : l.length ≤ 60) (h : ∀ (j : Nat) (o : OpV), l[j]? = some o → o.l.length ≤ 20) : fewB l = decide (total l ≤ 20000) := by
  unfold fewB
  have : (l.all fun o => decide (o.l.length ≤ 20)) = true := by
    rw [List.all_eq_true]
    intro o ho
    obtain ⟨i, hi, rfl⟩ := List.getElem_of_mem ho
    rw [decide_eq_true_eq]
    exact h i l[i] (List.getElem?_eq_getElem hi)
  rw [this, decide_eq_true hn]
  rfl
theorem few_parts {l : List OpV} (h : fewB l = true) : l.length ≤ 60 ∧ total l ≤ 20000 ∧ ∀ (j : Nat) (o : OpV), l[j]? = some o → o.l.length ≤ 20 ∧ sizes o.l ≤ 20000 := by
  unfold fewB at h
  rw [Bool.and_eq_true, Bool.and_eq_true, List.all_eq_true, decide_eq_true_eq, decide_eq_true_eq] at h
  refine ⟨h.1.2, h.2, fun j o ho => ⟨?_, ?_⟩⟩
  · have := h.1.1 o (List.mem_of_getElem? ho)
    simpa using this
  · have := total_mem ho
    omega
theorem sizes_le {w : World} {a : Option Addr} {l : List ByteArray} (h : StrsIn w a l) (k : Nat) : sizes (l.take k) ≤ k * 140737488351232 := by
  obtain ⟨M, hM⟩ : ∃ M, M = 140737488351232 := ⟨_, rfl⟩
  have h : ∀ (k : Nat) (s : ByteArray), l[k]? = some s → s.size ≤ M := fun k s hs => by
    obtain ⟨_, _, _, _, hz⟩ := h k s hs
    rw [hM]
    exact hz
  rw [← hM]
  clear hM
  induction k with
  | zero => simp [sizes]
  | succ k ih =>
    cases hs : l[k]? with
    | none =>
      have : l.take (k + 1) = l.take k := by
        have := List.getElem?_eq_none_iff.1 hs
        rw [List.take_of_length_le (by omega), List.take_of_length_le this]
      rw [this]
      exact Nat.le_trans ih (Nat.mul_le_mul_right _ (by omega))
    | some s =>
      have hz := h k s hs
      rw [sizes_step hs, Nat.add_mul, Nat.one_mul]
      omega
set_option maxHeartbeats 4000000 in
theorem few_short (a : Option Addr) (cap : Nat) (l : List OpV) (w : World) (hl : OpsIn w a l) (hok : OpsOk l) (hn : l.length ≤ 60) :
    Calls Try.prog 11 #[.slice a l.length cap] w fun e w' => e = .returned (.bool (fewB l)) ∧ w' = w := by
  obtain ⟨n, hnl⟩ : ∃ n, n = l.length := ⟨_, rfl⟩
  rw [← hnl] at hn ⊢
  have HN := Lib.hid hnl
  clear hnl
  go_enter Try.func11, Try.ntmps11
  go_wp2
  go_loopw [3, 4] (fun s i wr => ∃ k : Nat, k ≤ n ∧ i = .int .i64 (k : Int) ∧ s = .int .i64 (total (l.take k) : Int) ∧ total (l.take k) ≤ k * 2814749767024640 ∧ (∀ j o, j < k → l[j]? = some o → o.l.length ≤ 20) ∧ w = wr) (fun _ i _ => n - (num i).toNat)
  case atStart => exact ⟨0, by omega, rfl, rfl, by simp [total], fun j o hj => by omega, rfl⟩
  case round =>
    obtain ⟨k, hk, rfl, rfl, hT, hp, rfl⟩ := hrel
    by_cases hlt : k < n
    · obtain ⟨o, ho⟩ : ∃ o, l[k]? = some o := ⟨_, List.getElem?_eq_getElem (by rw [← HN.out]; exact hlt)⟩
      obtain ⟨b, off, rfl, hO, hS⟩ := hl k o ho
      have c1 := hO.l
      have hol := (hok k o ho).l
      have HP : Hid (o.l.length ≤ 20 → ∀ j o, j < k + 1 → l[j]? = some o → o.l.length ≤ 20) := fun hb j o' hj ho' => by
        by_cases e : j = k
        · subst e
          rw [ho] at ho'
          cases ho'
          exact hb
        · exact hp j o' (by omega) ho'
      have HO := Lib.hid ho
      clear ho hp hO
      obtain ⟨ol, hol'⟩ : ∃ ol, ol = o.l.length := ⟨_, rfl⟩
      rw [← hol'] at c1 hol
      have HOL := Lib.hid hol'
      clear hol'
      obtain ⟨A, hA⟩ : ∃ A, A = total (l.take k) := ⟨_, rfl⟩
      rw [← hA] at hT ⊢
      have HA := Lib.hid hA
      clear hA
      by_cases h20 : ol ≤ 20
      · have hA9 : A ≤ 168884986021478400 := by
          have : k * 2814749767024640 ≤ 60 * 2814749767024640 := Nat.mul_le_mul_right _ (by omega)
          omega
        go_wp2_with fail
        go_loopw [3, 5] (fun s i wr => ∃ j : Nat, j ≤ ol ∧ i = .int .i64 (j : Int) ∧ s = .int .i64 ((A + sizes (o.l.take j) : Nat) : Int) ∧ w = wr) (fun _ i _ => ol - (num i).toNat)
        case atStart => exact ⟨0, by omega, rfl, by simp [sizes], rfl⟩
        case round =>
          obtain ⟨j, hj, rfl, rfl, rfl⟩ := hrel
          by_cases hjl : j < ol
          · obtain ⟨s, hs⟩ : ∃ s, o.l[j]? = some s := ⟨_, List.getElem?_eq_getElem (by rw [← HOL.out]; exact hjl)⟩
            obtain ⟨b2, off2, ha2, hc, hz⟩ := hS j s hs
            have h1 := sizes_step hs
            have h2 := sizes_le hS (j + 1)
            rw [ha2] at c1
            obtain ⟨B, hB⟩ : ∃ B, B = A + sizes (o.l.take j) := ⟨_, rfl⟩
            have HB : Hid (((B : Int) + (s.size : Int)) = ((A + sizes (o.l.take (j + 1)) : Nat) : Int)) := by unfold Hid; omega
            have h3 : (B : Int) + (s.size : Int) ≤ 9223372036854775807 := by omega
            rw [← hB]
            clear h1 h2 hB hs ha2
            go_wp2_with fail
            go_roundw
            case rel => exact ⟨j + 1, by omega, by go_num, by rw [← HB.out], by trivial⟩
            case measure => simp [num]; omega
          · obtain rfl : j = ol := by omega
            have h2 := sizes_le hS j
            have ht : o.l.take j = o.l := by rw [HOL.out, List.take_length]
            rw [ht] at h2 ⊢
            have h3 := total_step HO.out
            rw [← HA.out] at h3
            have HB : Hid (total (l.take (k + 1)) ≤ (k + 1) * 2814749767024640) := by
              unfold Hid
              rw [h3]
              have : j * 140737488351232 ≤ 20 * 140737488351232 := Nat.mul_le_mul_right _ h20
              omega
            rw [← h3]
            clear h2 ht h3 hT
            go_wp2_with fail
            go_roundw
            case rel => exact ⟨k + 1, by omega, by go_num, rfl, HB.out, HP.out (by rw [← HOL.out]; exact h20), by trivial⟩
            case measure => simp [num]; omega
      · go_wp2_with fail
        go_ret
        exact ⟨ret_bool (fewB_big HO.out (by rw [← HOL.out]; exact h20)).symm, rfl⟩
    · obtain rfl : k = n := by omega
      have ht : l.take k = l := by rw [HN.out, List.take_length]
      rw [ht]
      have HF : Hid (fewB l = decide (total l ≤ 20000)) := fewB_of (by rw [← HN.out]; exact hn) (fun j o ho => hp j o (by have := (List.getElem?_eq_some_iff.1 ho).1; have := HN.out; omega) ho)
      obtain ⟨T, hT'⟩ : ∃ T, T = total l := ⟨_, rfl⟩
      rw [← hT'] at HF ⊢
      clear hp hT hT' ht
      have hd : decide (T ≤ 20000) = decide ((T : Int) ≤ 20000) := by
        by_cases h2 : T ≤ 20000
        · rw [decide_eq_true h2, decide_eq_true (by omega)]
        · rw [decide_eq_false h2, decide_eq_false (by omega)]
      rw [hd] at HF
      clear hd
      go_wp2_with fail
      go_ret
      exact ⟨ret_bool HF.out.symm, rfl⟩
set_option maxHeartbeats 4000000 in
theorem few_long (a : Option Addr) (cap : Nat) (l : List OpV) (w : World) (hl : OpsIn w a l) (hok : OpsOk l) (hn : ¬ l.length ≤ 60) (hn2 : l.length ≤ 9223372036854775807) :
    Calls Try.prog 11 #[.slice a l.length cap] w fun e w' => e = .returned (.bool (fewB l)) ∧ w' = w := by
  have HF := fewB_long hn
  rw [HF]
  clear HF
  obtain ⟨n, hnl⟩ : ∃ n, n = l.length := ⟨_, rfl⟩
  rw [← hnl] at hn hn2 ⊢
  have HN := Lib.hid hnl
  clear hnl
  go_enter Try.func11, Try.ntmps11
  go_wp2
  go_loopw [3, 4] (fun s i wr => ∃ (k : Nat) (m : Int), k ≤ n ∧ i = .int .i64 (k : Int) ∧ s = .int .i64 m ∧ w = wr) (fun _ i _ => n - (num i).toNat)
  case atStart => exact ⟨0, 0, by omega, rfl, rfl, rfl⟩
  case round =>
    obtain ⟨k, m, hk, rfl, rfl, rfl⟩ := hrel
    by_cases hlt : k < n
    · obtain ⟨o, ho⟩ : ∃ o, l[k]? = some o := ⟨_, List.getElem?_eq_getElem (by rw [← HN.out]; exact hlt)⟩
      obtain ⟨b, off, rfl, hO, hS⟩ := hl k o ho
      have c1 := hO.l
      have hol := (hok k o ho).l
      clear ho hO
      obtain ⟨ol, hol'⟩ : ∃ ol, ol = o.l.length := ⟨_, rfl⟩
      rw [← hol'] at c1 hol
      have HOL := Lib.hid hol'
      clear hol'
      by_cases h20 : ol ≤ 20
      · go_wp2_with fail
        go_loopw [3, 5] (fun s i wr => ∃ (j : Nat) (m : Int), j ≤ ol ∧ i = .int .i64 (j : Int) ∧ s = .int .i64 m ∧ w = wr) (fun _ i _ => ol - (num i).toNat)
        case atStart => exact ⟨0, m, by omega, rfl, rfl, rfl⟩
        case round =>
          obtain ⟨j, m, hj, rfl, rfl, rfl⟩ := hrel
          by_cases hjl : j < ol
          · obtain ⟨s, hs⟩ : ∃ s, o.l[j]? = some s := ⟨_, List.getElem?_eq_getElem (by rw [← HOL.out]; exact hjl)⟩
            obtain ⟨b2, off2, ha2, hc, hz⟩ := hS j s hs
            rw [ha2] at c1
            clear hs ha2 hz
            go_wp2_with fail
            go_roundw
            case rel => exact ⟨j + 1, _, by omega, by go_num, rfl, by trivial⟩
            case measure => simp [num]; omega
          · obtain rfl : j = ol := by omega
            go_wp2_with fail
            go_roundw
            case rel => exact ⟨k + 1, _, by omega, by go_num, rfl, by trivial⟩
            case measure => simp [num]; omega
      · go_wp2_with fail
        go_ret
        exact ⟨rfl, rfl⟩
    · obtain rfl : k = n := by omega
      have d : ¬ (k : Int) ≤ 60 := by omega
      go_wp2_with fail
      go_ret
      exact ⟨rfl, rfl⟩
theorem few_any (a : Option Addr) (cap : Nat) (l : List OpV) (w : World) (hl : OpsIn w a l) (hok : OpsOk l) (hn : l.length ≤ 9223372036854775807) :
    Calls Try.prog 11 #[.slice a l.length cap] w fun e w' => e = .returned (.bool (fewB l)) ∧ w' = w := by
  by_cases h : l.length ≤ 60
  · exact few_short a cap l w hl hok h
  · exact few_long a cap l w hl hok h hn

theorem strs_one (w : World) (s : ByteArray) (hs : s.size ≤ 140737488351232) : StrsIn (w.alloc (.cells #[.string s] 9)) (some ⟨w.heap.size, 0, none⟩) [s] := by
  intro i t ht
  have hi : i = 0 := by have := (List.getElem?_eq_some_iff.1 ht).1; simpa using this
  subst hi
  simp at ht
  subst ht
  exact ⟨_, _, rfl, by simp [go_sem], hs⟩
section
variable {w : World} {b g most : Nat} {xs : List UInt8} {over : Bool}
theorem sizes_one (s : ByteArray) : sizes [s] = s.size := by simp [sizes]
theorem bytes_one (s : ByteArray) : bytesOf [s] = s.data.toList := by simp [bytesOf]
theorem off_new (s : ByteArray) (h : Qf w b g most xs over) : Off (some ⟨w.heap.size, 0, none⟩) [s] (fun i => i = b ∨ i = g) := fun _ p hp => by
  cases hp
  have h1 := h.lt
  have h2 := h.ltg
  simp only
  omega
/-- One text is pushed. -/
theorem push_one_yes (s : ByteArray) (h : Qf w b g most xs over) (hs : s.size ≤ 140737488351232) (hf : xs.length + s.size ≤ most) :
    Calls Try.prog 15 #[ptr b, .slice (some ⟨w.heap.size, 0, none⟩) 1 1] (w.alloc (.cells #[.string s] 9)) fun e w' => e = .returned (.bool true) ∧ Qf w' b g most (xs ++ s.data.toList) over ∧ Kept (fun i => i = b ∨ i = g) w w' := by
  have hp := push_yes (w := w.alloc (.cells #[.string s] 9)) (some ⟨w.heap.size, 0, none⟩) 1 [s] (h.kept0 ((Kept.refl _ w).alloc _)) (strs_one w s hs) (off_new s h) (by simp) (by rw [sizes_one]; exact hf)
  rw [bytes_one] at hp
  refine hp.mono ?_
  rintro e w' ⟨rfl, h1, h2⟩
  exact ⟨rfl, h1, ((Kept.refl _ w).alloc _).trans h2⟩
theorem push_one_no (s : ByteArray) (h : Qf w b g most xs over) (hs : s.size ≤ 140737488351232) (hf : ¬ xs.length + s.size ≤ most) :
    Calls Try.prog 15 #[ptr b, .slice (some ⟨w.heap.size, 0, none⟩) 1 1] (w.alloc (.cells #[.string s] 9)) fun e w' => e = .returned (.bool false) ∧ Qf w' b g most xs true ∧ Kept (fun i => i = b ∨ i = g) w w' := by
  have hp := push_no (w := w.alloc (.cells #[.string s] 9)) (some ⟨w.heap.size, 0, none⟩) 1 [s] (h.kept0 ((Kept.refl _ w).alloc _)) (strs_one w s hs) (by simp) (by rw [sizes_one]; exact hf)
  refine hp.mono ?_
  rintro e w' ⟨rfl, h1, h2⟩
  exact ⟨rfl, h1, ((Kept.refl _ w).alloc _).trans (h2.mono (fun _ _ e => Or.inl e))⟩
end
set_option maxRecDepth 100000 in
set_option maxHeartbeats 4000000 in
theorem awake_any (w : World) : Calls Try.prog 10 #[] w fun e w' => e = .returned (.bool true) ∧ Kept0 w w' := by
  have N3 : Hid (∀ w : World, Calls Try.prog 9 #[.int .i64 3] w fun e w' => ∃ b g, e = .returned (.tuple #[ptr b, .int .i64 0]) ∧ Qf w' b g 3 [] false ∧ w.heap.size ≤ b ∧ w.heap.size ≤ g ∧ Kept0 w w') := fun w => new_yes 3 w (by omega)
  have P1 : Hid (∀ (w : World) b g, Qf w b g 3 [] false → Calls Try.prog 15 #[ptr b, .slice (some ⟨w.heap.size, 0, none⟩) 1 1] (w.alloc (.cells #[.string ⟨#[97, 98]⟩] 9)) fun e w' => e = .returned (.bool true) ∧ Qf w' b g 3 [97, 98] false ∧ Kept (fun i => i = b ∨ i = g) w w') :=
    fun w b g h => push_one_yes ⟨#[97, 98]⟩ h (by decide) (by decide)
  have P2 : Hid (∀ (w : World) b g, Qf w b g 3 [97, 98] false → Calls Try.prog 15 #[ptr b, .slice (some ⟨w.heap.size, 0, none⟩) 1 1] (w.alloc (.cells #[.string ⟨#[99, 100]⟩] 9)) fun e w' => e = .returned (.bool false) ∧ Qf w' b g 3 [97, 98] true ∧ Kept (fun i => i = b ∨ i = g) w w') :=
    fun w b g h => push_one_no ⟨#[99, 100]⟩ h (by decide) (by decide)
  have P3 : Hid (∀ (w : World) b g, Qf w b g 3 [98] true → Calls Try.prog 15 #[ptr b, .slice (some ⟨w.heap.size, 0, none⟩) 1 1] (w.alloc (.cells #[.string ⟨#[99, 100]⟩] 9)) fun e w' => e = .returned (.bool true) ∧ Qf w' b g 3 [98, 99, 100] true ∧ Kept (fun i => i = b ∨ i = g) w w') :=
    fun w b g h => push_one_yes ⟨#[99, 100]⟩ h (by decide) (by decide)
  have S1 : Hid (∀ (w : World) b g, Qf w b g 3 [97, 98] true → Calls Try.prog 17 #[ptr b, .int .i64 1] w fun e w' => e = .returned (.string ⟨#[97]⟩) ∧ Qf w' b g 3 [98] true ∧ Kept (fun i => i = b ∨ i = g) w w') :=
    fun w b g h => some_any 1 h
  have D1 : Hid (∀ (w : World) b g, Qf w b g 3 [98, 99, 100] true → Calls Try.prog 16 #[ptr b] w fun e w' => e = .returned (.string ⟨#[98, 99, 100]⟩) ∧ Qf w' b g 3 [] false ∧ Kept (fun i => i = b ∨ i = g) w w') :=
    fun w b g h => drain_any h
  have O1 : Hid (∀ (w : World) b g, Qf w b g 3 [97, 98] true → Calls Try.prog 14 #[ptr b] w fun e w' => e = .returned (.bool true) ∧ w' = w) := fun w b g h => over_any h
  go_enter Try.func10, Try.ntmps10
  go_wp2_with fail
  refine (N3.out _).mono ?_
  rintro e w1 ⟨b, g, rfl, hq, hb, hg, k1⟩
  have HQ := Lib.hid hq
  have HK := Lib.hid k1
  clear hq k1
  go_wp2_with fail
  refine (P1.out _ _ _ HQ.out).mono ?_
  rintro e w2 ⟨rfl, hq, k1⟩
  replace HQ := Lib.hid hq
  replace HK := Lib.hid (HK.out.later k1 (fun i hi e => by omega))
  clear hq k1
  go_wp2_with fail
  refine (P2.out _ _ _ HQ.out).mono ?_
  rintro e w3 ⟨rfl, hq, k1⟩
  replace HQ := Lib.hid hq
  replace HK := Lib.hid (HK.out.later k1 (fun i hi e => by omega))
  clear hq k1
  go_wp2_with fail
  refine (O1.out _ _ _ HQ.out).mono ?_
  rintro e w4 ⟨rfl, rfl⟩
  go_wp2_with fail
  refine (S1.out _ _ _ HQ.out).mono ?_
  rintro e w5 ⟨rfl, hq, k1⟩
  replace HQ := Lib.hid hq
  replace HK := Lib.hid (HK.out.later k1 (fun i hi e => by omega))
  clear hq k1
  go_wp2_with fail
  refine (P3.out _ _ _ HQ.out).mono ?_
  rintro e w6 ⟨rfl, hq, k1⟩
  replace HQ := Lib.hid hq
  replace HK := Lib.hid (HK.out.later k1 (fun i hi e => by omega))
  clear hq k1
  go_wp2_with fail
  refine (D1.out _ _ _ HQ.out).mono ?_
  rintro e w7 ⟨rfl, hq, k1⟩
  replace HK := Lib.hid (HK.out.later k1 (fun i hi e => by omega))
  clear hq k1
  go_wp2_with fail
  go_ret
  exact ⟨rfl, HK.out⟩
end Go.Proofs.Ytehbbninegidiaa
