/-
  The document's answer: New, Put, Every and Resize.
-/
import Derived.Test.YtkfphgcbpphbnaaRefA
import Derived.BigRegion
import Derived.Deep.OwnRows
namespace Go.Proofs.Ytkfphgcbpphbnaa
open Go.RowKit Go.Maps Go.ChangeMaps Go.MapKept

theorem info3 : (Try.prog.info? 3).map (fun i => (i.zero, i.size, i.bytes)) = some (some (.int .i64 0), 1, 8) := by kernel_rfl
theorem info4 : (Try.prog.info? 4).map (fun i => (i.zero, i.size, i.bytes)) = some (some (.bool false), 1, 1) := by kernel_rfl

set_option maxHeartbeats 1000000 in
theorem refNew_any (N : Nat) (w : World) (h1 : 1 ≤ N) (h2 : N ≤ 255) :
    Calls Try.prog 11 #[.int .i64 (N : Int)] w fun e w' => ∃ r b, e = .returned (.pointer (some ⟨r, 0, none⟩)) ∧ w.heap.size ≤ r ∧ w.heap.size ≤ b ∧ RefAt w' r b N (fun _ => false) ∧ Kept0 w w' := by
  have hmk := run_make_row' (P := Try.prog) 39 4 (.bool false) 1 Try.underlying39 info4 rfl .i64 .i64 N (by omega) (by omega)
  go_enter Try.func11, Try.ntmps11
  go_wp2_with fail
  go_ret
  obtain ⟨c, q1, _, q3⟩ := World.rowIs_made w (.bool false) N 4
  refine ⟨w.heap.size + 1, w.heap.size, rfl, by omega, by omega, ⟨heap_new2 _ _ _, ⟨c, heap_old _ _ q1, q3⟩, h1, h2⟩, ((Kept.refl _ w).alloc _).alloc _⟩

set_option maxHeartbeats 1000000 in
theorem refPut_bad (r b N : Nat) (f : Nat → Bool) (on : Bool) (a : Option Addr) (cap : Nat) (l : List Int) (w : World) (h : RefAt w r b N f) (hl : IntsIn w a l) (hn : l.length ≤ 9223372036854775807) (hb : ¬ Ins N l) :
    Calls Try.prog 25 #[.pointer (some ⟨r, 0, none⟩), .bool on, .slice a l.length cap] w fun e w' => e = .returned (.int .i64 11) ∧ Kept0 w w' := by
  obtain ⟨n, hnl⟩ : ∃ n, n = l.length := ⟨_, rfl⟩
  rw [← hnl] at hn ⊢
  have HN := Lib.hid hnl
  have HB := Lib.hid hb
  clear hnl hb
  go_enter Try.func25, Try.ntmps25
  go_wp2_with fail
  go_loopw [7] (fun i wr => ∃ k : Nat, k ≤ n ∧ i = .int .i64 (k : Int) ∧ (∀ j x, j < k → l[j]? = some x → 0 ≤ x ∧ x < (N : Int)) ∧ w = wr) (fun i _ => n - (num i).toNat)
  case atStart => exact ⟨0, by omega, rfl, fun j x hj => by omega, rfl⟩
  case round =>
    obtain ⟨k, hk, rfl, hp, rfl⟩ := hrel
    by_cases hlt : k < n
    · obtain ⟨x, hx⟩ : ∃ x, l[k]? = some x := ⟨_, List.getElem?_eq_getElem (by rw [← HN.out]; exact hlt)⟩
      obtain ⟨b', off, rfl, hc⟩ := hl k x hx
      have HP : Hid (0 ≤ x ∧ x < (N : Int) → ∀ j y, j < k + 1 → l[j]? = some y → 0 ≤ y ∧ y < (N : Int)) := fun hi j y hj hy => by
        by_cases e : j = k
        · subst e; rw [hx] at hy; cases hy; exact hi
        · exact hp j y (by omega) hy
      clear hp hx
      by_cases hi : 0 ≤ x ∧ x < (N : Int)
      · have HD : Hid (decide (0 ≤ x ∧ x < (N : Int)) = true) := decide_eq_true hi
        have HI := Lib.hid hi
        clear hi
        go_wp2_with fail
        refine (refThere_any r b N f _ _ h).mono ?_
        rw [HD.out]
        rintro e w1 ⟨rfl, rfl⟩
        go_wp2_with fail
        go_roundw
        case rel => exact ⟨k + 1, by omega, by go_num, HP.out HI.out, by trivial⟩
        case measure => simp [num]; omega
      · have HD : Hid (decide (0 ≤ x ∧ x < (N : Int)) = false) := decide_eq_false hi
        clear hi
        go_wp2_with fail
        refine (refThere_any r b N f _ _ h).mono ?_
        rw [HD.out]
        rintro e w1 ⟨rfl, rfl⟩
        go_wp2_with fail
        go_ret
        exact ⟨rfl, Kept.refl _ _⟩
    · exact absurd (fun x hx => by
        obtain ⟨i, hi, rfl⟩ := List.getElem_of_mem hx
        exact hp i _ (by have := HN.out; omega) (List.getElem?_eq_getElem hi)) HB.out

set_option maxHeartbeats 2000000 in
theorem refPut_ok (r b N : Nat) (f : Nat → Bool) (on : Bool) (a : Option Addr) (cap : Nat) (l : List Int) (w : World) (h : RefAt w r b N f) (hl : IntsIn w a l) (hab : ∀ (k : Nat) (x : Int), l[k]? = some x → ∀ bl off, a = some ⟨bl, off, none⟩ → bl ≠ b) (hn : l.length ≤ 9223372036854775807) (hb : Ins N l) :
    Calls Try.prog 25 #[.pointer (some ⟨r, 0, none⟩), .bool on, .slice a l.length cap] w fun e w' => e = .returned (.int .i64 0) ∧ RefAt w' r b N (putF f on l) ∧ Kept (· = b) w w' := by
  obtain ⟨n, hnl⟩ : ∃ n, n = l.length := ⟨_, rfl⟩
  rw [← hnl] at hn ⊢
  have HN := Lib.hid hnl
  have HB := Lib.hid hb
  clear hnl hb
  go_enter Try.func25, Try.ntmps25
  go_wp2_with fail
  go_loopw [7] (fun i wr => ∃ k : Nat, k ≤ n ∧ i = .int .i64 (k : Int) ∧ w = wr) (fun i _ => n - (num i).toNat)
  case atStart => exact ⟨0, by omega, rfl, rfl⟩
  case round =>
    obtain ⟨k, hk, rfl, rfl⟩ := hrel
    by_cases hlt : k < n
    · obtain ⟨x, hx⟩ : ∃ x, l[k]? = some x := ⟨_, List.getElem?_eq_getElem (by rw [← HN.out]; exact hlt)⟩
      obtain ⟨b', off, rfl, hc⟩ := hl k x hx
      have HD : Hid (decide (0 ≤ x ∧ x < (N : Int)) = true) := decide_eq_true (HB.out x (List.mem_of_getElem? hx))
      clear hx
      go_wp2_with fail
      refine (refThere_any r b N f _ _ h).mono ?_
      rw [HD.out]
      rintro e w1 ⟨rfl, rfl⟩
      go_wp2_with fail
      go_roundw
      case rel => exact ⟨k + 1, by omega, by go_num, by trivial⟩
      case measure => simp [num]; omega
    · go_wp2_with fail
      clear hk hlt
      go_loopw [8] (fun i wr => ∃ k : Nat, k ≤ n ∧ i = .int .i64 (k : Int) ∧ RefAt wr r b N (putF f on (l.take k)) ∧ Kept (· = b) w wr) (fun i _ => n - (num i).toNat)
      case atStart => exact ⟨0, by omega, rfl, by rw [List.take_zero, putF_nil]; exact h, Kept.refl _ _⟩
      case round =>
        obtain ⟨k, hk, rfl, hT, hkr⟩ := hrel
        by_cases hlt : k < n
        · obtain ⟨x, hx⟩ : ∃ x, l[k]? = some x := ⟨_, List.getElem?_eq_getElem (by rw [← HN.out]; exact hlt)⟩
          obtain ⟨b', off, ha, hc0⟩ := hl k x hx
          have hbb : ¬ b' = b := hab k x hx b' off ha
          have hc := (hkr.cell (World.block_lt_of_cell? w _ hc0) hbb).trans hc0
          subst ha
          clear hc0
          have hbb2 : ¬ b = b' := fun e => hbb e.symm
          have hi := HB.out x (List.mem_of_getElem? hx)
          obtain ⟨y, rfl⟩ := Int.eq_ofNat_of_zero_le hi.1
          have hy : y < N := by omega
          have HS : Hid (putF f on (l.take (k + 1)) = upd (putF f on (l.take k)) y on) := by
            rw [List.take_add_one, hx]
            exact putF_snoc f on (l.take k) y
          have c0 := hT.c0
          have cb := hT.cell hy
          have fb := hT.frozen y
          have m1 : ¬ r = b := hT.ne
          have m2 : ¬ b = r := fun e => hT.ne e.symm
          have HT := Lib.hid hT
          clear hi hx hT hab
          go_wp2_with fail
          go_region
          all_goals
            go_wp2_with fail
            go_roundw
            case rel => exact ⟨k + 1, by omega, by go_num, by rw [HS.out]; exact (HT.out.set y on).kept0 ((Kept.refl _ _).drew), (hkr.trans (Kept.set1 wr b y (.bool on))).drew⟩
            case measure => simp [num]; omega
        · have hT' : RefAt wr r b N (putF f on l) := by
            rw [List.take_of_length_le (by have := HN.out; omega)] at hT
            exact hT
          go_wp2_with fail
          go_ret
          exact ⟨rfl, hT', hkr⟩

set_option maxHeartbeats 1000000 in
theorem refEvery_bad (r : Nat) (n : Int) (w : World) (hn : n < 0) :
    Calls Try.prog 26 #[.pointer (some ⟨r, 0, none⟩), .int .i64 n] w fun e w' => e = .returned (.int .i64 1) ∧ Kept0 w w' := by
  go_enter Try.func26, Try.ntmps26
  go_wp2_with fail
  go_ret
  exact ⟨rfl, Kept.refl _ _⟩

/-- The first k columns are as another one says. -/
def mixF (g f : Nat → Bool) (k : Nat) : Nat → Bool := fun c => if c < k then g c else f c
theorem mixF_zero (g f : Nat → Bool) : mixF g f 0 = f := by funext c; simp [mixF]
theorem mixF_step (g f : Nat → Bool) (k : Nat) : mixF g f (k + 1) = upd (mixF g f k) k (g k) := by
  funext c
  unfold mixF upd
  by_cases h : c = k
  · subst h; simp
  · by_cases h2 : c < k
    · simp [h, h2, show c < k + 1 by omega]
    · simp [h, h2, show ¬ c < k + 1 by omega]
theorem mixF_all (g f : Nat → Bool) {k N : Nat} (h : N ≤ k) : ∀ c, c < N → mixF g f k c = g c := fun c hc => by simp [mixF, show c < k by omega]

set_option maxHeartbeats 2000000 in
theorem refEvery_zero (r b N : Nat) (f : Nat → Bool) (w : World) (h : RefAt w r b N f) :
    Calls Try.prog 26 #[.pointer (some ⟨r, 0, none⟩), .int .i64 0] w fun e w' => e = .returned (.int .i64 0) ∧ RefAt w' r b N (everyF 0) ∧ Kept (· = b) w w' := by
  have h1 := h.N1
  have h2 := h.N2
  go_enter Try.func26, Try.ntmps26
  go_wp2_with fail
  go_loopw [5] (fun i wr => ∃ k : Nat, k ≤ N ∧ i = .int .i64 (k : Int) ∧ RefAt wr r b N (mixF (everyF 0) f k) ∧ Kept (· = b) w wr) (fun i _ => N - (num i).toNat)
  case atStart => exact ⟨0, by omega, rfl, by rw [mixF_zero]; exact h, Kept.refl _ _⟩
  case round =>
    obtain ⟨k, hk, rfl, hT, hkr⟩ := hrel
    have c0 := hT.c0
    by_cases hlt : k < N
    · have cb := hT.cell hlt
      have fb := hT.frozen k
      have m1 : ¬ r = b := hT.ne
      have m2 : ¬ b = r := fun e => hT.ne e.symm
      have HT := Lib.hid hT
      have HS := Lib.hid (mixF_step (everyF 0) f k)
      have HE : Hid (everyF 0 k = false) := by simp [Hid, everyF]
      clear hT
      go_wp2_with fail
      go_region
      all_goals
        go_wp2_with fail
        go_roundw
        case rel => exact ⟨k + 1, by omega, by go_num, by rw [HS.out, HE.out]; exact (HT.out.set k _).kept0 ((Kept.refl _ _).drew), (hkr.trans (Kept.set1 wr b k _)).drew⟩
        case measure => simp [num]; omega
    · go_wp2_with fail
      go_ret
      exact ⟨rfl, hT.congr (mixF_all _ _ (by omega)), hkr⟩

set_option maxHeartbeats 2000000 in
theorem refEvery_pos (r b N : Nat) (f : Nat → Bool) (n : Int) (w : World) (h : RefAt w r b N f) (hn0 : 0 < n) :
    Calls Try.prog 26 #[.pointer (some ⟨r, 0, none⟩), .int .i64 n] w fun e w' => e = .returned (.int .i64 0) ∧ RefAt w' r b N (everyF n) ∧ Kept (· = b) w w' := by
  have h1 := h.N1
  have h2 := h.N2
  have q0 : decide (n < 0) = false := by simp; omega
  have q0' : ¬ n < 0 := by omega
  go_enter Try.func26, Try.ntmps26
  go_wp2_with fail
  go_loopw [5] (fun i wr => ∃ k : Nat, k ≤ N ∧ i = .int .i64 (k : Int) ∧ RefAt wr r b N (mixF (everyF n) f k) ∧ Kept (· = b) w wr) (fun i _ => N - (num i).toNat)
  case atStart => exact ⟨0, by omega, rfl, by rw [mixF_zero]; exact h, Kept.refl _ _⟩
  case round =>
    obtain ⟨k, hk, rfl, hT, hkr⟩ := hrel
    have c0 := hT.c0
    by_cases hlt : k < N
    · have cb := hT.cell hlt
      have fb := hT.frozen k
      have m1 : ¬ r = b := hT.ne
      have m2 : ¬ b = r := fun e => hT.ne e.symm
      have HT := Lib.hid hT
      have HS := Lib.hid (mixF_step (everyF n) f k)
      clear hT
      by_cases hk0 : 0 < k
      · have hk0' : (0 : Int) < (k : Int) := by omega
        have hne : ¬ n = 0 := by omega
        have HE : Hid (everyF n k = ((k : Int) % n == 0)) := by simp [Hid, everyF, hn0, hk0]
        go_wp2_with fail
        go_region
        all_goals
          go_wp2_with fail
          go_roundw
          case rel => exact ⟨k + 1, by omega, by go_num, by rw [HS.out, HE.out]; exact (HT.out.set k _).kept0 ((Kept.refl _ _).drew), (hkr.trans (Kept.set1 wr b k _)).drew⟩
          case measure => simp [num]; omega
      · have hk0' : ¬ (0 : Int) < (k : Int) := by omega
        have HE : Hid (everyF n k = false) := by simp [Hid, everyF, hk0]
        go_wp2_with fail
        go_region
        all_goals
          go_wp2_with fail
          go_roundw
          case rel => exact ⟨k + 1, by omega, by go_num, by rw [HS.out, HE.out]; exact (HT.out.set k _).kept0 ((Kept.refl _ _).drew), (hkr.trans (Kept.set1 wr b k _)).drew⟩
          case measure => simp [num]; omega
    · go_wp2_with fail
      go_ret
      exact ⟨rfl, hT.congr (mixF_all _ _ (by omega)), hkr⟩

theorem refEvery_ok (r b N : Nat) (f : Nat → Bool) (n : Int) (w : World) (h : RefAt w r b N f) (hn : 0 ≤ n) :
    Calls Try.prog 26 #[.pointer (some ⟨r, 0, none⟩), .int .i64 n] w fun e w' => e = .returned (.int .i64 0) ∧ RefAt w' r b N (everyF n) ∧ Kept (· = b) w w' := by
  by_cases h0 : n = 0
  · subst h0; exact refEvery_zero r b N f w h
  · exact refEvery_pos r b N f n w h (by omega)

set_option maxHeartbeats 2000000 in
theorem refResize_any (r b N : Nat) (f : Nat → Bool) (M : Nat) (w : World) (h : RefAt w r b N f) (hM1 : 1 ≤ M) (hM2 : M ≤ 255) :
    Calls Try.prog 27 #[.pointer (some ⟨r, 0, none⟩), .int .i64 (M : Int)] w fun e w' => ∃ r' b', e = .returned (.pointer (some ⟨r', 0, none⟩)) ∧ w.heap.size ≤ r' ∧ w.heap.size ≤ b' ∧ RefAt w' r' b' M (resF N f) ∧ Kept0 w w' := by
  have h1 := h.N1
  have h2 := h.N2
  have hlr := h.lt
  have hlb := h.ltb
  go_enter Try.func27, Try.ntmps27
  go_wp2_with fail
  refine (refNew_any M _ hM1 hM2).mono ?_
  rintro e w1 ⟨r', b', rfl, hr', hb', hR1, hk1⟩
  go_wp2_with fail
  go_loopw [6] (fun i wr => ∃ k : Nat, k ≤ M ∧ k ≤ N ∧ i = .int .i64 (k : Int) ∧ RefAt wr r' b' M (mixF f (fun _ => false) k) ∧ Kept0 w wr) (fun i _ => M - (num i).toNat)
  case atStart => exact ⟨0, by omega, by omega, rfl, by rw [mixF_zero]; exact hR1, hk1⟩
  case round =>
    clear hR1 hk1
    obtain ⟨k, hk, hkN, rfl, hT, hkr⟩ := hrel
    have hR := h.kept0 hkr
    have c0 := hT.c0
    have d0 := hR.c0
    by_cases hlt : k < M
    · by_cases hlt2 : k < N
      · have cb := hT.cell hlt
        have fb := hT.frozen k
        have db := hR.cell hlt2
        have m1 : ¬ r' = b' := hT.ne
        have m2 : ¬ b' = r' := fun e => hT.ne e.symm
        have m3 : ¬ r = b' := by omega
        have m4 : ¬ b' = r := by omega
        have m5 : ¬ b = b' := by omega
        have m6 : ¬ b' = b := by omega
        have HT := Lib.hid hT
        have HS := Lib.hid (mixF_step f (fun _ => false) k)
        clear hT hR
        go_wp2_with fail
        go_region
        all_goals
          go_wp2_with fail
          go_roundw
          case rel => exact ⟨k + 1, by omega, by omega, by go_num, by rw [HS.out]; exact (HT.out.set k _).kept0 ((Kept.refl _ _).drew), (hkr.later (Kept.set1 wr b' k _) (fun i hi e => by omega)).drew⟩
          case measure => simp [num]; omega
      · have HT : Hid (RefAt wr r' b' M (resF N f)) := hT.congr (fun c hc => by
          obtain rfl : k = N := by omega
          unfold mixF resF
          by_cases e : c < k <;> simp [e])
        clear hT
        go_wp2_with fail
        go_ret
        exact ⟨r', b', rfl, hr', hb', HT.out, hkr⟩
    · have HT : Hid (RefAt wr r' b' M (resF N f)) := hT.congr (fun c hc => by
        unfold mixF resF
        simp [show c < k by omega, show c < N by omega])
      clear hT
      go_wp2_with fail
      go_ret
      exact ⟨r', b', rfl, hr', hb', HT.out, hkr⟩

set_option maxHeartbeats 2000000 in
theorem refList_any (r b N : Nat) (f : Nat → Bool) (w : World) (h : RefAt w r b N f) :
    Calls Try.prog 15 #[.pointer (some ⟨r, 0, none⟩)] w fun e w' => ∃ a cap, e = .returned (.slice a (listN N f).length cap) ∧ IntsIn w' a (listN N f) ∧ (∀ bl off, a = some ⟨bl, off, none⟩ → w.heap.size ≤ bl) ∧ Kept0 w w' := by
  have h1 := h.N1
  have h2 := h.N2
  have hlr := h.lt
  have hlb := h.ltb
  obtain ⟨i0, hi, hz0, hz1, hz2⟩ := info_parts info3
  go_enter Try.func15, Try.ntmps15
  go_wp2_with fail
  go_loopw [3, 4] (fun s3 i wr => ∃ k : Nat, k ≤ N ∧ i = .int .i64 (k : Int) ∧ wr.ownsRow w.heap.size 3 1 s3 (listN k f).length ((listN k f).map encZ) ∧ Kept0 w wr) (fun _ i _ => N - (num i).toNat)
  case atStart => exact ⟨0, by omega, rfl, World.ownsRow_nil _ _ _ _, Kept.refl _ _⟩
  case round =>
    obtain ⟨k, hk, rfl, hown, hkr⟩ := hrel
    have hR := h.kept0 hkr
    have d0 := hR.c0
    by_cases hlt : k < N
    · have db := hR.cell hlt
      have hlen := listN_len k f
      have hsz := hkr.size
      clear hR
      cases hf : f k with
      | true =>
        rw [hf] at db
        have HL : Hid (listN (k + 1) f = listN k f ++ [(k : Int)]) := by rw [listN_succ, hf]; exact Lib.hid rfl
        clear hf
        go_wp2_with (at_builtin; refine wpList_append_own _ rfl _ _ 33 rfl w.heap.size 3 i0 (.int .i64 0) 1 8 Try.underlying33 hi hz0 hz1 hz2 rfl (by decide) _ _ _ rfl (hown.alloc _) ⟨wr.heap.size, 0, none⟩ 1 1 [.int .i64 (k : Int)] rfl rfl (cell_one_new _ _ _) (by simp [Value.oneCell']) (by unfold maxLen; omega) (by omega) (by simp; omega) ?_)
        intro v' w1 hown' hgrow _
        have hkw : Kept0 w w1 := (hkr.alloc (.cells #[.int .i64 (k : Int)] 3)).later (Kept.ofGrown hgrow) (fun i hi e => by have := (hown.lt _ e.symm).1; omega)
        have hown2 : w1.ownsRow w.heap.size 3 1 v' (listN (k + 1) f).length ((listN (k + 1) f).map encZ) := by
          rw [HL.out]
          simpa using hown'
        obtain ⟨a, cap, rfl, _, _⟩ := ints_owned hown2
        have HO := Lib.hid hown2
        clear hown2 hown hown' hgrow
        go_wp2_with fail
        go_roundw
        case rel => exact ⟨k + 1, by omega, by go_num, HO.out, hkw⟩
        case measure => simp [num]; omega
      | false =>
        rw [hf] at db
        have HL : Hid (listN (k + 1) f = listN k f) := by rw [listN_succ, hf]; exact Lib.hid (List.append_nil _)
        clear hf
        go_wp2_with fail
        go_roundw
        case rel => exact ⟨k + 1, by omega, by go_num, by rw [HL.out]; exact hown, hkr⟩
        case measure => simp [num]; omega
    · obtain ⟨a, cap, rfl, hI, hfr⟩ := ints_owned hown
      obtain rfl : k = N := by omega
      have HI := Lib.hid hI
      clear hI hown
      go_wp2_with fail
      go_ret
      exact ⟨a, cap, rfl, HI.out, hfr, hkr⟩
end Go.Proofs.Ytkfphgcbpphbnaa
