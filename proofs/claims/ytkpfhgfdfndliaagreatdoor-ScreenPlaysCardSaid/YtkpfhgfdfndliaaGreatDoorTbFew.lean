/-
  The document's answer: New, There, Put, Next, Prev and Go.
  The document's answer: New, Put, Every and Resize.
  What the law's own small calls do: ints, Few and awake.
-/
import Derived.Test.YtkpfhgfdfndliaaGreatDoorMSh2
import Derived.BigRegion
import Derived.Deep.OwnRows
namespace Go.Proofs.YtkpfhgfdfndliaaGreatDoor
namespace Tb
open Go.RowKit Go.Maps Go.ChangeMaps Go.MapKept

set_option maxHeartbeats 400000 in
theorem refThere_any (r b N : Nat) (f : Nat → Bool) (c : Int) (w : World) (h : RefAt w r b N f) :
    Calls Tryz.prog 90 #[.pointer (some ⟨r, 0, none⟩), .int .i64 c] w fun e w' => e = .returned (.bool (decide (0 ≤ c ∧ c < (N : Int)))) ∧ w = w' := by
  have c0 := h.c0
  go_enter Tryz.func90, Tryz.ntmps90
  go_wp2
  all_goals
    go_ret
    refine ⟨ret_bool ?_, rfl⟩
    rw [Bool.eq_iff_iff]
    simp
    try omega

set_option maxHeartbeats 1000000 in
theorem refNext_any (r b N : Nat) (f : Nat → Bool) (c : Int) (w : World) (h : RefAt w r b N f) :
    Calls Tryz.prog 126 #[.pointer (some ⟨r, 0, none⟩), .int .i64 c] w fun e w' => e = .returned (.int .i64 (nextN N f c)) ∧ w = w' := by
  have c0 := h.c0
  have h1 := h.N1
  have h2 := h.N2
  go_enter Tryz.func126, Tryz.ntmps126
  go_wp2_with fail
  go_loopw [5] (fun i wr => ∃ k : Nat, k ≤ N ∧ i = .int .i64 (k : Int) ∧ nextN N f c = nextRem N f c (N - k) ∧ w = wr) (fun i _ => N - (num i).toNat)
  case atStart => exact ⟨0, by omega, rfl, rfl, rfl⟩
  case round =>
    obtain ⟨k, hk, rfl, hp, rfl⟩ := hrel
    by_cases hlt : k < N
    · have HS := Lib.hid (nextRem_step N f c k hlt)
      have HP := Lib.hid hp
      have cb := h.cell hlt
      clear hp
      by_cases hg : c < (k : Int)
      · cases hf : f k with
        | true =>
          rw [hf] at cb
          have HF := Lib.hid hf
          clear hf
          go_wp2_with fail
          go_ret
          exact ⟨ret_int (by rw [HP.out, HS.out, if_pos ⟨HF.out, hg⟩]), rfl⟩
        | false =>
          rw [hf] at cb
          have HF := Lib.hid hf
          clear hf
          go_wp2_with fail
          go_roundw
          case rel => exact ⟨k + 1, by omega, by go_num, by rw [HP.out, HS.out, if_neg (by rw [HF.out]; simp)], by trivial⟩
          case measure => simp [num]; omega
      · go_wp2_with fail
        go_roundw
        case rel => exact ⟨k + 1, by omega, by go_num, by rw [HP.out, HS.out, if_neg (fun e => hg e.2)], by trivial⟩
        case measure => simp [num]; omega
    · have HP := Lib.hid hp
      clear hp
      go_wp2_with fail
      go_ret
      exact ⟨ret_int (by rw [HP.out, show N - k = 0 by omega]; rfl), rfl⟩

set_option maxHeartbeats 1000000 in
theorem refPrev_any (r b N : Nat) (f : Nat → Bool) (c : Int) (w : World) (h : RefAt w r b N f) :
    Calls Tryz.prog 127 #[.pointer (some ⟨r, 0, none⟩), .int .i64 c] w fun e w' => e = .returned (.int .i64 (prevN N f c)) ∧ w = w' := by
  have c0 := h.c0
  have h1 := h.N1
  have h2 := h.N2
  go_enter Tryz.func127, Tryz.ntmps127
  go_wp2_with fail
  go_loopw [5, 6] (fun s5 i wr => ∃ k : Nat, k ≤ N ∧ i = .int .i64 (k : Int) ∧ s5 = .int .i64 (prevUp f c k) ∧ w = wr) (fun _ i _ => N - (num i).toNat)
  case atStart => exact ⟨0, by omega, rfl, rfl, rfl⟩
  case round =>
    obtain ⟨k, hk, rfl, rfl, rfl⟩ := hrel
    by_cases hlt : k < N
    · have cb := h.cell hlt
      by_cases hg : (k : Int) < c
      · cases hf : f k with
        | true =>
          rw [hf] at cb
          have HF := Lib.hid hf
          clear hf
          go_wp2_with fail
          go_roundw
          case rel => exact ⟨k + 1, by omega, by go_num, by rw [prevUp, if_pos ⟨HF.out, hg⟩], by trivial⟩
          case measure => simp [num]; omega
        | false =>
          rw [hf] at cb
          have HF := Lib.hid hf
          clear hf
          go_wp2_with fail
          go_roundw
          case rel => exact ⟨k + 1, by omega, by go_num, by rw [prevUp, if_neg (by rw [HF.out]; simp)], by trivial⟩
          case measure => simp [num]; omega
      · go_wp2_with fail
        go_roundw
        case rel => exact ⟨k + 1, by omega, by go_num, by rw [prevUp, if_neg (fun e => hg e.2)], by trivial⟩
        case measure => simp [num]; omega
    · go_wp2_with fail
      go_ret
      obtain rfl : k = N := by omega
      exact ⟨rfl, rfl⟩

set_option maxHeartbeats 1000000 in
theorem refGo_any (r b N : Nat) (f : Nat → Bool) (c n : Int) (w : World) (h : RefAt w r b N f) :
    Calls Tryz.prog 89 #[.pointer (some ⟨r, 0, none⟩), .int .i64 c, .int .i64 n] w fun e w' => e = .returned (.int .i64 (goN N f c n)) ∧ w = w' := by
  have c0 := h.c0
  have h1 := h.N1
  have h2 := h.N2
  by_cases hz : n = 0
  · subst hz
    have HG : Hid (goN N f c 0 = nr c N) := if_pos rfl
    by_cases hc : c < 0
    · go_enter Tryz.func89, Tryz.ntmps89
      go_wp2_with fail
      go_ret
      exact ⟨ret_int (by rw [HG.out]; unfold nr; omega), rfl⟩
    · by_cases hc2 : (N : Int) ≤ c
      · go_enter Tryz.func89, Tryz.ntmps89
        go_wp2_with fail
        go_ret
        exact ⟨ret_int (by rw [HG.out]; unfold nr; omega), rfl⟩
      · go_enter Tryz.func89, Tryz.ntmps89
        go_wp2_with fail
        go_loopw [1, 7] (fun s1 i wr => s1 = .int .i64 c ∧ i = .int .i64 0 ∧ w = wr) (fun _ _ _ => 0)
        case atStart => exact ⟨rfl, rfl, rfl⟩
        case round =>
          obtain ⟨rfl, rfl, rfl⟩ := hrel
          go_wp2_with fail
          go_loopw [1, 8] (fun s1 i wr => s1 = .int .i64 c ∧ i = .int .i64 0 ∧ w = wr) (fun _ _ _ => 0)
          case atStart => exact ⟨rfl, rfl, rfl⟩
          case round =>
            obtain ⟨rfl, rfl, rfl⟩ := hrel
            go_wp2_with fail
            go_ret
            exact ⟨ret_int (by rw [HG.out]; unfold nr; omega), rfl⟩
  · obtain ⟨A, hA⟩ : ∃ A : Nat, A = (min n 300).toNat := ⟨_, rfl⟩
    obtain ⟨B, hB⟩ : ∃ B : Nat, B = (min (-n) 300).toNat := ⟨_, rfl⟩
    have HG : Hid (goN N f c n = itF (prevN N f) B (itF (nextN N f) A c)) := by rw [hA, hB]; exact (goR h1 h2 f c n hz).symm
    have HA := Lib.hid hA
    have HB := Lib.hid hB
    have hz' : (n == 0) = false := by simpa using hz
    clear hA hB hz
    go_enter Tryz.func89, Tryz.ntmps89
    go_wp2_with fail
    go_loopw [1, 7] (fun s1 i wr => ∃ k : Nat, k ≤ A ∧ i = .int .i64 (k : Int) ∧ s1 = .int .i64 (itF (nextN N f) k c) ∧ w = wr) (fun _ i _ => A - (num i).toNat)
    case atStart => exact ⟨0, by omega, rfl, rfl, rfl⟩
    case round =>
      obtain ⟨k, hk, rfl, rfl, rfl⟩ := hrel
      have hA := HA.out
      by_cases hlt : k < A
      · have t1 : (k : Int) < n := by omega
        have t2 : (k : Int) < 300 := by omega
        clear hA
        go_wp2_with fail
        refine (refNext_any r b N f _ _ h).mono ?_
        rintro e w1 ⟨rfl, rfl⟩
        go_wp2_with fail
        go_roundw
        case rel => exact ⟨k + 1, by omega, by go_num, rfl, by trivial⟩
        case measure => simp [num]; omega
      · obtain rfl : k = A := by omega
        have t3 : ¬ (k : Int) < n ∨ ((k : Int) < n ∧ ¬ (k : Int) < 300) := by omega
        clear hA hlt hk
        obtain ⟨C1, hC1⟩ : ∃ C1, C1 = itF (nextN N f) k c := ⟨_, rfl⟩
        rw [← hC1] at HG ⊢
        clear hC1
        rcases t3 with t3 | ⟨t3, t4⟩
        all_goals
          go_wp2_with fail
          go_loopw [1, 8] (fun s1 i wr => ∃ k : Nat, k ≤ B ∧ i = .int .i64 (-(k : Int)) ∧ s1 = .int .i64 (itF (prevN N f) k C1) ∧ w = wr) (fun _ i _ => B - (-(num i)).toNat)
          case atStart => exact ⟨0, by omega, rfl, rfl, rfl⟩
          case round =>
            clear t3
            try clear t4
            obtain ⟨k, hk, rfl, rfl, rfl⟩ := hrel
            have hB := HB.out
            by_cases hlt : k < B
            · have t1 : n < -(k : Int) := by omega
              have t2 : -300 < -(k : Int) := by omega
              clear hB
              go_wp2_with fail
              refine (refPrev_any r b N f _ _ h).mono ?_
              rintro e w1 ⟨rfl, rfl⟩
              go_wp2_with fail
              go_roundw
              case rel => exact ⟨k + 1, by omega, by go_num, rfl, by trivial⟩
              case measure => simp [num]; omega
            · obtain rfl : k = B := by omega
              have t3 : ¬ n < -(k : Int) ∨ (n < -(k : Int) ∧ ¬ -300 < -(k : Int)) := by omega
              clear hB hlt hk
              rcases t3 with t3 | ⟨t3, t4⟩
              all_goals
                go_wp2_with fail
                go_ret
                exact ⟨ret_int HG.out.symm, rfl⟩
end Tb
end Go.Proofs.YtkpfhgfdfndliaaGreatDoor

namespace Go.Proofs.YtkpfhgfdfndliaaGreatDoor
namespace Tb
open Go.RowKit Go.Maps Go.ChangeMaps Go.MapKept

theorem info3 : (Tryz.prog.info? 3).map (fun i => (i.zero, i.size, i.bytes)) = some (some (.int .i64 0), 1, 8) := by kernel_rfl
theorem info4 : (Tryz.prog.info? 4).map (fun i => (i.zero, i.size, i.bytes)) = some (some (.bool false), 1, 1) := by kernel_rfl

set_option maxHeartbeats 1000000 in
theorem refNew_any (N : Nat) (w : World) (h1 : 1 ≤ N) (h2 : N ≤ 255) :
    Calls Tryz.prog 31 #[.int .i64 (N : Int)] w fun e w' => ∃ r b, e = .returned (.pointer (some ⟨r, 0, none⟩)) ∧ w.heap.size ≤ r ∧ w.heap.size ≤ b ∧ RefAt w' r b N (fun _ => false) ∧ Kept0 w w' := by
  have hmk := run_make_row' (P := Tryz.prog) 115 4 (.bool false) 1 Tryz.underlying115 info4 rfl .i64 .i64 N (by omega) (by omega)
  go_enter Tryz.func31, Tryz.ntmps31
  go_wp2_with fail
  go_ret
  obtain ⟨c, q1, _, q3⟩ := World.rowIs_made w (.bool false) N 4
  refine ⟨w.heap.size + 1, w.heap.size, rfl, by omega, by omega, ⟨heap_new2 _ _ _, ⟨c, heap_old _ _ q1, q3⟩, h1, h2⟩, ((Kept.refl _ w).alloc _).alloc _⟩

set_option maxHeartbeats 1000000 in
theorem refPut_bad (r b N : Nat) (f : Nat → Bool) (on : Bool) (a : Option Addr) (cap : Nat) (l : List Int) (w : World) (h : RefAt w r b N f) (hl : IntsIn w a l) (hn : l.length ≤ 9223372036854775807) (hb : ¬ Ins N l) :
    Calls Tryz.prog 48 #[.pointer (some ⟨r, 0, none⟩), .bool on, .slice a l.length cap] w fun e w' => e = .returned (.int .i64 11) ∧ Kept0 w w' := by
  obtain ⟨n, hnl⟩ : ∃ n, n = l.length := ⟨_, rfl⟩
  rw [← hnl] at hn ⊢
  have HN := Lib.hid hnl
  have HB := Lib.hid hb
  clear hnl hb
  go_enter Tryz.func48, Tryz.ntmps48
  go_wp2_with fail
  go_loopw [7] (fun i wr => ∃ k : Nat, k ≤ n ∧ i = .int .i64 (k : Int) ∧ (∀ j x, j < k → l[j]? = some x → 0 ≤ x ∧ x < (N : Int)) ∧ w = wr) (fun i _ => n - (num i).toNat)
  case atStart => exact ⟨0, by omega, rfl, fun j x hj => by omega, rfl⟩
  case round =>
    obtain ⟨k, hk, rfl, hp, rfl⟩ := hrel
    by_cases hlt : k < n
    · obtain ⟨x, hx⟩ : ∃ x, l[k]? = some x := ⟨_, List.getElem?_eq_getElem (by rw [← HN.out]; exact hlt)⟩
      obtain ⟨b', off, rfl, hc⟩ := hl k x hx
      have HP : Hid (0 ≤ x ∧ x < (N : Int) → ∀ j y, j < k + 1 → l[j]? = some y → 0 ≤ y ∧ y < (N : Int)) := fun hi j y hj hy => by
        by_cases e : j = k
        · subst e; rw [hx] at hy; cases hy; exact hi
        · exact hp j y (by omega) hy
      clear hp hx
      by_cases hi : 0 ≤ x ∧ x < (N : Int)
      · have HD : Hid (decide (0 ≤ x ∧ x < (N : Int)) = true) := decide_eq_true hi
        have HI := Lib.hid hi
        clear hi
        go_wp2_with fail
        refine (refThere_any r b N f _ _ h).mono ?_
        rw [HD.out]
        rintro e w1 ⟨rfl, rfl⟩
        go_wp2_with fail
        go_roundw
        case rel => exact ⟨k + 1, by omega, by go_num, HP.out HI.out, by trivial⟩
        case measure => simp [num]; omega
      · have HD : Hid (decide (0 ≤ x ∧ x < (N : Int)) = false) := decide_eq_false hi
        clear hi
        go_wp2_with fail
        refine (refThere_any r b N f _ _ h).mono ?_
        rw [HD.out]
        rintro e w1 ⟨rfl, rfl⟩
        go_wp2_with fail
        go_ret
        exact ⟨rfl, Kept.refl _ _⟩
    · exact absurd (fun x hx => by
        obtain ⟨i, hi, rfl⟩ := List.getElem_of_mem hx
        exact hp i _ (by have := HN.out; omega) (List.getElem?_eq_getElem hi)) HB.out

set_option maxHeartbeats 2000000 in
theorem refPut_ok (r b N : Nat) (f : Nat → Bool) (on : Bool) (a : Option Addr) (cap : Nat) (l : List Int) (w : World) (h : RefAt w r b N f) (hl : IntsIn w a l) (hab : ∀ (k : Nat) (x : Int), l[k]? = some x → ∀ bl off, a = some ⟨bl, off, none⟩ → bl ≠ b) (hn : l.length ≤ 9223372036854775807) (hb : Ins N l) :
    Calls Tryz.prog 48 #[.pointer (some ⟨r, 0, none⟩), .bool on, .slice a l.length cap] w fun e w' => e = .returned (.int .i64 0) ∧ RefAt w' r b N (putF f on l) ∧ Kept (· = b) w w' := by
  obtain ⟨n, hnl⟩ : ∃ n, n = l.length := ⟨_, rfl⟩
  rw [← hnl] at hn ⊢
  have HN := Lib.hid hnl
  have HB := Lib.hid hb
  clear hnl hb
  go_enter Tryz.func48, Tryz.ntmps48
  go_wp2_with fail
  go_loopw [7] (fun i wr => ∃ k : Nat, k ≤ n ∧ i = .int .i64 (k : Int) ∧ w = wr) (fun i _ => n - (num i).toNat)
  case atStart => exact ⟨0, by omega, rfl, rfl⟩
  case round =>
    obtain ⟨k, hk, rfl, rfl⟩ := hrel
    by_cases hlt : k < n
    · obtain ⟨x, hx⟩ : ∃ x, l[k]? = some x := ⟨_, List.getElem?_eq_getElem (by rw [← HN.out]; exact hlt)⟩
      obtain ⟨b', off, rfl, hc⟩ := hl k x hx
      have HD : Hid (decide (0 ≤ x ∧ x < (N : Int)) = true) := decide_eq_true (HB.out x (List.mem_of_getElem? hx))
      clear hx
      go_wp2_with fail
      refine (refThere_any r b N f _ _ h).mono ?_
      rw [HD.out]
      rintro e w1 ⟨rfl, rfl⟩
      go_wp2_with fail
      go_roundw
      case rel => exact ⟨k + 1, by omega, by go_num, by trivial⟩
      case measure => simp [num]; omega
    · go_wp2_with fail
      clear hk hlt
      go_loopw [8] (fun i wr => ∃ k : Nat, k ≤ n ∧ i = .int .i64 (k : Int) ∧ RefAt wr r b N (putF f on (l.take k)) ∧ Kept (· = b) w wr) (fun i _ => n - (num i).toNat)
      case atStart => exact ⟨0, by omega, rfl, by rw [List.take_zero, putF_nil]; exact h, Kept.refl _ _⟩
      case round =>
        obtain ⟨k, hk, rfl, hT, hkr⟩ := hrel
        by_cases hlt : k < n
        · obtain ⟨x, hx⟩ : ∃ x, l[k]? = some x := ⟨_, List.getElem?_eq_getElem (by rw [← HN.out]; exact hlt)⟩
          obtain ⟨b', off, ha, hc0⟩ := hl k x hx
          have hbb : ¬ b' = b := hab k x hx b' off ha
          have hc := (hkr.cell (World.block_lt_of_cell? w _ hc0) hbb).trans hc0
          subst ha
          clear hc0
          have hbb2 : ¬ b = b' := fun e => hbb e.symm
          have hi := HB.out x (List.mem_of_getElem? hx)
          obtain ⟨y, rfl⟩ := Int.eq_ofNat_of_zero_le hi.1
          have hy : y < N := by omega
          have HS : Hid (putF f on (l.take (k + 1)) = upd (putF f on (l.take k)) y on) := by
            rw [List.take_add_one, hx]
            exact putF_snoc f on (l.take k) y
          have c0 := hT.c0
          have cb := hT.cell hy
          have fb := hT.frozen y
          have m1 : ¬ r = b := hT.ne
          have m2 : ¬ b = r := fun e => hT.ne e.symm
          have HT := Lib.hid hT
          clear hi hx hT hab
          go_wp2_with fail
          go_region
          all_goals
            go_wp2_with fail
            go_roundw
            case rel => exact ⟨k + 1, by omega, by go_num, by rw [HS.out]; exact (HT.out.set y on).kept0 ((Kept.refl _ _).drew), (hkr.trans (Kept.set1 wr b y (.bool on))).drew⟩
            case measure => simp [num]; omega
        · have hT' : RefAt wr r b N (putF f on l) := by
            rw [List.take_of_length_le (by have := HN.out; omega)] at hT
            exact hT
          go_wp2_with fail
          go_ret
          exact ⟨rfl, hT', hkr⟩

set_option maxHeartbeats 1000000 in
theorem refEvery_bad (r : Nat) (n : Int) (w : World) (hn : n < 0) :
    Calls Tryz.prog 49 #[.pointer (some ⟨r, 0, none⟩), .int .i64 n] w fun e w' => e = .returned (.int .i64 1) ∧ Kept0 w w' := by
  go_enter Tryz.func49, Tryz.ntmps49
  go_wp2_with fail
  go_ret
  exact ⟨rfl, Kept.refl _ _⟩

/-- The first k columns are as another one says. -/
def mixF (g f : Nat → Bool) (k : Nat) : Nat → Bool := fun c => if c < k then g c else f c
theorem mixF_zero (g f : Nat → Bool) : mixF g f 0 = f := by funext c; simp [mixF]
theorem mixF_step (g f : Nat → Bool) (k : Nat) : mixF g f (k + 1) = upd (mixF g f k) k (g k) := by
  funext c
  unfold mixF upd
  by_cases h : c = k
  · subst h; simp
  · by_cases h2 : c < k
    · simp [h, h2, show c < k + 1 by omega]
    · simp [h, h2, show ¬ c < k + 1 by omega]
theorem mixF_all (g f : Nat → Bool) {k N : Nat} (h : N ≤ k) : ∀ c, c < N → mixF g f k c = g c := fun c hc => by simp [mixF, show c < k by omega]

set_option maxHeartbeats 2000000 in
theorem refEvery_zero (r b N : Nat) (f : Nat → Bool) (w : World) (h : RefAt w r b N f) :
    Calls Tryz.prog 49 #[.pointer (some ⟨r, 0, none⟩), .int .i64 0] w fun e w' => e = .returned (.int .i64 0) ∧ RefAt w' r b N (everyF 0) ∧ Kept (· = b) w w' := by
  have h1 := h.N1
  have h2 := h.N2
  go_enter Tryz.func49, Tryz.ntmps49
  go_wp2_with fail
  go_loopw [5] (fun i wr => ∃ k : Nat, k ≤ N ∧ i = .int .i64 (k : Int) ∧ RefAt wr r b N (mixF (everyF 0) f k) ∧ Kept (· = b) w wr) (fun i _ => N - (num i).toNat)
  case atStart => exact ⟨0, by omega, rfl, by rw [mixF_zero]; exact h, Kept.refl _ _⟩
  case round =>
    obtain ⟨k, hk, rfl, hT, hkr⟩ := hrel
    have c0 := hT.c0
    by_cases hlt : k < N
    · have cb := hT.cell hlt
      have fb := hT.frozen k
      have m1 : ¬ r = b := hT.ne
      have m2 : ¬ b = r := fun e => hT.ne e.symm
      have HT := Lib.hid hT
      have HS := Lib.hid (mixF_step (everyF 0) f k)
      have HE : Hid (everyF 0 k = false) := by simp [Hid, everyF]
      clear hT
      go_wp2_with fail
      go_region
      all_goals
        go_wp2_with fail
        go_roundw
        case rel => exact ⟨k + 1, by omega, by go_num, by rw [HS.out, HE.out]; exact (HT.out.set k _).kept0 ((Kept.refl _ _).drew), (hkr.trans (Kept.set1 wr b k _)).drew⟩
        case measure => simp [num]; omega
    · go_wp2_with fail
      go_ret
      exact ⟨rfl, hT.congr (mixF_all _ _ (by omega)), hkr⟩

set_option maxHeartbeats 2000000 in
theorem refEvery_pos (r b N : Nat) (f : Nat → Bool) (n : Int) (w : World) (h : RefAt w r b N f) (hn0 : 0 < n) :
    Calls Tryz.prog 49 #[.pointer (some ⟨r, 0, none⟩), .int .i64 n] w fun e w' => e = .returned (.int .i64 0) ∧ RefAt w' r b N (everyF n) ∧ Kept (· = b) w w' := by
  have h1 := h.N1
  have h2 := h.N2
  have q0 : decide (n < 0) = false := by simp; omega
  have q0' : ¬ n < 0 := by omega
  go_enter Tryz.func49, Tryz.ntmps49
  go_wp2_with fail
  go_loopw [5] (fun i wr => ∃ k : Nat, k ≤ N ∧ i = .int .i64 (k : Int) ∧ RefAt wr r b N (mixF (everyF n) f k) ∧ Kept (· = b) w wr) (fun i _ => N - (num i).toNat)
  case atStart => exact ⟨0, by omega, rfl, by rw [mixF_zero]; exact h, Kept.refl _ _⟩
  case round =>
    obtain ⟨k, hk, rfl, hT, hkr⟩ := hrel
    have c0 := hT.c0
    by_cases hlt : k < N
    · have cb := hT.cell hlt
      have fb := hT.frozen k
      have m1 : ¬ r = b := hT.ne
      have m2 : ¬ b = r := fun e => hT.ne e.symm
      have HT := Lib.hid hT
      have HS := Lib.hid (mixF_step (everyF n) f k)
      clear hT
      by_cases hk0 : 0 < k
      · have hk0' : (0 : Int) < (k : Int) := by omega
        have hne : ¬ n = 0 := by omega
        have HE : Hid (everyF n k = ((k : Int) % n == 0)) := by simp [Hid, everyF, hn0, hk0]
        go_wp2_with fail
        go_region
        all_goals
          go_wp2_with fail
          go_roundw
          case rel => exact ⟨k + 1, by omega, by go_num, by rw [HS.out, HE.out]; exact (HT.out.set k _).kept0 ((Kept.refl _ _).drew), (hkr.trans (Kept.set1 wr b k _)).drew⟩
          case measure => simp [num]; omega
      · have hk0' : ¬ (0 : Int) < (k : Int) := by omega
        have HE : Hid (everyF n k = false) := by simp [Hid, everyF, hk0]
        go_wp2_with fail
        go_region
        all_goals
          go_wp2_with fail
          go_roundw
          case rel => exact ⟨k + 1, by omega, by go_num, by rw [HS.out, HE.out]; exact (HT.out.set k _).kept0 ((Kept.refl _ _).drew), (hkr.trans (Kept.set1 wr b k _)).drew⟩
          case measure => simp [num]; omega
    · go_wp2_with fail
      go_ret
      exact ⟨rfl, hT.congr (mixF_all _ _ (by omega)), hkr⟩

theorem refEvery_ok (r b N : Nat) (f : Nat → Bool) (n : Int) (w : World) (h : RefAt w r b N f) (hn : 0 ≤ n) :
    Calls Tryz.prog 49 #[.pointer (some ⟨r, 0, none⟩), .int .i64 n] w fun e w' => e = .returned (.int .i64 0) ∧ RefAt w' r b N (everyF n) ∧ Kept (· = b) w w' := by
  by_cases h0 : n = 0
  · subst h0; exact refEvery_zero r b N f w h
  · exact refEvery_pos r b N f n w h (by omega)

set_option maxHeartbeats 2000000 in
theorem refResize_any (r b N : Nat) (f : Nat → Bool) (M : Nat) (w : World) (h : RefAt w r b N f) (hM1 : 1 ≤ M) (hM2 : M ≤ 255) :
    Calls Tryz.prog 92 #[.pointer (some ⟨r, 0, none⟩), .int .i64 (M : Int)] w fun e w' => ∃ r' b', e = .returned (.pointer (some ⟨r', 0, none⟩)) ∧ w.heap.size ≤ r' ∧ w.heap.size ≤ b' ∧ RefAt w' r' b' M (resF N f) ∧ Kept0 w w' := by
  have h1 := h.N1
  have h2 := h.N2
  have hlr := h.lt
  have hlb := h.ltb
  go_enter Tryz.func92, Tryz.ntmps92
  go_wp2_with fail
  refine (refNew_any M _ hM1 hM2).mono ?_
  rintro e w1 ⟨r', b', rfl, hr', hb', hR1, hk1⟩
  go_wp2_with fail
  go_loopw [6] (fun i wr => ∃ k : Nat, k ≤ M ∧ k ≤ N ∧ i = .int .i64 (k : Int) ∧ RefAt wr r' b' M (mixF f (fun _ => false) k) ∧ Kept0 w wr) (fun i _ => M - (num i).toNat)
  case atStart => exact ⟨0, by omega, by omega, rfl, by rw [mixF_zero]; exact hR1, hk1⟩
  case round =>
    clear hR1 hk1
    obtain ⟨k, hk, hkN, rfl, hT, hkr⟩ := hrel
    have hR := h.kept0 hkr
    have c0 := hT.c0
    have d0 := hR.c0
    by_cases hlt : k < M
    · by_cases hlt2 : k < N
      · have cb := hT.cell hlt
        have fb := hT.frozen k
        have db := hR.cell hlt2
        have m1 : ¬ r' = b' := hT.ne
        have m2 : ¬ b' = r' := fun e => hT.ne e.symm
        have m3 : ¬ r = b' := by omega
        have m4 : ¬ b' = r := by omega
        have m5 : ¬ b = b' := by omega
        have m6 : ¬ b' = b := by omega
        have HT := Lib.hid hT
        have HS := Lib.hid (mixF_step f (fun _ => false) k)
        clear hT hR
        go_wp2_with fail
        go_region
        all_goals
          go_wp2_with fail
          go_roundw
          case rel => exact ⟨k + 1, by omega, by omega, by go_num, by rw [HS.out]; exact (HT.out.set k _).kept0 ((Kept.refl _ _).drew), (hkr.later (Kept.set1 wr b' k _) (fun i hi e => by omega)).drew⟩
          case measure => simp [num]; omega
      · have HT : Hid (RefAt wr r' b' M (resF N f)) := hT.congr (fun c hc => by
          obtain rfl : k = N := by omega
          unfold mixF resF
          by_cases e : c < k <;> simp [e])
        clear hT
        go_wp2_with fail
        go_ret
        exact ⟨r', b', rfl, hr', hb', HT.out, hkr⟩
    · have HT : Hid (RefAt wr r' b' M (resF N f)) := hT.congr (fun c hc => by
        unfold mixF resF
        simp [show c < k by omega, show c < N by omega])
      clear hT
      go_wp2_with fail
      go_ret
      exact ⟨r', b', rfl, hr', hb', HT.out, hkr⟩

set_option maxHeartbeats 2000000 in
theorem refList_any (r b N : Nat) (f : Nat → Bool) (w : World) (h : RefAt w r b N f) :
    Calls Tryz.prog 33 #[.pointer (some ⟨r, 0, none⟩)] w fun e w' => ∃ a cap, e = .returned (.slice a (listN N f).length cap) ∧ IntsIn w' a (listN N f) ∧ (∀ bl off, a = some ⟨bl, off, none⟩ → w.heap.size ≤ bl) ∧ Kept0 w w' := by
  have h1 := h.N1
  have h2 := h.N2
  have hlr := h.lt
  have hlb := h.ltb
  obtain ⟨i0, hi, hz0, hz1, hz2⟩ := info_parts info3
  go_enter Tryz.func33, Tryz.ntmps33
  go_wp2_with fail
  go_loopw [3, 4] (fun s3 i wr => ∃ k : Nat, k ≤ N ∧ i = .int .i64 (k : Int) ∧ wr.ownsRow w.heap.size 3 1 s3 (listN k f).length ((listN k f).map encZ) ∧ Kept0 w wr) (fun _ i _ => N - (num i).toNat)
  case atStart => exact ⟨0, by omega, rfl, World.ownsRow_nil _ _ _ _, Kept.refl _ _⟩
  case round =>
    obtain ⟨k, hk, rfl, hown, hkr⟩ := hrel
    have hR := h.kept0 hkr
    have d0 := hR.c0
    by_cases hlt : k < N
    · have db := hR.cell hlt
      have hlen := listN_len k f
      have hsz := hkr.size
      clear hR
      cases hf : f k with
      | true =>
        rw [hf] at db
        have HL : Hid (listN (k + 1) f = listN k f ++ [(k : Int)]) := by rw [listN_succ, hf]; exact Lib.hid rfl
        clear hf
        go_wp2_with (at_builtin; refine wpList_append_own _ rfl _ _ 59 rfl w.heap.size 3 i0 (.int .i64 0) 1 8 Tryz.underlying59 hi hz0 hz1 hz2 rfl (by decide) _ _ _ rfl (hown.alloc _) ⟨wr.heap.size, 0, none⟩ 1 1 [.int .i64 (k : Int)] rfl rfl (cell_one_new _ _ _) (by simp [Value.oneCell']) (by unfold maxLen; omega) (by omega) (by simp; omega) ?_)
        intro v' w1 hown' hgrow _
        have hkw : Kept0 w w1 := (hkr.alloc (.cells #[.int .i64 (k : Int)] 3)).later (Kept.ofGrown hgrow) (fun i hi e => by have := (hown.lt _ e.symm).1; omega)
        have hown2 : w1.ownsRow w.heap.size 3 1 v' (listN (k + 1) f).length ((listN (k + 1) f).map encZ) := by
          rw [HL.out]
          simpa using hown'
        obtain ⟨a, cap, rfl, _, _⟩ := ints_owned hown2
        have HO := Lib.hid hown2
        clear hown2 hown hown' hgrow
        go_wp2_with fail
        go_roundw
        case rel => exact ⟨k + 1, by omega, by go_num, HO.out, hkw⟩
        case measure => simp [num]; omega
      | false =>
        rw [hf] at db
        have HL : Hid (listN (k + 1) f = listN k f) := by rw [listN_succ, hf]; exact Lib.hid (List.append_nil _)
        clear hf
        go_wp2_with fail
        go_roundw
        case rel => exact ⟨k + 1, by omega, by go_num, by rw [HL.out]; exact hown, hkr⟩
        case measure => simp [num]; omega
    · obtain ⟨a, cap, rfl, hI, hfr⟩ := ints_owned hown
      obtain rfl : k = N := by omega
      have HI := Lib.hid hI
      clear hI hown
      go_wp2_with fail
      go_ret
      exact ⟨a, cap, rfl, HI.out, hfr, hkr⟩
end Tb
end Go.Proofs.YtkpfhgfdfndliaaGreatDoor

namespace Go.Proofs.YtkpfhgfdfndliaaGreatDoor
namespace Tb
open Go.RowKit Go.Maps Go.ChangeMaps Go.MapKept

theorem ext_ints {l k : List Int} (hl : l.length = k.length) (h : ∀ j, j < l.length → l[j]? = k[j]?) : l = k := by
  refine List.ext_getElem? fun i => ?_
  by_cases hi : i < l.length
  · exact h i hi
  · rw [List.getElem?_eq_none (by omega), List.getElem?_eq_none (by omega)]


/-- A call, as numbers. -/
structure OpV where
  ask : Int
  n : Int
  m : Int
  la : Option Addr
  lcap : Nat
  l : List Int

/-- A call lies at a place. -/
structure OpAt (w : World) (b p : Nat) (o : OpV) : Prop where
  ask : w.cell? ⟨b, p, none⟩ = some (.int .i64 o.ask)
  n : w.cell? ⟨b, p + 1, none⟩ = some (.int .i64 o.n)
  m : w.cell? ⟨b, p + 2, none⟩ = some (.int .i64 o.m)
  l : w.cell? ⟨b, p + 3, none⟩ = some (.slice o.la o.l.length o.lcap)
theorem OpAt.kept0 {w w' : World} {b p : Nat} {o : OpV} (h : OpAt w b p o) (k : Kept0 w w') : OpAt w' b p o := ⟨kcell k h.ask, kcell k h.n, kcell k h.m, kcell k h.l⟩

/-- The calls that a slice leads to. -/
def OpsIn (w : World) (a : Option Addr) (l : List OpV) : Prop := ∀ (i : Nat) (o : OpV), l[i]? = some o → ∃ b off, a = some ⟨b, off, none⟩ ∧ OpAt w b (off + i * 4) o ∧ IntsIn w o.la o.l
theorem OpsIn.kept0 {w w' : World} {a : Option Addr} {l : List OpV} (h : OpsIn w a l) (k : Kept0 w w') : OpsIn w' a l := fun i o ho => by
  obtain ⟨b, off, ha, h1, h2⟩ := h i o ho
  exact ⟨b, off, ha, h1.kept0 k, h2.kept0 k⟩
/-- Numbers of 64 bits. -/
structure OpV.Ok (o : OpV) : Prop where
  n : -9223372036854775808 ≤ o.n ∧ o.n ≤ 9223372036854775807
  m : -9223372036854775808 ≤ o.m ∧ o.m ≤ 9223372036854775807
  l : o.l.length ≤ 9223372036854775807
def OpsOk (l : List OpV) : Prop := ∀ (i : Nat) (o : OpV), l[i]? = some o → o.Ok

def fewB (l : List OpV) : Bool := (l.all fun o => decide (o.l.length ≤ 20)) && decide (l.length ≤ 40)
theorem fewB_of {l : List OpV} {n : Nat} (hn : n = l.length) (h : ∀ j o, j < n → l[j]? = some o → o.l.length ≤ 20) : fewB l = decide (n ≤ 40) := by
  unfold fewB
  have : (l.all fun o => decide (o.l.length ≤ 20)) = true := by
    rw [List.all_eq_true]
    intro o ho
    obtain ⟨i, hi, rfl⟩ := List.getElem_of_mem ho
    rw [decide_eq_true_eq]
    exact h i l[i] (by omega) (List.getElem?_eq_getElem hi)
  rw [this, hn]
  rfl
theorem fewB_big {l : List OpV} {k : Nat} {o : OpV} (ho : l[k]? = some o) (h : ¬ o.l.length ≤ 20) : fewB l = false := by
  unfold fewB
  have : (l.all fun o => decide (o.l.length ≤ 20)) = false := by
    rw [List.all_eq_false]
    exact ⟨o, List.mem_of_getElem? ho, by simp; omega⟩
  rw [this]
  rfl


theorem lit816 : listN 20 (everyF (8 : Nat)) = [8, 16] := by decide
theorem two_ints (w : World) (b : Nat) (x y : Int) (h : w.heap[b]? = some (.cells #[.int .i64 x, .int .i64 y] 3 (0, 0))) : IntsIn w (some ⟨b, 0, none⟩) [x, y] := fun k z hz => by
  refine ⟨b, 0, rfl, ?_⟩
  match k, hz with
  | 0, hz => simp at hz; subst hz; simp [World.cell?, h]
  | 1, hz => simp at hz; subst hz; simp [World.cell?, h]

theorem lit1 : nextN 20 (everyF (8 : Nat)) 8 = 16 := by decide
theorem lit2 : nextN 20 (everyF (8 : Nat)) 16 = 19 := by decide
theorem lit3 : prevN 20 (everyF (8 : Nat)) 8 = 0 := by decide
theorem lit4 : goN 20 (everyF (8 : Nat)) 0 2 = 16 := by decide

end Tb
end Go.Proofs.YtkpfhgfdfndliaaGreatDoor
