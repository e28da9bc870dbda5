/-
  What Put does.
-/
import Derived.Test.YtkfphgcbpphbnaaSteps
namespace Go.Proofs.Ytkfphgcbpphbnaa
open Go.RowKit Go.Maps Go.ChangeMaps Go.MapKept

/-- All columns are there. -/
def Ins (N : Nat) (l : List Int) : Prop := ∀ x ∈ l, 0 ≤ x ∧ x < (N : Int)
instance (N : Nat) (l : List Int) : Decidable (Ins N l) := inferInstanceAs (Decidable (∀ x ∈ l, 0 ≤ x ∧ x < (N : Int)))

set_option maxHeartbeats 1000000 in
theorem put_bad (t m N : Nat) (f : Nat → Bool) (on : Bool) (a : Option Addr) (cap : Nat) (l : List Int) (w : World) (h : TabsAt w t m N f) (hl : IntsIn w a l) (hn : l.length ≤ 9223372036854775807) (hb : ¬ Ins N l) :
    Calls Try.prog 18 #[.pointer (some ⟨t, 0, none⟩), .bool on, .slice a l.length cap] w fun e w' => e = .returned (.int .i64 11) ∧ Kept0 w w' := by
  have c0 := h.c0
  have h1 := h.N1
  have h2 := h.N2
  obtain ⟨n, hnl⟩ : ∃ n, n = l.length := ⟨_, rfl⟩
  rw [← hnl] at hn ⊢
  have HN := Lib.hid hnl
  have HB := Lib.hid hb
  clear hnl hb
  go_enter Try.func18, Try.ntmps18
  go_wp2_with fail
  go_loopw [15] (fun i wr => ∃ k : Nat, k ≤ n ∧ i = .int .i64 (k : Int) ∧ (∀ j x, j < k → l[j]? = some x → 0 ≤ x ∧ x < (N : Int)) ∧ w = wr) (fun i _ => n - (num i).toNat)
  case atStart => exact ⟨0, by omega, rfl, fun j x hj => by omega, rfl⟩
  case round =>
    obtain ⟨k, hk, rfl, hp, rfl⟩ := hrel
    by_cases hlt : k < n
    · obtain ⟨x, hx⟩ : ∃ x, l[k]? = some x := ⟨_, List.getElem?_eq_getElem (by rw [← HN.out]; exact hlt)⟩
      obtain ⟨b, off, rfl, hc⟩ := hl k x hx
      have HP : Hid (0 ≤ x ∧ x < (N : Int) → ∀ j y, j < k + 1 → l[j]? = some y → 0 ≤ y ∧ y < (N : Int)) := fun hi j y hj hy => by
        by_cases e : j = k
        · subst e; rw [hx] at hy; cases hy; exact hi
        · exact hp j y (by omega) hy
      clear hp hx
      by_cases hi : 0 ≤ x ∧ x < (N : Int)
      · have hnr := nr_in x N hi.1 hi.2
        have HI := Lib.hid hi
        clear hi
        go_wp2_with fail
        refine (near_any t N _ _ c0 h1 h2).mono ?_
        rw [hnr]
        rintro e w1 ⟨rfl, rfl⟩
        go_wp2_with fail
        go_roundw
        case rel => exact ⟨k + 1, by omega, by go_num, HP.out HI.out, by trivial⟩
        case measure => simp [num]; omega
      · have hnr : ¬ nr x N = x := nr_out hi (by omega)
        clear hi
        go_wp2_with fail
        refine (near_any t N _ _ c0 h1 h2).mono ?_
        rintro e w1 ⟨rfl, rfl⟩
        go_wp2_with fail
        go_ret
        exact ⟨rfl, Kept.refl _ _⟩
    · exact absurd (fun x hx => by
        obtain ⟨i, hi, rfl⟩ := List.getElem_of_mem hx
        exact hp i _ (by have := HN.out; omega) (List.getElem?_eq_getElem hi)) HB.out

set_option maxHeartbeats 2000000 in
theorem put_ok (t m N : Nat) (f : Nat → Bool) (on : Bool) (a : Option Addr) (cap : Nat) (l : List Int) (w : World) (h : TabsAt w t m N f) (hl : IntsIn w a l) (hn : l.length ≤ 9223372036854775807) (hb : Ins N l) :
    Calls Try.prog 18 #[.pointer (some ⟨t, 0, none⟩), .bool on, .slice a l.length cap] w fun e w' => e = .returned (.int .i64 0) ∧ TabsAt w' t m N (putF f on l) ∧ Kept (· = m) w w' := by
  have c0 := h.c0
  have h1 := h.N1
  have h2 := h.N2
  obtain ⟨n, hnl⟩ : ∃ n, n = l.length := ⟨_, rfl⟩
  rw [← hnl] at hn ⊢
  have HN := Lib.hid hnl
  have HB := Lib.hid hb
  clear hnl hb
  go_enter Try.func18, Try.ntmps18
  go_wp2_with fail
  go_loopw [15] (fun i wr => ∃ k : Nat, k ≤ n ∧ i = .int .i64 (k : Int) ∧ w = wr) (fun i _ => n - (num i).toNat)
  case atStart => exact ⟨0, by omega, rfl, rfl⟩
  case round =>
    obtain ⟨k, hk, rfl, rfl⟩ := hrel
    by_cases hlt : k < n
    · obtain ⟨x, hx⟩ : ∃ x, l[k]? = some x := ⟨_, List.getElem?_eq_getElem (by rw [← HN.out]; exact hlt)⟩
      obtain ⟨b, off, rfl, hc⟩ := hl k x hx
      have hi := HB.out x (List.mem_of_getElem? hx)
      have hnr := nr_in x N hi.1 hi.2
      clear hi hx
      go_wp2_with fail
      refine (near_any t N _ _ c0 h1 h2).mono ?_
      rw [hnr]
      rintro e w1 ⟨rfl, rfl⟩
      go_wp2_with fail
      go_roundw
      case rel => exact ⟨k + 1, by omega, by go_num, by trivial⟩
      case measure => simp [num]; omega
    · go_wp2_with fail
      clear hk hlt
      go_loopw [27] (fun i wr => ∃ k : Nat, k ≤ n ∧ i = .int .i64 (k : Int) ∧ TabsAt wr t m N (putF f on (l.take k)) ∧ Kept (· = m) w wr) (fun i _ => n - (num i).toNat)
      case atStart => exact ⟨0, by omega, rfl, by rw [List.take_zero, putF_nil]; exact h, Kept.refl _ _⟩
      case round =>
        obtain ⟨k, hk, rfl, hT, hkr⟩ := hrel
        by_cases hlt : k < n
        · obtain ⟨x, hx⟩ : ∃ x, l[k]? = some x := ⟨_, List.getElem?_eq_getElem (by rw [← HN.out]; exact hlt)⟩
          obtain ⟨b, off, rfl, hc⟩ := hl.keptM h.set hkr k x hx
          have hi := HB.out x (List.mem_of_getElem? hx)
          obtain ⟨y, rfl⟩ := Int.eq_ofNat_of_zero_le hi.1
          have hy : y < N := by omega
          have HS : Hid (putF f on (l.take (k + 1)) = upd (putF f on (l.take k)) y on) := by
            rw [List.take_add_one, hx]
            exact putF_snoc f on (l.take k) y
          have c1 := hT.c1
          obtain ⟨D, hown, hs⟩ := hT.set
          have HD := Lib.hid hs
          have HT := Lib.hid hT
          have HI := Lib.hid hown.isMap
          clear hi hx hs hT
          cases on with
          | true =>
            go_wp2_with (at_mapUpdate; refine wpList_mapUpdate_in _ rfl _ _ _ 54 rfl 3 62 law Try.underlying54 _ m N D rfl hown (by unfold maxLen; omega) _ _ _ rfl rfl (key_nat (by omega)) _ [] unitElem_mk ?_; intro w1 hown1 hturn1)
            have hk1 := turned_kept hturn1
            have hS1 : SetAt w1 m N (putF f true (l.take (k + 1))) := by rw [HS.out]; exact SetAt.of hown1 (HD.out.put HI.out hy _)
            go_wp2_with fail
            go_roundw
            case rel => exact ⟨k + 1, by omega, by go_num, HT.out.withSet hk1 hS1, hkr.trans hk1⟩
            case measure => simp [num]; omega
          | false =>
            go_wp2_with (at_delete; refine wpList_delete_own _ rfl _ _ 54 3 rfl 62 law Try.underlying54 _ m N D rfl hown _ _ rfl (key_nat (by omega)) ?_; intro w1 hown1 hturn1)
            have hk1 := turned_kept hturn1
            have hS1 : SetAt w1 m N (putF f false (l.take (k + 1))) := by rw [HS.out]; exact SetAt.of hown1 (HD.out.del y)
            go_wp2_with fail
            go_roundw
            case rel => exact ⟨k + 1, by omega, by go_num, HT.out.withSet hk1 hS1, hkr.trans hk1⟩
            case measure => simp [num]; omega
        · have hT' : TabsAt wr t m N (putF f on l) := by
            rw [List.take_of_length_le (by have := HN.out; omega)] at hT
            exact hT
          go_wp2_with fail
          go_ret
          exact ⟨rfl, hT', hkr⟩
end Go.Proofs.Ytkfphgcbpphbnaa
