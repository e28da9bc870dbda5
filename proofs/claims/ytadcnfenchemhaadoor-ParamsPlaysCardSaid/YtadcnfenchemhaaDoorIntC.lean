/-
  Lists of numbers in memory; what ints and Or answer; what the document's Numbers answers.
-/
import Derived.Test.YtadcnfenchemhaaDoorNumC
import Derived.Test.YtadcnfenchemhaaDoorTruth
import Derived.Test.YtadcnfenchemhaaDoorCalm
namespace Go.Proofs.YtadcnfenchemhaaDoor
open Go.RowKit

def encI (x : Int) : Value := .int .i64 x
/-- A list of numbers in memory. -/
def IntsIn (w : World) (a : Option Addr) (l : List Int) : Prop := ∀ (k : Nat) (x : Int), l[k]? = some x → ∃ b off, a = some ⟨b, off, none⟩ ∧ w.cell? ⟨b, off + k, none⟩ = some (.int .i64 x)
theorem IntsIn.kept0 {w w' : World} {a : Option Addr} {l : List Int} (h : IntsIn w a l) (k : Kept0 w w') : IntsIn w' a l := fun i x hx => by
  obtain ⟨b, off, ha, hc⟩ := h i x hx
  exact ⟨b, off, ha, kcell k hc⟩
/-- A row of numbers that is owned. -/
theorem ints_owned {w : World} {base : Nat} {v : Value} {l : List Int} (h : w.ownsRow base 3 1 v l.length (l.map encI)) : ∃ a cap, v = .slice a l.length cap ∧ IntsIn w a l := by
  rcases h.2 with ⟨rfl, hz⟩ | ⟨gb, cap, cur, rfl, hbase, hgb, r1, r2, r3, r4⟩
  · exact ⟨none, 0, by rw [hz], fun k x hx => by rw [List.eq_nil_of_length_eq_zero hz] at hx; simp at hx⟩
  · refine ⟨_, cap, rfl, fun k x hx => ⟨gb, 0, rfl, ?_⟩⟩
    have hk : k < l.length := (List.getElem?_eq_some_iff.1 hx).1
    have h5 : (cur.toList.take l.length)[k]? = some (encI x) := by
      have : cur.toList.take l.length = l.map encI := by simpa using r4
      rw [this, List.getElem?_map, hx]; rfl
    rw [List.getElem?_take_of_lt hk] at h5
    simp [World.cell?, hgb]
    simpa [encI] using h5
theorem info3 : (Tryd.prog.info? 3).map (fun i => (i.zero, i.size, i.bytes)) = some (some (.int .i64 0), 1, 8) := by kernel_rfl
theorem info5 : (Tryd.prog.info? 5).map (fun i => (i.zero, i.size, i.bytes)) = some (some (.int .u8 0), 1, 1) := by kernel_rfl

set_option maxHeartbeats 1000000 in
theorem ints_same (a1 a2 : Option Addr) (c1 c2 : Nat) (l : List Int) (w : World) (h1 : IntsIn w a1 l) (h2 : IntsIn w a2 l) (hn : l.length ≤ 9223372036854775807) :
    Calls Tryd.prog 12 #[.slice a1 l.length c1, .slice a2 l.length c2] w fun e w' => e = .returned (.bool true) ∧ Kept0 w w' := by
  obtain ⟨n, hnl⟩ : ∃ n, n = l.length := ⟨_, rfl⟩
  rw [← hnl] at hn ⊢
  have HN := Lib.hid hnl
  clear hnl
  go_enter Tryd.func12, Tryd.ntmps12
  go_wp2_with fail
  go_loopw [5] (fun i wr => ∃ k : Nat, k ≤ n ∧ i = .int .i64 (k : Int) ∧ Kept0 w wr) (fun i _ => n - (intOf i).toNat)
  case atStart => exact ⟨0, by omega, rfl, Kept.refl _ _⟩
  case round =>
    obtain ⟨k, hk, rfl, hkr⟩ := hrel
    by_cases hlt : k < n
    · obtain ⟨x, hx⟩ : ∃ x, l[k]? = some x := ⟨_, List.getElem?_eq_getElem (by rw [← HN.out]; exact hlt)⟩
      obtain ⟨b, off, rfl, hc⟩ := h1 k x hx
      obtain ⟨b', off', rfl, hc'⟩ := h2 k x hx
      have cx := kcell hkr hc
      have cy := kcell hkr hc'
      clear hc hc' hx
      go_wp2_with fail
      go_quiet (fail)
      go_wp2
      go_roundw
      case rel => exact ⟨k + 1, by omega, by go_num, hkr.drewN _⟩
      case measure => simp [intOf]; omega
    · obtain rfl : k = n := by omega
      go_wp2_with fail
      go_ret
      exact ⟨rfl, hkr⟩

/-- What is taken for a number of a list. -/
def orV (l : List Int) (at_ other : Int) : Int := if 0 ≤ at_ ∧ at_ < l.length ∧ 0 ≤ l.getD at_.toNat 0 then l.getD at_.toNat 0 else other
theorem or_any (a : Option Addr) (c : Nat) (l : List Int) (at_ other : Int) (w : World) (h : IntsIn w a l) :
    Calls Tryd.prog 13 #[.slice a l.length c, .int .i64 at_, .int .i64 other] w fun e w' => e = .returned (.int .i64 (orV l at_ other)) ∧ Kept0 w w' := by
  by_cases h0 : at_ < 0
  · rw [show orV l at_ other = other from if_neg (by omega)]
    go_enter Tryd.func13, Tryd.ntmps13
    go_wp2_with fail
    go_ret
    exact ⟨rfl, Kept.refl _ _⟩
  · have d0 : decide (at_ < 0) = false := by simpa using h0
    by_cases h1 : (l.length : Int) ≤ at_
    · rw [show orV l at_ other = other from if_neg (by omega)]
      have d1 : decide ((l.length : Int) ≤ at_) = true := by simpa using h1
      clear h
      go_enter Tryd.func13, Tryd.ntmps13
      go_wp2_with fail
      go_ret
      exact ⟨rfl, Kept.refl _ _⟩
    · obtain ⟨k, rfl⟩ := Int.eq_ofNat_of_zero_le (show 0 ≤ at_ by omega)
      have hk : k < l.length := by omega
      have d1 : decide ((l.length : Int) ≤ (k : Int)) = false := by simp; omega
      obtain ⟨x, hx⟩ : ∃ x, l[k]? = some x := ⟨_, List.getElem?_eq_getElem hk⟩
      have hg : l.getD k 0 = x := by rw [List.getD, hx]; rfl
      obtain ⟨b, off, rfl, hc⟩ := h k x hx
      obtain ⟨n, hnl⟩ : ∃ n, n = l.length := ⟨_, rfl⟩
      have hV : orV l k other = if x < 0 then other else x := by
        unfold orV
        rw [Int.toNat_natCast, hg]
        by_cases hx0 : x < 0
        · rw [if_neg (by omega), if_pos hx0]
        · rw [if_pos (by omega), if_neg hx0]
      obtain ⟨V, hVV⟩ : ∃ V, V = orV l k other := ⟨_, rfl⟩
      rw [← hVV] at hV ⊢
      rw [← hnl] at hk d1 ⊢
      clear h hx hg hnl hVV h1
      by_cases hx0 : x < 0
      · rw [if_pos hx0] at hV
        subst hV
        go_enter Tryd.func13, Tryd.ntmps13
        go_wp2_with fail
        go_ret
        exact ⟨rfl, Kept.refl _ _⟩
      · rw [if_neg hx0] at hV
        have d2 : decide (x < 0) = false := by simpa using hx0
        subst hV
        go_enter Tryd.func13, Tryd.ntmps13
        go_wp2_with fail
        go_ret
        exact ⟨rfl, Kept.refl _ _⟩
end Go.Proofs.YtadcnfenchemhaaDoor
