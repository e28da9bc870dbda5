/-
  What the document's Numbers answers.
-/
import Derived.Test.YtadcnfenchemhaaDoorIntC
namespace Go.Proofs.YtadcnfenchemhaaDoor
open Go.RowKit

/-- What is answered of a text: its numbers, or that it has none. -/
def NumsAns (o : Option (List Int)) (e : Ending) (w' : World) : Prop := match o with
  | none => e = .returned (.tuple #[.slice none 0 0, .bool false])
  | some l => ∃ a cap, e = .returned (.tuple #[.slice a l.length cap, .bool true]) ∧ IntsIn w' a l

theorem step_in {c : UInt8} {n : Int} (h : noDig c = false) (h0 : -1 ≤ n) (h1 : n ≤ 9999) : IntKind.u8.wrap ((c.toNat : Int) - 48) = (c.toNat : Int) - 48 ∧ IntKind.i64.wrap (10 * max n 0) = 10 * max n 0 ∧ IntKind.i64.wrap ((c.toNat : Int) - 48) = (c.toNat : Int) - 48 ∧ IntKind.i64.wrap (10 * max n 0 + ((c.toNat : Int) - 48)) = 10 * max n 0 + ((c.toNat : Int) - 48) := by
  simp [noDig] at h
  have hc := UInt8.toNat_lt c
  refine ⟨?_, ?_, ?_, ?_⟩ <;> simp [IntKind.wrap, IntKind.bits, IntKind.signed] <;> omega
theorem step_eq (c : UInt8) (n : Int) : stepN (max n 0) c = min (10 * max n 0 + ((c.toNat : Int) - 48)) 9999 := by unfold stepN; omega
theorem stepN_lo {c : UInt8} {n : Int} (h : noDig c = false) : -1 ≤ stepN (max n 0) c := by have := stepN_nonneg (n := max n 0) (c := c) (by omega) h; omega

set_option maxRecDepth 100000 in
set_option maxHeartbeats 4000000 in
theorem refNumbers_any (s : ByteArray) (hsz : s.size ≤ 1000) (w : World) : Calls Tryd.prog 11 #[.string s] w fun e w' => NumsAns (refV s.data.toList) e w' ∧ Kept0 w w' := by
  by_cases hne : s.data.toList = []
  · obtain ⟨⟨l⟩⟩ := s
    simp only at hne
    subst hne
    go_enter Tryd.func11, Tryd.ntmps11
    go_wp2_with fail
    go_loopw [4, 5, 6] (fun s4 _ s6 wr => s4 = .slice none 0 0 ∧ s6 = .int .i64 0 ∧ wr = w) (fun _ _ _ _ => 0)
    case atStart => exact ⟨rfl, rfl, rfl⟩
    case round =>
      obtain ⟨rfl, rfl, rfl⟩ := hrel
      go_wp2_with fail
      go_ret2
      exact ⟨⟨none, 0, rfl, fun i x hx => by simp at hx⟩, Kept.refl _ _⟩
  · have hv : refV s.data.toList = refN s.data.toList (-1) := by
      cases hl : s.data.toList with
      | nil => exact absurd hl hne
      | cons a l => rfl
    have hpos : 0 < s.size := by
      have : s.data.toList.length ≠ 0 := fun e => hne (List.eq_nil_of_length_eq_zero e)
      have h2 : s.data.toList.length = s.size := by simp
      omega
    obtain ⟨R, hR⟩ : ∃ R, R = refV s.data.toList := ⟨_, rfl⟩
    rw [← hR] at hv ⊢
    have HV : Hid (R = (refN (s.data.toList.drop 0) (-1)).map ([] ++ ·)) := by
      rw [hv, List.drop_zero]
      cases refN s.data.toList (-1) <;> rfl
    clear hR hv hne
    obtain ⟨i0, hi, hz0, hz1, hz2⟩ := info_parts info3
    go_enter Tryd.func11, Tryd.ntmps11
    go_wp2_with fail
    go_loopw [4, 5, 6] (fun s4 s5 s6 wr => ∃ (k : Nat) (done : List Int) (n : Int), k ≤ s.size ∧ s6 = .int .i64 (k : Int) ∧ s5 = .int .i64 n ∧ -1 ≤ n ∧ n ≤ 9999 ∧ done.length ≤ k ∧ Hid (R = (refN (s.data.toList.drop k) n).map (done ++ ·)) ∧ wr.ownsRow w.heap.size 3 1 s4 done.length (done.map encI) ∧ Kept0 w wr) (fun _ _ s6 _ => s.size - (intOf s6).toNat)
    case atStart => exact ⟨0, [], -1, by omega, rfl, rfl, by omega, by omega, by simp, HV, World.ownsRow_nil _ _ _ _, Kept.refl _ _⟩
    case round =>
      clear HV
      obtain ⟨k, done, n, hk, rfl, rfl, hn0, hn1, hdl, HV, hown, hkr⟩ := hrel
      have hsr := hkr.size
      by_cases hlt : k < s.size
      · have hl : k < s.data.toList.length := by simpa using hlt
        obtain ⟨c, hcc⟩ : ∃ c, c = s[k]'hlt := ⟨_, rfl⟩
        have hdr : s.data.toList.drop k = c :: s.data.toList.drop (k + 1) := by
          rw [List.drop_eq_getElem_cons hl, hcc]; rfl
        have HE : Hid (R = (refN (c :: s.data.toList.drop (k + 1)) n).map (done ++ ·)) := by rw [← hdr]; exact HV.out
        have hd : (s[k]'hlt).toNat = c.toNat := by rw [hcc]
        have hdk : decide ((k : Int) < (s.size : Int)) = true := by simp; omega
        clear hdr HV hl hcc
        by_cases h59 : c = 59
        · have HR : Hid (R = (refN (s.data.toList.drop (k + 1)) (-1)).map ((done ++ [n]) ++ ·)) := by
            rw [HE.out, refN, if_pos h59]
            cases refN (s.data.toList.drop (k + 1)) (-1) with
            | none => exact rfl
            | some l => refine Lib.hid ?_; simp
          have d59 : ((c.toNat : Int) == 59) = true := by rw [h59]; rfl
          clear HE h59
          go_wp2_with (at_builtin; refine wpList_append_own _ rfl _ _ 23 rfl w.heap.size 3 i0 (.int .i64 0) 1 8 Tryd.underlying23 hi hz0 hz1 hz2 rfl (by decide) _ _ _ rfl (hown.alloc _) ⟨wr.heap.size, 0, none⟩ 1 1 [.int .i64 n] rfl rfl (cell_one_new _ _ _) (by simp [Value.oneCell']) (by unfold maxLen; omega) (by omega) (by simp; omega) ?_)
          intro v' w1 hown' hgrow _
          have hkw : Kept0 w w1 := (hkr.alloc (.cells #[.int .i64 n] 3)).later (Kept.ofGrown hgrow) (fun i hi e => by have := (hown.lt _ e.symm).1; omega)
          have hown2 : w1.ownsRow w.heap.size 3 1 v' (done ++ [n]).length ((done ++ [n]).map encI) := by simpa [encI] using hown'
          obtain ⟨a, cap, rfl, _⟩ := ints_owned hown2
          have HO := Lib.hid hown2
          have hdl2 : (done ++ [n]).length ≤ k + 1 := by simp; omega
          have HL := Lib.hid hdl2
          clear hown2 hown hown' hgrow hdl2
          go_wp2_with fail
          go_roundw
          case rel => exact ⟨k + 1, done ++ [n], -1, by omega, by go_num, rfl, by omega, by omega, HL.out, HR.out, HO.out, hkw⟩
          case measure => simp [intOf]; omega
        · have d59 : ((c.toNat : Int) == 59) = false := by
            simp
            intro e
            exact h59 (UInt8.toNat_inj.1 (by have : (59 : UInt8).toNat = 59 := rfl; omega))
          cases hnd : noDig c with
          | true =>
            have HR : Hid (R = none) := by
              rw [HE.out, refN, if_neg h59, if_pos hnd]; exact rfl
            simp [noDig] at hnd
            clear HE h59
            by_cases h48 : (c.toNat : Int) < 48
            · clear hnd
              go_wp2_with fail
              go_ret2
              exact ⟨by rw [HR.out]; exact rfl, hkr⟩
            · have h57 : (57 : Int) < (c.toNat : Int) := by omega
              have d48 : decide ((c.toNat : Int) < 48) = false := by simpa using h48
              clear hnd h48
              go_wp2_with fail
              go_ret2
              exact ⟨by rw [HR.out]; exact rfl, hkr⟩
          | false =>
            obtain ⟨n1, n2, n3, n4⟩ := step_in hnd hn0 hn1
            have HR : Hid (R = (refN (s.data.toList.drop (k + 1)) (stepN (max n 0) c)).map (done ++ ·)) := by
              rw [HE.out, refN, if_neg h59, if_neg (by rw [hnd]; simp)]; exact rfl
            have HS : Hid (-1 ≤ stepN (max n 0) c) := stepN_lo hnd
            simp [noDig] at hnd
            have d48 : decide ((c.toNat : Int) < 48) = false := by simp; omega
            have d57 : decide ((57 : Int) < (c.toNat : Int)) = false := by simp; omega
            obtain ⟨a, cap, rfl, _⟩ := ints_owned hown
            have HO := Lib.hid hown
            clear HE h59 hnd hown
            go_wp2_with fail
            go_roundw
            case rel => exact ⟨k + 1, done, stepN (max n 0) c, by omega, by go_num, by rw [step_eq], HS.out, stepN_le _ _, by omega, HR.out, HO.out, hkr⟩
            case measure => simp [intOf]; omega
      · obtain rfl : k = s.size := by omega
        have hdk : decide ((s.size : Int) < (s.size : Int)) = false := by simp
        have hdp : decide ((0 : Int) < (s.size : Int)) = true := by simp; omega
        have HR : Hid (R = some (done ++ [n])) := by
          rw [HV.out, show s.data.toList.drop s.size = [] from List.drop_eq_nil_of_le (by simp)]
          exact rfl
        clear HV
        go_wp2_with (at_builtin; refine wpList_append_own _ rfl _ _ 23 rfl w.heap.size 3 i0 (.int .i64 0) 1 8 Tryd.underlying23 hi hz0 hz1 hz2 rfl (by decide) _ _ _ rfl (hown.alloc _) ⟨wr.heap.size, 0, none⟩ 1 1 [.int .i64 n] rfl rfl (cell_one_new _ _ _) (by simp [Value.oneCell']) (by unfold maxLen; omega) (by omega) (by simp; omega) ?_)
        intro v' w1 hown' hgrow _
        have hkw : Kept0 w w1 := (hkr.alloc (.cells #[.int .i64 n] 3)).later (Kept.ofGrown hgrow) (fun i hi e => by have := (hown.lt _ e.symm).1; omega)
        have hown2 : w1.ownsRow w.heap.size 3 1 v' (done ++ [n]).length ((done ++ [n]).map encI) := by simpa [encI] using hown'
        obtain ⟨a, cap, rfl, hI⟩ := ints_owned hown2
        have HI := Lib.hid hI
        obtain ⟨L, hL⟩ : ∃ L, L = (done ++ [n]).length := ⟨_, rfl⟩
        rw [← hL]
        have HL := Lib.hid hL
        clear hown2 hown hown' hgrow hI hL
        go_wp2_with fail
        go_ret2
        exact ⟨by rw [HR.out]; exact ⟨a, cap, by rw [← HL.out]; rfl, HI.out⟩, hkw⟩
end Go.Proofs.YtadcnfenchemhaaDoor
