/-
  What number and Or answer.
-/
import Derived.Test.YtadcnfenchemhaaDoorSeq
import Derived.Lib.ConvBytes
import Derived.Deep.AppendLies
import Derived.Deep.OwnRows
namespace Go.Proofs.YtadcnfenchemhaaDoor
open Go.RowKit

/-- A part's number, and whether it is one. -/
def numRes (p : List UInt8) : Value := match partN p with
  | some n => .tuple #[.int .i64 n, .bool true]
  | none => .tuple #[.int .i64 0, .bool false]

theorem toList_ne {p : ByteArray} (h : p.data.toList ≠ []) : p.toList.isEmpty = false := by
  rw [Lib.toList_data]
  cases hp : p.data.toList with
  | nil => exact absurd hp h
  | cons a l => rfl
/-- The smaller one of two numbers, as the walk leaves it. -/
theorem digit_nums {c : UInt8} {n : Int} (h : noDig c = false) (h0 : 0 ≤ n) (h1 : n ≤ 9999) : IntKind.u8.wrap ((c.toNat : Int) - 48) = (c.toNat : Int) - 48 ∧ IntKind.i64.wrap (n * 10) = n * 10 ∧ IntKind.i64.wrap ((c.toNat : Int) - 48) = (c.toNat : Int) - 48 ∧ IntKind.i64.wrap (n * 10 + ((c.toNat : Int) - 48)) = n * 10 + ((c.toNat : Int) - 48) := by
  simp [noDig] at h
  have hc := UInt8.toNat_lt c
  refine ⟨?_, ?_, ?_, ?_⟩ <;> simp [IntKind.wrap, IntKind.bits, IntKind.signed] <;> omega

set_option maxRecDepth 100000 in
set_option maxHeartbeats 2000000 in
theorem number_any (p : ByteArray) (hsz : p.size ≤ 1152921504606846976) (w : World) : Calls Tryd.prog 23 #[.string p] w fun e w' => e = .returned (numRes p.data.toList) ∧ Kept0 w w' := by
  by_cases hp : p.data.toList = []
  · obtain ⟨⟨l⟩⟩ := p
    simp only at hp
    subst hp
    go_enter Tryd.func23, Tryd.ntmps23
    go_wp2_with fail
    go_ret2
    exact ⟨rfl, Kept.refl _ _⟩
  · have hte := toList_ne hp
    have hcv : ∀ w, (convert 9 49 (.string p)).run Tryd.prog w = .ok (.slice (some ⟨w.heap.size, 0, none⟩) p.size (grownCap w p.size 0 5)) (Lib.bytesWorld w 5 p) := fun w => Lib.run_convert_string_bytes w 9 49 5 p Tryd.underlying9 Tryd.underlying49 Tryd.underlying5
    obtain ⟨R, hR⟩ : ∃ R, R = numRes p.data.toList := ⟨_, rfl⟩
    have HR : Hid (R = match digN p.data.toList 0 with | some n => .tuple #[.int .i64 n, .bool true] | none => .tuple #[.int .i64 0, .bool false]) := by
      rw [hR]
      unfold numRes partN
      cases hl : p.data.toList with
      | nil => exact absurd hl hp
      | cons a l => rfl
    rw [← hR]
    clear hR hp
    go_enter Tryd.func23, Tryd.ntmps23
    go_wp2_with fail
    obtain ⟨W, hW⟩ : ∃ W, W = Lib.bytesWorld w 5 p := ⟨_, rfl⟩
    have hcell : Hid (∀ j, j < p.size → W.cell? ⟨w.heap.size, j, none⟩ = some (.int .u8 (p.data.toList.getD j 0).toNat)) := fun j hj => by rw [hW]; exact Lib.bytesWorld_cell w 5 p j hj
    have hkW : Kept0 w W := by
      rw [hW]
      exact ⟨rfl, rfl, rfl, by rw [Lib.bytesWorld_size]; omega, fun j hj _ => Lib.bytesWorld_at_old w 5 p j hj⟩
    have HD0 : Hid (digN p.data.toList 0 = digN (p.data.toList.drop 0) 0) := rfl
    rw [← hW]
    clear hW hcv hte
    go_loopw [4, 6, 12] (fun s4 _ s12 wr => ∃ (k : Nat) (n : Int), k ≤ p.size ∧ s12 = .int .i64 (k : Int) ∧ s4 = .int .i64 n ∧ 0 ≤ n ∧ n ≤ 9999 ∧ Hid (digN p.data.toList 0 = digN (p.data.toList.drop k) n) ∧ wr = W) (fun _ _ s12 _ => p.size - (intOf s12).toNat)
    case atStart => exact ⟨0, 0, by omega, rfl, rfl, by omega, by omega, HD0, rfl⟩
    case round =>
      clear HD0
      obtain ⟨k, n, hk, rfl, rfl, hn0, hn1, HD, rfl⟩ := hrel
      by_cases hlt : k < p.size
      · have hc := hcell.out k hlt
        have hl : k < p.data.toList.length := by simpa using hlt
        have hdr : p.data.toList.drop k = p.data.toList.getD k 0 :: p.data.toList.drop (k + 1) := by
          rw [List.drop_eq_getElem_cons hl, List.getD, List.getElem?_eq_getElem hl]; rfl
        obtain ⟨c, hcc⟩ : ∃ c, c = p.data.toList.getD k 0 := ⟨_, rfl⟩
        rw [← hcc] at hc hdr
        have HE : Hid (digN p.data.toList 0 = digN (c :: p.data.toList.drop (k + 1)) n) := by rw [← hdr]; exact HD.out
        clear hcc hdr HD hl
        clear hcell
        have hdk : decide ((k : Int) < (p.size : Int)) = true := by simp; omega
        cases hd : noDig c with
        | true =>
          have hR : R = .tuple #[.int .i64 0, .bool false] := by rw [HR.out, HE.out, digN_bad hd]
          have HRR := Lib.hid hR
          simp [noDig] at hd
          clear hR HR HE
          by_cases h48 : (c.toNat : Int) < 48
          · clear hd
            go_wp2_with fail
            go_ret2
            exact ⟨by rw [HRR.out]; rfl, hkW⟩
          · have h57 : (57 : Int) < (c.toNat : Int) := by omega
            have d48 : decide ((c.toNat : Int) < 48) = false := by simpa using h48
            clear hd h48
            go_wp2_with fail
            go_ret2
            exact ⟨by rw [HRR.out]; rfl, hkW⟩
        | false =>
          obtain ⟨n1, n2, n3, n4⟩ := digit_nums hd hn0 hn1
          have HN := Lib.hid hd
          simp [noDig] at hd
          have d48 : decide ((c.toNat : Int) < 48) = false := by simp; omega
          have d57 : decide ((57 : Int) < (c.toNat : Int)) = false := by simp; omega
          clear hd
          go_wp2_with fail
          go_roundw
          case rel => exact ⟨k + 1, stepN n c, by omega, by go_num, by simp [stepN], stepN_nonneg hn0 HN.out, stepN_le _ _, by rw [← digN_go HN.out]; exact HE.out, trivial⟩
          case measure => simp [intOf]; omega
      · obtain rfl : k = p.size := by omega
        have hdk : decide ((p.size : Int) < (p.size : Int)) = false := by simp
        have hR : R = .tuple #[.int .i64 n, .bool true] := by
          rw [HR.out, HD.out, show p.data.toList.drop p.size = [] from List.drop_eq_nil_of_le (by simp)]
          rfl
        have HRR := Lib.hid hR
        clear hR HR HD hcell
        go_wp2_with fail
        go_ret2
        exact ⟨by rw [HRR.out]; rfl, hkW⟩
end Go.Proofs.YtadcnfenchemhaaDoor
