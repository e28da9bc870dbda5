/-
  What the document's Names answers.
-/
import Derived.Test.YtacnoakgfkcfbaaDoorTexts
import Derived.Test.YtacnoakgfkcfbaaDoorRef
import Derived.Test.YtacnoakgfkcfbaaDoorBitsOf
import Derived.Test.YtacnoakgfkcfbaaDoorTree
import Derived.Laws.IdiomStrings
namespace Go.Proofs.YtacnoakgfkcfbaaDoor
open Go.RowKit

theorem word_any (k : Nat) (hk : k < 6) (w : World) : Calls Tryd.prog 32 #[.int .i64 (bitOf k : Int)] w fun e w' => e = .returned (.string (str (nameOf k))) ∧ w' = w := by
  have : k = 0 ∨ k = 1 ∨ k = 2 ∨ k = 3 ∨ k = 4 ∨ k = 5 := by omega
  rcases this with rfl | rfl | rfl | rfl | rfl | rfl
  all_goals
    go_enter Tryd.func32, Tryd.ntmps32
    go_wp2_with fail
    go_ret
    exact ⟨rfl, rfl⟩

theorem conv_one (d : Nat) (hd : d < 256) (w : World) (b : Nat) (h : w.cell? ⟨b, 0, none⟩ = some (.int .u8 (d : Int))) :
    (convert 52 9 (.slice (some ⟨b, 0, none⟩) 1 1)).run Tryd.prog w = .ok (.string ⟨#[UInt8.ofNat d]⟩) w := by
  refine run_convert_bytes_back w 52 9 5 ⟨b, 0, none⟩ 1 [UInt8.ofNat d] Tryd.underlying52 Tryd.underlying5 Tryd.underlying9 ?_
  intro j hj
  obtain rfl : j = 0 := by simp at hj; omega
  have e : ((UInt8.ofNat d).toNat : Int) = (d : Int) := by
    rw [UInt8.toNat_ofNat_of_lt' (by simpa [UInt8.size] using hd)]
  show w.cell? (Addr.add ⟨b, 0, none⟩ 0) = some (.int .u8 ((UInt8.ofNat d).toNat : Int))
  rw [e]
  exact h

theorem low_step {k : Nat} (hk : k < 6) : bitOf k ≤ 32 ∧ 2 * bitOf k = bitOf (k + 1) := by
  have : k = 0 ∨ k = 1 ∨ k = 2 ∨ k = 3 ∨ k = 4 ∨ k = 5 := by omega
  rcases this with rfl | rfl | rfl | rfl | rfl | rfl <;> decide

set_option maxRecDepth 100000 in
set_option maxHeartbeats 4000000 in
theorem refNames_core (n : Nat) (hn : n < 16384) (hM : Hid (∀ w, Calls Tryd.prog 8 #[.int .i64 (n : Int)] w fun e w' => e = .returned (.bool true) ∧ w' = w)) (w : World) :
    Calls Tryd.prog 20 #[.int .i64 (n : Int)] w fun e w' => e = .returned (.string (str (refT n))) ∧ Kept0 w w' := by
  have HB := Lib.hid (fun b h1 h2 w => bit_any n b (by omega) h1 h2 w)
  have HW := Lib.hid word_any
  have HF := Lib.hid (fore_any n hn)
  have HK := Lib.hid (backd_any n hn)
  obtain ⟨R, hR⟩ : ∃ R, R = str (refT n) := ⟨_, rfl⟩
  rw [← hR]
  have HR := Lib.hid hR
  clear hR
  go_enter Tryd.func20, Tryd.ntmps20
  go_wp2_with fail
  refine (hM.out _).mono ?_
  rintro e w1 ⟨rfl, rfl⟩
  go_wp2_with fail
  go_loopw [3, 4] (fun s3 s4 wr => ∃ k : Nat, k ≤ 6 ∧ s4 = .int .i64 (bitOf k : Int) ∧ s3 = .string (str (lowT n k)) ∧ wr = w1) (fun _ s4 _ => 64 - (intOf s4).toNat)
  case atStart => exact ⟨0, by omega, rfl, rfl, rfl⟩
  case round =>
    obtain ⟨k, hk, rfl, rfl, rfl⟩ := hrel
    by_cases hlt : k < 6
    · obtain ⟨hb32, hb2⟩ := low_step hlt
      have hb0 := bitOf_pos k
      have H1 := HB.out (bitOf k) hb0 (by omega)
      have H2 := Lib.hid (HW.out k hlt)
      have hll := lowT_len n k
      have hsz : (str (lowT n k)).size ≤ 48 := by
        show (lowT n k).toArray.size ≤ 48
        rw [List.size_toArray]; omega
      have hnz := nameOf_le k
      have hst : str (lowT n (k + 1)) = if bitN n (bitOf k) then (str (lowT n k) ++ ⟨#[44]⟩) ++ str (nameOf k) else str (lowT n k) := by
        rw [show (⟨#[44]⟩ : ByteArray) = str [44] from rfl, str_append, str_append, lowT]
        split <;> simp
      obtain ⟨x, hx⟩ : ∃ x, x = bitOf k := ⟨_, rfl⟩
      obtain ⟨S, hS⟩ : ∃ S, S = str (lowT n k) := ⟨_, rfl⟩
      obtain ⟨T, hT⟩ : ∃ T, T = str (nameOf k) := ⟨_, rfl⟩
      rw [← hS, ← hx, ← hT] at hst
      rw [← hS] at hsz
      rw [← hT] at hnz H2
      rw [← hx] at H1 H2 hb32 hb2 hb0
      rw [← hS, ← hx]
      clear hS hx hT hll
      cases hb : bitN n x
      · rw [hb] at H1 hst
        replace H1 := Lib.hid H1
        have HS := Lib.hid hst
        have HX := Lib.hid hb2
        clear hst hb2
        go_wp2_with fail
        refine (H1.out _).mono ?_
        rintro e w2 ⟨rfl, rfl⟩
        go_wp2_with fail
        go_roundw
        case rel => exact ⟨k + 1, by omega, by rw [← HX.out]; go_num, by rw [HS.out]; rfl, trivial⟩
        case measure => simp [intOf]; omega
      · rw [hb, if_pos rfl] at hst
        rw [hb] at H1
        replace H1 := Lib.hid H1
        have HS := Lib.hid hst
        have HX := Lib.hid hb2
        clear hst hb2
        go_wp2_with fail
        refine (H1.out _).mono ?_
        rintro e w2 ⟨rfl, rfl⟩
        go_wp2_with fail
        refine (H2.out _).mono ?_
        rintro e w2 ⟨rfl, rfl⟩
        go_wp2_with fail
        go_roundw
        case rel => exact ⟨k + 1, by omega, by rw [← HX.out]; go_num, by rw [HS.out], trivial⟩
        case measure => simp [intOf]; omega
    · obtain rfl : k = 6 := by omega
      rw [show (bitOf 6 : Int) = 64 from rfl]
      have H1 := HB.out 64 (by omega) (by omega)
      have hll := lowT_len n 6
      have hsz : (str (lowT n 6)).size ≤ 48 := by
        show (lowT n 6).toArray.size ≤ 48
        rw [List.size_toArray]; omega
      have hfull : fullT n = lowT n 6 ++ highT n := rfl
      have href : refT n = if fullT n = [] then [112, 108, 97, 105, 110] else (fullT n).drop 1 := rfl
      cases hb : bitN n 64
      · have hh : highT n = [] := by unfold highT; rw [hb]; rfl
        rw [hh, List.append_nil] at hfull
        rw [hfull] at href
        rw [hb] at H1
        replace H1 := Lib.hid H1
        clear hll hfull hh
        by_cases he : lowT n 6 = []
        · rw [if_pos he] at href
          rw [he, show str [] = (⟨#[]⟩ : ByteArray) from rfl]
          rw [href] at HR
          clear href hsz he HB HW HF HK
          go_wp2_with fail
          refine (H1.out _).mono ?_
          rintro e w2 ⟨rfl, rfl⟩
          go_wp2_with fail
          go_ret
          exact ⟨by rw [HR.out]; rfl, Kept.refl _ _⟩
        · rw [if_neg he] at href
          have h1 : (1 : Int) ≤ (str (lowT n 6)).size := by
            have : 0 < (lowT n 6).length := List.length_pos_iff.2 he
            show (1 : Int) ≤ ((lowT n 6).toArray.size : Int)
            rw [List.size_toArray]; omega
          have hE : (str (lowT n 6)).toList.isEmpty = false := by
            rw [Lib.toList_data]
            show (lowT n 6).isEmpty = false
            cases hx : lowT n 6 with
            | nil => exact absurd hx he
            | cons _ _ => rfl
          rw [href, show str ((lowT n 6).drop 1) = (str (lowT n 6)).extract 1 (str (lowT n 6)).size from (extract_str (str (lowT n 6)) 1).symm] at HR
          obtain ⟨S, hS⟩ : ∃ S, S = str (lowT n 6) := ⟨_, rfl⟩
          rw [← hS] at HR h1 hE hsz ⊢
          clear href he HB HW HF HK hS
          go_wp2_with fail
          refine (H1.out _).mono ?_
          rintro e w2 ⟨rfl, rfl⟩
          go_wp2_with fail
          go_ret
          exact ⟨by rw [HR.out]; rfl, Kept.refl _ _⟩
      · rw [hb] at H1
        replace H1 := Lib.hid H1
        obtain ⟨S, hS⟩ : ∃ S, S = str (lowT n 6) := ⟨_, rfl⟩
        rw [← hS] at hsz ⊢
        have hf8 : n / 256 % 8 < 8 := by omega
        have hb8 : n / 2048 % 8 < 8 := by omega
        obtain ⟨fo, hfo⟩ : ∃ fo, fo = n / 256 % 8 := ⟨_, rfl⟩
        obtain ⟨ba, hba⟩ : ∃ ba, ba = n / 2048 % 8 := ⟨_, rfl⟩
        rw [← hfo] at HF hf8
        rw [← hba] at HK hb8
        have hL1 : (⟨#[44, 102, 111, 114, 101, 61]⟩ : ByteArray).size = 6 := rfl
        have hL2 : (⟨#[44, 98, 97, 99, 107, 61]⟩ : ByteArray).size = 6 := rfl
        have hcF : ∀ (w : World) (b : Nat), w.cell? ⟨b, 0, none⟩ = some (.int .u8 (48 + (fo : Int))) → (convert 52 9 (.slice (some ⟨b, 0, none⟩) 1 1)).run Tryd.prog w = .ok (.string ⟨#[UInt8.ofNat (48 + fo)]⟩) w := fun w b h => conv_one (48 + fo) (by omega) w b h
        have hcB : ∀ (w : World) (b : Nat), w.cell? ⟨b, 0, none⟩ = some (.int .u8 (48 + (ba : Int))) → (convert 52 9 (.slice (some ⟨b, 0, none⟩) 1 1)).run Tryd.prog w = .ok (.string ⟨#[UInt8.ofNat (48 + ba)]⟩) w := fun w b h => conv_one (48 + ba) (by omega) w b h
        obtain ⟨DF, hDF⟩ : ∃ DF : ByteArray, DF = ⟨#[UInt8.ofNat (48 + fo)]⟩ := ⟨_, rfl⟩
        obtain ⟨DB, hDB⟩ : ∃ DB : ByteArray, DB = ⟨#[UInt8.ofNat (48 + ba)]⟩ := ⟨_, rfl⟩
        have hDFz : DF.size = 1 := by rw [hDF]; rfl
        have hDBz : DB.size = 1 := by rw [hDB]; rfl
        rw [← hDF] at hcF
        rw [← hDB] at hcB
        have hwF := wrap_in (48 + (fo : Int)) (by omega) (by omega)
        have hwB := wrap_in (48 + (ba : Int)) (by omega) (by omega)
        have hw8F : IntKind.u8.wrap (48 + (fo : Int)) = 48 + (fo : Int) := by
          simp [IntKind.wrap, IntKind.bits, IntKind.signed]
          omega
        have hw8B : IntKind.u8.wrap (48 + (ba : Int)) = 48 + (ba : Int) := by
          simp [IntKind.wrap, IntKind.bits, IntKind.signed]
          omega
        have hZZ : S ++ ⟨#[44, 102, 111, 114, 101, 61]⟩ ++ DF ++ ⟨#[44, 98, 97, 99, 107, 61]⟩ ++ DB = str (fullT n) := by
          rw [hS, hDF, hDB, show (⟨#[44, 102, 111, 114, 101, 61]⟩ : ByteArray) = str (44 :: nameOf 6) from rfl, show (⟨#[44, 98, 97, 99, 107, 61]⟩ : ByteArray) = str (44 :: nameOf 7) from rfl,
            show (⟨#[UInt8.ofNat (48 + fo)]⟩ : ByteArray) = str [UInt8.ofNat (48 + fo)] from rfl, show (⟨#[UInt8.ofNat (48 + ba)]⟩ : ByteArray) = str [UInt8.ofNat (48 + ba)] from rfl, str_append, str_append, str_append, str_append, hfull]
          unfold highT
          rw [hb, if_pos rfl, hfo, hba]
          simp
        have hne : fullT n ≠ [] := by
          rw [hfull]
          unfold highT
          rw [hb, if_pos rfl]
          simp
        rw [if_neg hne] at href
        rw [href, show str ((fullT n).drop 1) = (str (fullT n)).extract 1 (str (fullT n)).size from (extract_str (str (fullT n)) 1).symm] at HR
        obtain ⟨Z, hZ⟩ : ∃ Z, Z = str (fullT n) := ⟨_, rfl⟩
        have hZ1 : (1 : Int) ≤ Z.size := by
          have : 0 < (fullT n).length := List.length_pos_iff.2 hne
          rw [hZ]
          show (1 : Int) ≤ ((fullT n).toArray.size : Int)
          rw [List.size_toArray]; omega
        have hZE : Z.toList.isEmpty = false := by
          rw [hZ, Lib.toList_data]
          show (fullT n).isEmpty = false
          cases hx : fullT n with
          | nil => exact absurd hx hne
          | cons _ _ => rfl
        rw [← hZ] at hZZ HR
        clear hZ hne
        have HCF := Lib.hid hcF
        have HCB := Lib.hid hcB
        clear hcF hcB
        have HDF := Lib.hid hDF
        have HDB := Lib.hid hDB
        clear hDF hDB
        have HSS := Lib.hid hS
        have HFO := Lib.hid hfo
        have HBA := Lib.hid hba
        clear HB HW hll hS hfo hba hfull href
        go_wp2_with fail
        refine (H1.out _).mono ?_
        rintro e w2 ⟨rfl, rfl⟩
        clear H1
        go_wp2_with fail
        refine wp_region_noPanic ?_
        refine wp_region_held_drew (S := fun w' => Kept0 w2 w') (by kernel_rfl) ((Kept.refl _ _).drewN 1) (fun hk3 => ?_)
        generalize w2.drew = w3 at hk3 ⊢
        refine wpAnyH_take (i := 0) (v := .string S) rfl (by kernel_rfl) (by kernel_rfl) (by kernel_rfl) (fun _ _ _ h => h) (Or.inl ⟨by rfl, fun w hSw => by go_simp⟩) hk3 ?_
        simp only [Act.put]
        refine wpAnyH_take (i := 1) (v := .string (S ++ ⟨#[44, 102, 111, 114, 101, 61]⟩)) rfl (by kernel_rfl) (by kernel_rfl) (by kernel_rfl) (fun _ _ _ h => h) (Or.inl ⟨by rfl, fun w hSw => by go_simp <;> omega⟩) hk3 ?_
        simp only [Act.put]
        refine wpAnyH_take (i := 2) (v := .int .i64 (n : Int)) rfl (by kernel_rfl) (by kernel_rfl) (by kernel_rfl) (fun _ _ _ h => h) (Or.inl ⟨by rfl, fun w hSw => by go_simp⟩) hk3 ?_
        simp only [Act.put]
        refine wpAnyH_take (i := 10) (v := .int .i64 (n : Int)) rfl (by kernel_rfl) (by kernel_rfl) (by kernel_rfl) (fun _ _ _ h => h) (Or.inl ⟨by rfl, fun w hSw => by go_simp⟩) hk3 ?_
        simp only [Act.put]
        refine wpAnyH_one (i := 3) (by kernel_rfl) ?_
        refine wpOp_enter (w' := w3) rfl (by kernel_rfl) 28 #[.int .i64 (n : Int)] (by go_simp) (.int .i64 (fo : Int)) _ (HF.out w3) ?_
        intro wx hx
        rw [hx]
        clear hx wx
        refine ⟨hk3, ?_⟩
        simp only [Act.put]
        refine wpAnyH_take (i := 4) (v := .int .i64 (48 + (fo : Int))) rfl (by kernel_rfl) (by kernel_rfl) (by kernel_rfl) (fun _ _ _ h => h) (Or.inl ⟨by rfl, fun w hSw => by go_simp⟩) hk3 ?_
        simp only [Act.put]
        refine wpAnyH_take (i := 5) (v := .int .u8 (48 + (fo : Int))) rfl (by kernel_rfl) (by kernel_rfl) (by kernel_rfl) (fun _ _ _ h => h) (Or.inl ⟨by rfl, fun w hSw => by go_simp⟩) hk3 ?_
        simp only [Act.put]
        refine wpAnyH_two (i := 6) (j := 11) (by kernel_rfl) ?_ ?_
        · refine wpOp_build rfl (by kernel_rfl) (.int .u8 (48 + (fo : Int))) 5 (by go_simp) ?_
          intro b1 y1 kk1 c1
          have k1 : Kept0 w2 y1 := hk3.trans kk1
          refine ⟨k1, ?_⟩
          simp only [Act.put]
          refine wpAnyH_two (i := 7) (j := 11) (by kernel_rfl) ?_ ?_
          · refine wpOp_value (w' := y1) rfl (by kernel_rfl) (.string DF) (by have y := HCF.out _ _ c1; go_simp) ?_
            refine ⟨k1, ?_⟩
            simp only [Act.put]
            refine wpAnyH_take (i := 8) (v := .string (S ++ ⟨#[44, 102, 111, 114, 101, 61]⟩ ++ DF)) rfl (by kernel_rfl) (by kernel_rfl) (by kernel_rfl) (fun _ _ _ h => h) (Or.inl ⟨by rfl, fun w hSw => by go_simp <;> omega⟩) k1 ?_
            simp only [Act.put]
            refine wpAnyH_take (i := 9) (v := .string (S ++ ⟨#[44, 102, 111, 114, 101, 61]⟩ ++ DF ++ ⟨#[44, 98, 97, 99, 107, 61]⟩)) rfl (by kernel_rfl) (by kernel_rfl) (by kernel_rfl) (fun _ _ _ h => h) (Or.inl ⟨by rfl, fun w hSw => by go_simp <;> omega⟩) k1 ?_
            simp only [Act.put]
            refine wpAnyH_one (i := 11) (by kernel_rfl) ?_
            refine wpOp_enter (w' := y1) rfl (by kernel_rfl) 29 #[.int .i64 (n : Int)] (by go_simp) (.int .i64 (ba : Int)) _ (HK.out y1) ?_
            intro wx hx
            rw [hx]
            clear hx wx
            refine ⟨k1, ?_⟩
            simp only [Act.put]
            refine wpAnyH_take (i := 12) (v := .int .i64 (48 + (ba : Int))) rfl (by kernel_rfl) (by kernel_rfl) (by kernel_rfl) (fun _ _ _ h => h) (Or.inl ⟨by rfl, fun w hSw => by go_simp⟩) k1 ?_
            simp only [Act.put]
            refine wpAnyH_take (i := 13) (v := .int .u8 (48 + (ba : Int))) rfl (by kernel_rfl) (by kernel_rfl) (by kernel_rfl) (fun _ _ _ h => h) (Or.inl ⟨by rfl, fun w hSw => by go_simp⟩) k1 ?_
            simp only [Act.put]
            refine wpAnyH_one (i := 14) (by kernel_rfl) ?_
            refine wpOp_build rfl (by kernel_rfl) (.int .u8 (48 + (ba : Int))) 5 (by go_simp) ?_
            intro b2 y2 kk2 c2
            have k2 : Kept0 w2 y2 := k1.trans kk2
            have d2 := kcell kk2 c1
            refine ⟨k2, ?_⟩
            simp only [Act.put]
            refine wpAnyH_one (i := 15) (by kernel_rfl) ?_
            refine wpOp_value (w' := y2) rfl (by kernel_rfl) (.string DB) (by have y := HCB.out _ _ c2; go_simp) ?_
            refine ⟨k2, ?_⟩
            simp only [Act.put]
            refine wpAnyH_take (i := 16) (v := .string Z) rfl (by kernel_rfl) (by kernel_rfl) (by kernel_rfl) (fun _ _ _ h => h) (Or.inl ⟨by rfl, fun w hSw => by go_simp <;> omega⟩) k2 ?_
            simp only [Act.put]
            refine wpAnyH_take (i := 17) (v := .string Z) rfl (by kernel_rfl) (by kernel_rfl) (by kernel_rfl) (fun _ _ _ h => h) (Or.inl ⟨by rfl, fun w hSw => by go_simp⟩) k2 ?_
            simp only [Act.put]
            refine wpAnyH_done (by kernel_rfl) ?_ _
            refine NoPanic.normal ?_
            go_wp2_with fail
            go_ret
            exact ⟨by rw [HR.out]; rfl, k2⟩
          · refine wpOp_enter (w' := y1) rfl (by kernel_rfl) 29 #[.int .i64 (n : Int)] (by go_simp) (.int .i64 (ba : Int)) _ (HK.out y1) ?_
            intro wx hx
            rw [hx]
            clear hx wx
            refine ⟨k1, ?_⟩
            simp only [Act.put]
            refine wpAnyH_take (i := 12) (v := .int .i64 (48 + (ba : Int))) rfl (by kernel_rfl) (by kernel_rfl) (by kernel_rfl) (fun _ _ _ h => h) (Or.inl ⟨by rfl, fun w hSw => by go_simp⟩) k1 ?_
            simp only [Act.put]
            refine wpAnyH_take (i := 13) (v := .int .u8 (48 + (ba : Int))) rfl (by kernel_rfl) (by kernel_rfl) (by kernel_rfl) (fun _ _ _ h => h) (Or.inl ⟨by rfl, fun w hSw => by go_simp⟩) k1 ?_
            simp only [Act.put]
            refine wpAnyH_two (i := 7) (j := 14) (by kernel_rfl) ?_ ?_
            · refine wpOp_value (w' := y1) rfl (by kernel_rfl) (.string DF) (by have y := HCF.out _ _ c1; go_simp) ?_
              refine ⟨k1, ?_⟩
              simp only [Act.put]
              refine wpAnyH_take (i := 8) (v := .string (S ++ ⟨#[44, 102, 111, 114, 101, 61]⟩ ++ DF)) rfl (by kernel_rfl) (by kernel_rfl) (by kernel_rfl) (fun _ _ _ h => h) (Or.inl ⟨by rfl, fun w hSw => by go_simp <;> omega⟩) k1 ?_
              simp only [Act.put]
              refine wpAnyH_take (i := 9) (v := .string (S ++ ⟨#[44, 102, 111, 114, 101, 61]⟩ ++ DF ++ ⟨#[44, 98, 97, 99, 107, 61]⟩)) rfl (by kernel_rfl) (by kernel_rfl) (by kernel_rfl) (fun _ _ _ h => h) (Or.inl ⟨by rfl, fun w hSw => by go_simp <;> omega⟩) k1 ?_
              simp only [Act.put]
              refine wpAnyH_one (i := 14) (by kernel_rfl) ?_
              refine wpOp_build rfl (by kernel_rfl) (.int .u8 (48 + (ba : Int))) 5 (by go_simp) ?_
              intro b3 y3 kk3 c3
              have k3 : Kept0 w2 y3 := k1.trans kk3
              have d3 := kcell kk3 c1
              refine ⟨k3, ?_⟩
              simp only [Act.put]
              refine wpAnyH_one (i := 15) (by kernel_rfl) ?_
              refine wpOp_value (w' := y3) rfl (by kernel_rfl) (.string DB) (by have y := HCB.out _ _ c3; go_simp) ?_
              refine ⟨k3, ?_⟩
              simp only [Act.put]
              refine wpAnyH_take (i := 16) (v := .string Z) rfl (by kernel_rfl) (by kernel_rfl) (by kernel_rfl) (fun _ _ _ h => h) (Or.inl ⟨by rfl, fun w hSw => by go_simp <;> omega⟩) k3 ?_
              simp only [Act.put]
              refine wpAnyH_take (i := 17) (v := .string Z) rfl (by kernel_rfl) (by kernel_rfl) (by kernel_rfl) (fun _ _ _ h => h) (Or.inl ⟨by rfl, fun w hSw => by go_simp⟩) k3 ?_
              simp only [Act.put]
              refine wpAnyH_done (by kernel_rfl) ?_ _
              refine NoPanic.normal ?_
              go_wp2_with fail
              go_ret
              exact ⟨by rw [HR.out]; rfl, k3⟩
            · refine wpOp_build rfl (by kernel_rfl) (.int .u8 (48 + (ba : Int))) 5 (by go_simp) ?_
              intro b4 y4 kk4 c4
              have k4 : Kept0 w2 y4 := k1.trans kk4
              have d4 := kcell kk4 c1
              refine ⟨k4, ?_⟩
              simp only [Act.put]
              refine wpAnyH_two (i := 7) (j := 15) (by kernel_rfl) ?_ ?_
              · refine wpOp_value (w' := y4) rfl (by kernel_rfl) (.string DF) (by have y := HCF.out _ _ d4; go_simp) ?_
                refine ⟨k4, ?_⟩
                simp only [Act.put]
                refine wpAnyH_take (i := 8) (v := .string (S ++ ⟨#[44, 102, 111, 114, 101, 61]⟩ ++ DF)) rfl (by kernel_rfl) (by kernel_rfl) (by kernel_rfl) (fun _ _ _ h => h) (Or.inl ⟨by rfl, fun w hSw => by go_simp <;> omega⟩) k4 ?_
                simp only [Act.put]
                refine wpAnyH_take (i := 9) (v := .string (S ++ ⟨#[44, 102, 111, 114, 101, 61]⟩ ++ DF ++ ⟨#[44, 98, 97, 99, 107, 61]⟩)) rfl (by kernel_rfl) (by kernel_rfl) (by kernel_rfl) (fun _ _ _ h => h) (Or.inl ⟨by rfl, fun w hSw => by go_simp <;> omega⟩) k4 ?_
                simp only [Act.put]
                refine wpAnyH_one (i := 15) (by kernel_rfl) ?_
                refine wpOp_value (w' := y4) rfl (by kernel_rfl) (.string DB) (by have y := HCB.out _ _ c4; go_simp) ?_
                refine ⟨k4, ?_⟩
                simp only [Act.put]
                refine wpAnyH_take (i := 16) (v := .string Z) rfl (by kernel_rfl) (by kernel_rfl) (by kernel_rfl) (fun _ _ _ h => h) (Or.inl ⟨by rfl, fun w hSw => by go_simp <;> omega⟩) k4 ?_
                simp only [Act.put]
                refine wpAnyH_take (i := 17) (v := .string Z) rfl (by kernel_rfl) (by kernel_rfl) (by kernel_rfl) (fun _ _ _ h => h) (Or.inl ⟨by rfl, fun w hSw => by go_simp⟩) k4 ?_
                simp only [Act.put]
                refine wpAnyH_done (by kernel_rfl) ?_ _
                refine NoPanic.normal ?_
                go_wp2_with fail
                go_ret
                exact ⟨by rw [HR.out]; rfl, k4⟩
              · refine wpOp_value (w' := y4) rfl (by kernel_rfl) (.string DB) (by have y := HCB.out _ _ c4; go_simp) ?_
                refine ⟨k4, ?_⟩
                simp only [Act.put]
                refine wpAnyH_one (i := 7) (by kernel_rfl) ?_
                refine wpOp_value (w' := y4) rfl (by kernel_rfl) (.string DF) (by have y := HCF.out _ _ d4; go_simp) ?_
                refine ⟨k4, ?_⟩
                simp only [Act.put]
                refine wpAnyH_take (i := 8) (v := .string (S ++ ⟨#[44, 102, 111, 114, 101, 61]⟩ ++ DF)) rfl (by kernel_rfl) (by kernel_rfl) (by kernel_rfl) (fun _ _ _ h => h) (Or.inl ⟨by rfl, fun w hSw => by go_simp <;> omega⟩) k4 ?_
                simp only [Act.put]
                refine wpAnyH_take (i := 9) (v := .string (S ++ ⟨#[44, 102, 111, 114, 101, 61]⟩ ++ DF ++ ⟨#[44, 98, 97, 99, 107, 61]⟩)) rfl (by kernel_rfl) (by kernel_rfl) (by kernel_rfl) (fun _ _ _ h => h) (Or.inl ⟨by rfl, fun w hSw => by go_simp <;> omega⟩) k4 ?_
                simp only [Act.put]
                refine wpAnyH_take (i := 16) (v := .string Z) rfl (by kernel_rfl) (by kernel_rfl) (by kernel_rfl) (fun _ _ _ h => h) (Or.inl ⟨by rfl, fun w hSw => by go_simp <;> omega⟩) k4 ?_
                simp only [Act.put]
                refine wpAnyH_take (i := 17) (v := .string Z) rfl (by kernel_rfl) (by kernel_rfl) (by kernel_rfl) (fun _ _ _ h => h) (Or.inl ⟨by rfl, fun w hSw => by go_simp⟩) k4 ?_
                simp only [Act.put]
                refine wpAnyH_done (by kernel_rfl) ?_ _
                refine NoPanic.normal ?_
                go_wp2_with fail
                go_ret
                exact ⟨by rw [HR.out]; rfl, k4⟩
        · refine wpOp_enter (w' := w3) rfl (by kernel_rfl) 29 #[.int .i64 (n : Int)] (by go_simp) (.int .i64 (ba : Int)) _ (HK.out w3) ?_
          intro wx hx
          rw [hx]
          clear hx wx
          refine ⟨hk3, ?_⟩
          simp only [Act.put]
          refine wpAnyH_take (i := 12) (v := .int .i64 (48 + (ba : Int))) rfl (by kernel_rfl) (by kernel_rfl) (by kernel_rfl) (fun _ _ _ h => h) (Or.inl ⟨by rfl, fun w hSw => by go_simp⟩) hk3 ?_
          simp only [Act.put]
          refine wpAnyH_take (i := 13) (v := .int .u8 (48 + (ba : Int))) rfl (by kernel_rfl) (by kernel_rfl) (by kernel_rfl) (fun _ _ _ h => h) (Or.inl ⟨by rfl, fun w hSw => by go_simp⟩) hk3 ?_
          simp only [Act.put]
          refine wpAnyH_two (i := 6) (j := 14) (by kernel_rfl) ?_ ?_
          · refine wpOp_build rfl (by kernel_rfl) (.int .u8 (48 + (fo : Int))) 5 (by go_simp) ?_
            intro b5 y5 kk5 c5
            have k5 : Kept0 w2 y5 := hk3.trans kk5
            refine ⟨k5, ?_⟩
            simp only [Act.put]
            refine wpAnyH_two (i := 7) (j := 14) (by kernel_rfl) ?_ ?_
            · refine wpOp_value (w' := y5) rfl (by kernel_rfl) (.string DF) (by have y := HCF.out _ _ c5; go_simp) ?_
              refine ⟨k5, ?_⟩
              simp only [Act.put]
              refine wpAnyH_take (i := 8) (v := .string (S ++ ⟨#[44, 102, 111, 114, 101, 61]⟩ ++ DF)) rfl (by kernel_rfl) (by kernel_rfl) (by kernel_rfl) (fun _ _ _ h => h) (Or.inl ⟨by rfl, fun w hSw => by go_simp <;> omega⟩) k5 ?_
              simp only [Act.put]
              refine wpAnyH_take (i := 9) (v := .string (S ++ ⟨#[44, 102, 111, 114, 101, 61]⟩ ++ DF ++ ⟨#[44, 98, 97, 99, 107, 61]⟩)) rfl (by kernel_rfl) (by kernel_rfl) (by kernel_rfl) (fun _ _ _ h => h) (Or.inl ⟨by rfl, fun w hSw => by go_simp <;> omega⟩) k5 ?_
              simp only [Act.put]
              refine wpAnyH_one (i := 14) (by kernel_rfl) ?_
              refine wpOp_build rfl (by kernel_rfl) (.int .u8 (48 + (ba : Int))) 5 (by go_simp) ?_
              intro b6 y6 kk6 c6
              have k6 : Kept0 w2 y6 := k5.trans kk6
              have d6 := kcell kk6 c5
              refine ⟨k6, ?_⟩
              simp only [Act.put]
              refine wpAnyH_one (i := 15) (by kernel_rfl) ?_
              refine wpOp_value (w' := y6) rfl (by kernel_rfl) (.string DB) (by have y := HCB.out _ _ c6; go_simp) ?_
              refine ⟨k6, ?_⟩
              simp only [Act.put]
              refine wpAnyH_take (i := 16) (v := .string Z) rfl (by kernel_rfl) (by kernel_rfl) (by kernel_rfl) (fun _ _ _ h => h) (Or.inl ⟨by rfl, fun w hSw => by go_simp <;> omega⟩) k6 ?_
              simp only [Act.put]
              refine wpAnyH_take (i := 17) (v := .string Z) rfl (by kernel_rfl) (by kernel_rfl) (by kernel_rfl) (fun _ _ _ h => h) (Or.inl ⟨by rfl, fun w hSw => by go_simp⟩) k6 ?_
              simp only [Act.put]
              refine wpAnyH_done (by kernel_rfl) ?_ _
              refine NoPanic.normal ?_
              go_wp2_with fail
              go_ret
              exact ⟨by rw [HR.out]; rfl, k6⟩
            · refine wpOp_build rfl (by kernel_rfl) (.int .u8 (48 + (ba : Int))) 5 (by go_simp) ?_
              intro b7 y7 kk7 c7
              have k7 : Kept0 w2 y7 := k5.trans kk7
              have d7 := kcell kk7 c5
              refine ⟨k7, ?_⟩
              simp only [Act.put]
              refine wpAnyH_two (i := 7) (j := 15) (by kernel_rfl) ?_ ?_
              · refine wpOp_value (w' := y7) rfl (by kernel_rfl) (.string DF) (by have y := HCF.out _ _ d7; go_simp) ?_
                refine ⟨k7, ?_⟩
                simp only [Act.put]
                refine wpAnyH_take (i := 8) (v := .string (S ++ ⟨#[44, 102, 111, 114, 101, 61]⟩ ++ DF)) rfl (by kernel_rfl) (by kernel_rfl) (by kernel_rfl) (fun _ _ _ h => h) (Or.inl ⟨by rfl, fun w hSw => by go_simp <;> omega⟩) k7 ?_
                simp only [Act.put]
                refine wpAnyH_take (i := 9) (v := .string (S ++ ⟨#[44, 102, 111, 114, 101, 61]⟩ ++ DF ++ ⟨#[44, 98, 97, 99, 107, 61]⟩)) rfl (by kernel_rfl) (by kernel_rfl) (by kernel_rfl) (fun _ _ _ h => h) (Or.inl ⟨by rfl, fun w hSw => by go_simp <;> omega⟩) k7 ?_
                simp only [Act.put]
                refine wpAnyH_one (i := 15) (by kernel_rfl) ?_
                refine wpOp_value (w' := y7) rfl (by kernel_rfl) (.string DB) (by have y := HCB.out _ _ c7; go_simp) ?_
                refine ⟨k7, ?_⟩
                simp only [Act.put]
                refine wpAnyH_take (i := 16) (v := .string Z) rfl (by kernel_rfl) (by kernel_rfl) (by kernel_rfl) (fun _ _ _ h => h) (Or.inl ⟨by rfl, fun w hSw => by go_simp <;> omega⟩) k7 ?_
                simp only [Act.put]
                refine wpAnyH_take (i := 17) (v := .string Z) rfl (by kernel_rfl) (by kernel_rfl) (by kernel_rfl) (fun _ _ _ h => h) (Or.inl ⟨by rfl, fun w hSw => by go_simp⟩) k7 ?_
                simp only [Act.put]
                refine wpAnyH_done (by kernel_rfl) ?_ _
                refine NoPanic.normal ?_
                go_wp2_with fail
                go_ret
                exact ⟨by rw [HR.out]; rfl, k7⟩
              · refine wpOp_value (w' := y7) rfl (by kernel_rfl) (.string DB) (by have y := HCB.out _ _ c7; go_simp) ?_
                refine ⟨k7, ?_⟩
                simp only [Act.put]
                refine wpAnyH_one (i := 7) (by kernel_rfl) ?_
                refine wpOp_value (w' := y7) rfl (by kernel_rfl) (.string DF) (by have y := HCF.out _ _ d7; go_simp) ?_
                refine ⟨k7, ?_⟩
                simp only [Act.put]
                refine wpAnyH_take (i := 8) (v := .string (S ++ ⟨#[44, 102, 111, 114, 101, 61]⟩ ++ DF)) rfl (by kernel_rfl) (by kernel_rfl) (by kernel_rfl) (fun _ _ _ h => h) (Or.inl ⟨by rfl, fun w hSw => by go_simp <;> omega⟩) k7 ?_
                simp only [Act.put]
                refine wpAnyH_take (i := 9) (v := .string (S ++ ⟨#[44, 102, 111, 114, 101, 61]⟩ ++ DF ++ ⟨#[44, 98, 97, 99, 107, 61]⟩)) rfl (by kernel_rfl) (by kernel_rfl) (by kernel_rfl) (fun _ _ _ h => h) (Or.inl ⟨by rfl, fun w hSw => by go_simp <;> omega⟩) k7 ?_
                simp only [Act.put]
                refine wpAnyH_take (i := 16) (v := .string Z) rfl (by kernel_rfl) (by kernel_rfl) (by kernel_rfl) (fun _ _ _ h => h) (Or.inl ⟨by rfl, fun w hSw => by go_simp <;> omega⟩) k7 ?_
                simp only [Act.put]
                refine wpAnyH_take (i := 17) (v := .string Z) rfl (by kernel_rfl) (by kernel_rfl) (by kernel_rfl) (fun _ _ _ h => h) (Or.inl ⟨by rfl, fun w hSw => by go_simp⟩) k7 ?_
                simp only [Act.put]
                refine wpAnyH_done (by kernel_rfl) ?_ _
                refine NoPanic.normal ?_
                go_wp2_with fail
                go_ret
                exact ⟨by rw [HR.out]; rfl, k7⟩
          · refine wpOp_build rfl (by kernel_rfl) (.int .u8 (48 + (ba : Int))) 5 (by go_simp) ?_
            intro b8 y8 kk8 c8
            have k8 : Kept0 w2 y8 := hk3.trans kk8
            refine ⟨k8, ?_⟩
            simp only [Act.put]
            refine wpAnyH_two (i := 6) (j := 15) (by kernel_rfl) ?_ ?_
            · refine wpOp_build rfl (by kernel_rfl) (.int .u8 (48 + (fo : Int))) 5 (by go_simp) ?_
              intro b9 y9 kk9 c9
              have k9 : Kept0 w2 y9 := k8.trans kk9
              have d9 := kcell kk9 c8
              refine ⟨k9, ?_⟩
              simp only [Act.put]
              refine wpAnyH_two (i := 7) (j := 15) (by kernel_rfl) ?_ ?_
              · refine wpOp_value (w' := y9) rfl (by kernel_rfl) (.string DF) (by have y := HCF.out _ _ c9; go_simp) ?_
                refine ⟨k9, ?_⟩
                simp only [Act.put]
                refine wpAnyH_take (i := 8) (v := .string (S ++ ⟨#[44, 102, 111, 114, 101, 61]⟩ ++ DF)) rfl (by kernel_rfl) (by kernel_rfl) (by kernel_rfl) (fun _ _ _ h => h) (Or.inl ⟨by rfl, fun w hSw => by go_simp <;> omega⟩) k9 ?_
                simp only [Act.put]
                refine wpAnyH_take (i := 9) (v := .string (S ++ ⟨#[44, 102, 111, 114, 101, 61]⟩ ++ DF ++ ⟨#[44, 98, 97, 99, 107, 61]⟩)) rfl (by kernel_rfl) (by kernel_rfl) (by kernel_rfl) (fun _ _ _ h => h) (Or.inl ⟨by rfl, fun w hSw => by go_simp <;> omega⟩) k9 ?_
                simp only [Act.put]
                refine wpAnyH_one (i := 15) (by kernel_rfl) ?_
                refine wpOp_value (w' := y9) rfl (by kernel_rfl) (.string DB) (by have y := HCB.out _ _ d9; go_simp) ?_
                refine ⟨k9, ?_⟩
                simp only [Act.put]
                refine wpAnyH_take (i := 16) (v := .string Z) rfl (by kernel_rfl) (by kernel_rfl) (by kernel_rfl) (fun _ _ _ h => h) (Or.inl ⟨by rfl, fun w hSw => by go_simp <;> omega⟩) k9 ?_
                simp only [Act.put]
                refine wpAnyH_take (i := 17) (v := .string Z) rfl (by kernel_rfl) (by kernel_rfl) (by kernel_rfl) (fun _ _ _ h => h) (Or.inl ⟨by rfl, fun w hSw => by go_simp⟩) k9 ?_
                simp only [Act.put]
                refine wpAnyH_done (by kernel_rfl) ?_ _
                refine NoPanic.normal ?_
                go_wp2_with fail
                go_ret
                exact ⟨by rw [HR.out]; rfl, k9⟩
              · refine wpOp_value (w' := y9) rfl (by kernel_rfl) (.string DB) (by have y := HCB.out _ _ d9; go_simp) ?_
                refine ⟨k9, ?_⟩
                simp only [Act.put]
                refine wpAnyH_one (i := 7) (by kernel_rfl) ?_
                refine wpOp_value (w' := y9) rfl (by kernel_rfl) (.string DF) (by have y := HCF.out _ _ c9; go_simp) ?_
                refine ⟨k9, ?_⟩
                simp only [Act.put]
                refine wpAnyH_take (i := 8) (v := .string (S ++ ⟨#[44, 102, 111, 114, 101, 61]⟩ ++ DF)) rfl (by kernel_rfl) (by kernel_rfl) (by kernel_rfl) (fun _ _ _ h => h) (Or.inl ⟨by rfl, fun w hSw => by go_simp <;> omega⟩) k9 ?_
                simp only [Act.put]
                refine wpAnyH_take (i := 9) (v := .string (S ++ ⟨#[44, 102, 111, 114, 101, 61]⟩ ++ DF ++ ⟨#[44, 98, 97, 99, 107, 61]⟩)) rfl (by kernel_rfl) (by kernel_rfl) (by kernel_rfl) (fun _ _ _ h => h) (Or.inl ⟨by rfl, fun w hSw => by go_simp <;> omega⟩) k9 ?_
                simp only [Act.put]
                refine wpAnyH_take (i := 16) (v := .string Z) rfl (by kernel_rfl) (by kernel_rfl) (by kernel_rfl) (fun _ _ _ h => h) (Or.inl ⟨by rfl, fun w hSw => by go_simp <;> omega⟩) k9 ?_
                simp only [Act.put]
                refine wpAnyH_take (i := 17) (v := .string Z) rfl (by kernel_rfl) (by kernel_rfl) (by kernel_rfl) (fun _ _ _ h => h) (Or.inl ⟨by rfl, fun w hSw => by go_simp⟩) k9 ?_
                simp only [Act.put]
                refine wpAnyH_done (by kernel_rfl) ?_ _
                refine NoPanic.normal ?_
                go_wp2_with fail
                go_ret
                exact ⟨by rw [HR.out]; rfl, k9⟩
            · refine wpOp_value (w' := y8) rfl (by kernel_rfl) (.string DB) (by have y := HCB.out _ _ c8; go_simp) ?_
              refine ⟨k8, ?_⟩
              simp only [Act.put]
              refine wpAnyH_one (i := 6) (by kernel_rfl) ?_
              refine wpOp_build rfl (by kernel_rfl) (.int .u8 (48 + (fo : Int))) 5 (by go_simp) ?_
              intro b10 y10 kk10 c10
              have k10 : Kept0 w2 y10 := k8.trans kk10
              have d10 := kcell kk10 c8
              refine ⟨k10, ?_⟩
              simp only [Act.put]
              refine wpAnyH_one (i := 7) (by kernel_rfl) ?_
              refine wpOp_value (w' := y10) rfl (by kernel_rfl) (.string DF) (by have y := HCF.out _ _ c10; go_simp) ?_
              refine ⟨k10, ?_⟩
              simp only [Act.put]
              refine wpAnyH_take (i := 8) (v := .string (S ++ ⟨#[44, 102, 111, 114, 101, 61]⟩ ++ DF)) rfl (by kernel_rfl) (by kernel_rfl) (by kernel_rfl) (fun _ _ _ h => h) (Or.inl ⟨by rfl, fun w hSw => by go_simp <;> omega⟩) k10 ?_
              simp only [Act.put]
              refine wpAnyH_take (i := 9) (v := .string (S ++ ⟨#[44, 102, 111, 114, 101, 61]⟩ ++ DF ++ ⟨#[44, 98, 97, 99, 107, 61]⟩)) rfl (by kernel_rfl) (by kernel_rfl) (by kernel_rfl) (fun _ _ _ h => h) (Or.inl ⟨by rfl, fun w hSw => by go_simp <;> omega⟩) k10 ?_
              simp only [Act.put]
              refine wpAnyH_take (i := 16) (v := .string Z) rfl (by kernel_rfl) (by kernel_rfl) (by kernel_rfl) (fun _ _ _ h => h) (Or.inl ⟨by rfl, fun w hSw => by go_simp <;> omega⟩) k10 ?_
              simp only [Act.put]
              refine wpAnyH_take (i := 17) (v := .string Z) rfl (by kernel_rfl) (by kernel_rfl) (by kernel_rfl) (fun _ _ _ h => h) (Or.inl ⟨by rfl, fun w hSw => by go_simp⟩) k10 ?_
              simp only [Act.put]
              refine wpAnyH_done (by kernel_rfl) ?_ _
              refine NoPanic.normal ?_
              go_wp2_with fail
              go_ret
              exact ⟨by rw [HR.out]; rfl, k10⟩

theorem refNames_any (a : Int) (h1 : a ≤ 9223372036854775807) (w : World) : Calls Tryd.prog 20 #[.int .i64 a] w fun e w' => e = .returned (.string (str (namesOf a))) ∧ Kept0 w w' := by
  have hM := refMay_any a h1
  cases hm : mayB a
  · rw [hm] at hM
    have e1 : namesOf a = [] := by simp [namesOf, hm]
    rw [e1]
    have HM := Lib.hid hM
    clear hM
    go_enter Tryd.func20, Tryd.ntmps20
    go_wp2_with fail
    refine (HM.out _).mono ?_
    rintro e w1 ⟨rfl, rfl⟩
    go_wp2_with fail
    go_ret
    exact ⟨rfl, Kept.refl _ _⟩
  · rw [hm] at hM
    obtain ⟨n, rfl⟩ := Int.eq_ofNat_of_zero_le (mayB_lt hm).1
    have hn : n < 16384 := by have := (mayB_lt hm).2; omega
    have e1 : namesOf (n : Int) = namesN n := by simp [namesOf, hm]
    have := refNames_core n hn (Lib.hid hM) w
    rw [refT_eq (by rw [← mayB_nat]; exact hm) hn, ← e1] at this
    exact this

#print axioms refNames_any
end Go.Proofs.YtacnoakgfkcfbaaDoor
