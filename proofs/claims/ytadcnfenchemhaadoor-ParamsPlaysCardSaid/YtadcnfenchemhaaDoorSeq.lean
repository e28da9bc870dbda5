/-
  What strings.SplitSeq at a semicolon comes to: the parts of a text, one by one.
-/
import Derived.Test.YtadcnfenchemhaaDoorRangeT
import Derived.Test.YtadcnfenchemhaaDoorShelf
import Derived.Test.YtadcnfenchemhaaDoorQuietR
import Derived.OwnWalk
import Derived.Laws.OwnMore
import Derived.Maps.AppendAt
import Derived.Maps.OwnIn
import Derived.WalkSpells
import Derived.Deep.Cut
import Derived.Deep.QuietTactic
import Derived.Test.YtadcnfenchemhaaDoorNumsP
namespace Go.Proofs.YtadcnfenchemhaaDoor
open Go.RowKit

attribute [local go_sem] Oper.semAt_some

theorem seq_any (s : ByteArray) (w : World) : Calls Tryd.prog 22 #[.string s, .string ⟨#[59]⟩] w fun e w' =>
    e = .returned (.func (.func 27) #[] #[.pointer (some ⟨w.heap.size + 1, 0, none⟩), .pointer (some ⟨w.heap.size, 0, none⟩), .pointer (some ⟨w.heap.size + 2, 0, none⟩)]) ∧
    w' = ((w.alloc (.cells #[.string s] 9)).alloc (.cells #[.string ⟨#[59]⟩] 9)).alloc (.cells #[.int .i64 0] 3) := by
  have hmf : ∀ (fn : Fn) (first cap : Array Value) (w : World), (Instr.makeFunc fn first cap).run Tryd.prog w = .ok (.func fn first cap) w := fun _ _ _ _ => rfl
  have H : Calls Tryd.prog 26 #[.string s, .string ⟨#[59]⟩, .int .i64 0] w fun e w' =>
      e = .returned (.func (.func 27) #[] #[.pointer (some ⟨w.heap.size + 1, 0, none⟩), .pointer (some ⟨w.heap.size, 0, none⟩), .pointer (some ⟨w.heap.size + 2, 0, none⟩)]) ∧
      w' = ((w.alloc (.cells #[.string s] 9)).alloc (.cells #[.string ⟨#[59]⟩] 9)).alloc (.cells #[.int .i64 0] 3) := by
    go_enter Tryd.func26, Tryd.ntmps26
    go_wp2_with fail
    go_ret
    exact ⟨rfl, rfl⟩
  have HH := Lib.hid H
  clear H
  go_enter Tryd.func22, Tryd.ntmps22
  go_wp2_with fail
  refine HH.out.mono ?_
  rintro e w1 ⟨rfl, rfl⟩
  go_wp2_with fail
  go_ret
  exact ⟨rfl, rfl⟩

/-- How long the text in a cell is. -/
def lenAt (w : World) (b : Nat) : Nat := match w.cell? ⟨b, 0, none⟩ with | some (.string x) => x.size | _ => 0

/-- The iterator's three variables. -/
structure SeqAt (w : World) (bs bp bv : Nat) (r : ByteArray) : Prop where
  s : w.heap[bs]? = some (.cells #[.string r] 9 (0, 0))
  p : w.cell? ⟨bp, 0, none⟩ = some (.string ⟨#[59]⟩)
  v : w.cell? ⟨bv, 0, none⟩ = some (.int .i64 0)
namespace SeqAt
variable {w w' : World} {bs bp bv : Nat} {r : ByteArray}
theorem sc (h : SeqAt w bs bp bv r) : w.cell? ⟨bs, 0, none⟩ = some (.string r) := by simp [World.cell?, h.s]
theorem sf (h : SeqAt w bs bp bv r) : w.frozen? ⟨bs, 0, none⟩ = false := by simp [World.frozen?, h.s]
theorem kept (h : SeqAt w bs bp bv r) {S : Nat → Prop} (k : Kept S w w') (h1 : ¬ S bs) (h2 : ¬ S bp) (h3 : ¬ S bv) : SeqAt w' bs bp bv r :=
  ⟨(k.block bs (Array.getElem?_eq_some_iff.1 h.s).1 h1).trans h.s, (k.cell (World.block_lt_of_cell? w _ h.p) h2).trans h.p, (k.cell (World.block_lt_of_cell? w _ h.v) h3).trans h.v⟩
theorem set (h : SeqAt w bs bp bv r) (hp : bp ≠ bs) (hv : bv ≠ bs) (q : ByteArray) : SeqAt (w.setCell ⟨bs, 0, none⟩ (.string q)) bs bp bv q := by
  refine ⟨?_, ?_, ?_⟩
  · simp [World.setCell, Array.getElem?_modify, h.s]
  · simpa [go_sem, hp, Ne.symm hp] using h.p
  · simpa [go_sem, hv, Ne.symm hv] using h.v
theorem len (h : SeqAt w bs bp bv r) : lenAt w bs = r.size := by simp [lenAt, h.sc]
end SeqAt

theorem Kept.set1 (w : World) (b o : Nat) (v : Value) : Kept (· = b) w (w.setCell ⟨b, o, none⟩ v) :=
  ⟨rfl, rfl, rfl, by simp [World.setCell], fun k _ hs => Below.heap_setCell _ _ _ _ (fun e => hs e)⟩

def partArgs (s0 : List UInt8) (k : Nat) : Array Value := #[.string (str ((splitP s0).getD k []))]

theorem extract_to (s : ByteArray) (i : Nat) : s.extract 0 i = str (s.data.toList.take i) := by
  apply ByteArray.ext
  rw [ByteArray.data_extract]
  apply Array.ext'
  simp only [str, Array.toList_extract]
  rw [List.extract_eq_take_drop]
  simp
theorem extract_from (s : ByteArray) (i : Nat) : s.extract i s.size = str (s.data.toList.drop i) := by
  apply ByteArray.ext
  rw [ByteArray.data_extract]
  apply Array.ext'
  simp only [str, Array.toList_extract]
  rw [List.extract_eq_take_drop]
  exact List.take_of_length_le (by simp)

set_option maxRecDepth 100000 in
set_option maxHeartbeats 4000000 in
theorem seq_iter (bs bp bv : Nat) (hp : bp ≠ bs) (hv : bv ≠ bs) (s0 : ByteArray) (hs0 : s0.size ≤ 1152921504606846976) :
    IterT Tryd.prog 27 #[.pointer (some ⟨bp, 0, none⟩), .pointer (some ⟨bs, 0, none⟩), .pointer (some ⟨bv, 0, none⟩)] (partArgs s0.data.toList) (splitP s0.data.toList).length (fun b => b = bs ∨ b = bp ∨ b = bv) (fun W => SeqAt W bs bp bv s0) := by
  intro n l J Jx W hJ _ hG hY h0
  refine callsIn_wide.2 ?_
  have Y := Lib.hid hY
  have HJ := Lib.hid hJ
  obtain ⟨ps, hps⟩ : ∃ ps, ps = splitP s0.data.toList := ⟨_, rfl⟩
  obtain ⟨N, hN⟩ : ∃ N, N = ps.length := ⟨_, rfl⟩
  have HD0 : Hid (splitP s0.data.toList = ps.drop 0) := by rw [List.drop_zero]; exact hps.symm
  unfold partArgs at Y
  rw [← hps, ← hN] at Y
  rw [← hps, ← hN]
  have HN := Lib.hid hN
  have hcp := hG.p
  have hcv := hG.v
  clear hY hJ hps hN
  go_enter Tryd.func27, Tryd.ntmps27
  go_wp2_with fail
  go_loopw [7] (fun _ wr => ∃ (k : Nat) (r : ByteArray), SeqAt wr bs bp bv r ∧ J k wr ∧ Hid (splitP r.data.toList = ps.drop k) ∧ W.heap.size ≤ wr.heap.size ∧ r.size ≤ 1152921504606846976) (fun _ wr => lenAt wr bs)
  case atStart => exact ⟨0, s0, hG, h0, HD0, Nat.le_refl _, hs0⟩
  case round =>
    clear HD0 hcp hcv hG h0 hs0
    obtain ⟨k, r, hA, hj, hD, hsz, hr⟩ := hrel
    have hcs := hA.sc
    have hcp := hA.p
    have hcv := hA.v
    have HI := Lib.hid (index_any r 59)
    have hge := Lib.indexByte_ge r.data.toList 59
    by_cases hi : Lib.indexByte r.data.toList 59 = -1
    · rw [hi] at HI
      have hsp := splitP_none hi
      rw [hD.out] at hsp
      have hk : k + 1 = N := by
        have h1 := congrArg List.length hsp
        rw [List.length_drop, ← HN.out] at h1
        simp at h1
        omega
      have hget : ps.getD k [] = r.data.toList := by
        have h1 : (ps.drop k)[0]? = some r.data.toList := by rw [hsp]; rfl
        rw [List.getElem?_drop, Nat.add_zero] at h1
        rw [List.getD, h1]; rfl
      obtain ⟨fn, tmps, assign, body, hy, hR⟩ := Y.out k wr (by omega) hj
      rw [hget, show str r.data.toList = r from rfl] at hy
      have HR := Lib.hid hR
      clear hR Y hD hsp hget hi hge
      go_wp2_with fail
      refine (HI.out _).mono ?_
      rintro e w1 ⟨rfl, rfl⟩
      clear HI
      go_upto_region 10 with fail
      refine (wpIn_wide (n := 0)).1 ?_
      gi_wp2_with fail
      refine ⟨rfl, RoundIn.mono (roundIn_any HR.out) ?_⟩
      clear hy HR
      rintro e W3 (⟨rfl, hJ3, hk3⟩ | ⟨rfl, hJx3⟩)
      · gi_wp2_with fail
        go_end0
        exact ⟨⟨_, rfl⟩, Or.inl (by rw [← hk]; exact hJ3)⟩
      · gi_wp2_with fail
        go_end0
        exact ⟨⟨_, rfl⟩, Or.inr ⟨k, by omega, hJx3⟩⟩
    · obtain ⟨i, hi2⟩ := Int.eq_ofNat_of_zero_le (show 0 ≤ Lib.indexByte r.data.toList 59 by omega)
      rw [hi2] at HI
      obtain ⟨hsp, hil⟩ := splitP_some hi2
      rw [hD.out] at hsp
      have hil2 : i < r.size := by simpa using hil
      have hk : k < N := by
        have h1 := congrArg List.length hsp
        rw [List.length_drop, ← HN.out] at h1
        simp at h1
        omega
      have hget : ps.getD k [] = r.data.toList.take i := by
        have h1 : (ps.drop k)[0]? = some (r.data.toList.take i) := by rw [hsp]; rfl
        rw [List.getElem?_drop, Nat.add_zero] at h1
        rw [List.getD, h1]; rfl
      have HD2 : Hid (splitP (str (r.data.toList.drop (i + 1))).data.toList = ps.drop (k + 1)) := by
        have h1 : (ps.drop k).drop 1 = splitP (r.data.toList.drop (i + 1)) := by rw [hsp]; rfl
        rw [List.drop_drop] at h1
        exact h1.symm
      obtain ⟨fn, tmps, assign, body, hy, hR⟩ := Y.out k wr hk hj
      rw [hget, ← extract_to] at hy
      have HR := Lib.hid hR
      clear hR Y hD hsp hget hi hge hil hi2 HN
      go_wp2_with fail
      refine (HI.out _).mono ?_
      rintro e w1 ⟨rfl, rfl⟩
      clear HI
      go_upto_region 8 with fail
      refine (wpIn_wide (n := 0)).1 ?_
      gi_wp2_with fail
      refine ⟨rfl, RoundIn.mono (roundIn_any HR.out) ?_⟩
      clear hy HR
      rintro e W3 (⟨rfl, hJ3, hk3⟩ | ⟨rfl, hJx3⟩)
      · have hA3 : SeqAt W3 bs bp bv r := hA.kept hk3 (fun e => e (Or.inl rfl)) (fun e => e (Or.inr (Or.inl rfl))) (fun e => e (Or.inr (Or.inr rfl)))
        have hs3 : W.heap.size ≤ W3.heap.size := Nat.le_trans hsz hk3.size
        have ht := hA.len
        clear hA hcs hcp hcv hk3 hj
        have hcs := hA3.sc
        have hfs := hA3.sf
        have hcp := hA3.p
        gi_wp2_with fail
        go_wp2_with fail
        rw [extract_from]
        have hA4 := hA3.set hp hv (str (r.data.toList.drop (i + 1)))
        have hJ4 : J (k + 1) (W3.setCell ⟨bs, 0, none⟩ (.string (str (r.data.toList.drop (i + 1))))) := HJ.out _ _ _ hJ3 ((Kept.set1 W3 bs 0 _).mono (fun b _ e => Or.inl e))
        have hlen : (str (r.data.toList.drop (i + 1))).size = r.size - (i + 1) := by
          show (r.data.toList.drop (i + 1)).toArray.size = _
          rw [List.size_toArray, List.length_drop]
          rfl
        have h4 := hA4.len
        go_roundw
        case rel => exact ⟨k + 1, _, hA4, hJ4, HD2, by simpa [World.setCell] using hs3, by omega⟩
        case measure => rw [h4, ht]; omega
      · gi_wp2_with fail
        go_wp2_with fail
        refine bodyPost_ret (results_none rfl _ _ _) rfl ?_
        exact ⟨⟨_, rfl⟩, Or.inr ⟨k, hk, hJx3⟩⟩

#print axioms seq_iter
end Go.Proofs.YtadcnfenchemhaaDoor
