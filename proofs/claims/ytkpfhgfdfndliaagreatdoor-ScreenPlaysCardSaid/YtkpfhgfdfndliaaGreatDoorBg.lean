/-
  The statements' calls in memory: which are not too many; a screen behind some calls.
-/
import Derived.Test.YtkpfhgfdfndliaaGreatDoorLvl
namespace Go.Proofs.YtkpfhgfdfndliaaGreatDoor
open Go.RowKit

def Op.vals (o : Op) : List Value := [.int .i64 o.ask, .int .i64 o.a1, .int .i64 o.a2, .int .i64 o.b1, .int .i64 o.b2, .int .i64 o.n, .int .i32 o.x.g, .int .i64 o.x.a, .bool o.x.b, .int .i64 o.x.m, .int .i64 o.wr, .bool o.gd]

/-- A list of calls in memory. -/
def OpsIn (w : World) (a : Option Addr) (l : List Op) : Prop := ∀ (i : Nat) (o : Op), l[i]? = some o → OpOk o ∧ ∃ b off, a = some ⟨b, off, none⟩ ∧ ∀ (j : Nat) (v : Value), o.vals[j]? = some v → w.cell? ⟨b, off + i * 12 + j, none⟩ = some v
theorem OpsIn.kept0 {w w' : World} {a : Option Addr} {l : List Op} (h : OpsIn w a l) (k : Kept0 w w') : OpsIn w' a l := fun i o ho => by
  obtain ⟨h0, b, off, h1, h2⟩ := h i o ho
  exact ⟨h0, b, off, h1, fun j v hv => kcell k (h2 j v hv)⟩

/-- A screen behind some calls. -/
def runZ (z : St) : List Op → St
  | [] => z
  | o :: l => runZ (doF o z) l
theorem runZ_snoc (z : St) (l : List Op) (o : Op) : runZ z (l ++ [o]) = doF o (runZ z l) := by
  induction l generalizing z with
  | nil => rfl
  | cons a l ih => exact ih _
theorem runZ_take (z : St) (l : List Op) (i : Nat) (o : Op) (h : l[i]? = some o) : runZ z (l.take (i + 1)) = doF o (runZ z (l.take i)) := by
  rw [List.take_add_one, h]
  exact runZ_snoc _ _ _
def z59 : St := ⟨5, 9, fun _ => blk, fun _ => false, 0, 0, false⟩

set_option maxRecDepth 100000 in
set_option maxHeartbeats 4000000 in
theorem begun_any (a : Option Addr) (cap : Nat) (l : List Op) (w0 w : World) (k0 : Kept0 w0 w) (hb : Blank w) (ho : OpsIn w a l) (hl : l.length ≤ 9223372036854775807) :
    Calls Tryz.prog 16 #[.slice a l.length cap] w fun e w' => ∃ s, e = .returned (ptr s) ∧ Uno no w0 w' s (runZ z59 l) := by
  have HB := Lib.hid hb
  have h0 := hb.lt
  have HO := Lib.hid ho
  have K0 := Lib.hid k0
  have HL : Hid (∀ i, i < l.length → ∃ o, l[i]? = some o) := fun i hi => ⟨_, List.getElem?_eq_getElem hi⟩
  have HT : Hid (l.take l.length = l) := List.take_length
  obtain ⟨M, hM⟩ : ∃ M, M = l.length := ⟨_, rfl⟩
  rw [← hM] at hl HL HT ⊢
  clear hb ho k0 hM
  go_enter Tryz.func16, Tryz.ntmps16
  go_wp2_with fail
  refine (new_scr 5 9 w HB.out (by omega)).mono ?_
  rintro e w1 ⟨s, B, rfl, hs, hBn, hk⟩
  have HU : Hid (Uno no w w1 s (runZ z59 (l.take 0))) := ⟨B, hs, fun i hi => ⟨hBn i hi, fun e => e⟩, fun _ e => e.elim, hk⟩
  clear hs hBn hk
  go_wp2_with fail
  go_loopw [5] (fun s5 wr => ∃ i : Nat, i ≤ M ∧ s5 = .int .i64 (i : Int) ∧ Hid (Uno no w wr s (runZ z59 (l.take i)))) (fun s5 _ => M - (intOf s5).toNat)
  case atStart => exact ⟨0, by omega, rfl, HU⟩
  case round =>
    clear HU
    obtain ⟨i, hi, rfl, HU⟩ := hrel
    by_cases hlt : i < M
    · have hdt : decide ((i : Int) < (M : Int)) = true := by simp; omega
      obtain ⟨o, hoi⟩ := HL.out i hlt
      obtain ⟨hok, b, off, rfl, hcs⟩ := HO.out i o hoi
      have HI := Lib.hid hoi
      have HK := Lib.hid hok
      have kk := HU.out.old
      have o0 := kcell kk (hcs 0 _ rfl)
      have o1 := kcell kk (hcs 1 _ rfl)
      have o2 := kcell kk (hcs 2 _ rfl)
      have o3 := kcell kk (hcs 3 _ rfl)
      have o4 := kcell kk (hcs 4 _ rfl)
      have o5 := kcell kk (hcs 5 _ rfl)
      have o6 := kcell kk (hcs 6 _ rfl)
      have o7 := kcell kk (hcs 7 _ rfl)
      have o8 := kcell kk (hcs 8 _ rfl)
      have o9 := kcell kk (hcs 9 _ rfl)
      have o10 := kcell kk (hcs 10 _ rfl)
      have o11 := kcell kk (hcs 11 _ rfl)
      clear hcs kk hoi hok
      simp only [Nat.add_zero] at o0
      go_wp2_with fail
      refine (uno_call HU.out h0 (fun B hs hB0 => does_any o wr hs (HB.out.kept0 HU.out.old) hB0 HK.out)).mono ?_
      rintro e w3 ⟨rfl, hu3, _⟩
      have HU3 : Hid (Uno no w w3 s (runZ z59 (l.take (i + 1)))) := by
        show Uno no w w3 s (runZ z59 (l.take (i + 1)))
        rw [runZ_take _ _ _ _ HI.out]
        exact hu3
      clear hu3 HU o0 o1 o2 o3 o4 o5 o6 o7 o8 o9 o10 o11
      go_wp2_with fail
      go_roundw
      case rel => exact ⟨i + 1, by omega, by go_num, HU3⟩
      case measure => simp [intOf]; omega
    · obtain rfl : i = M := by omega
      have hdt : decide ((i : Int) < (i : Int)) = false := by simp
      go_wp2_with fail
      go_ret
      refine ⟨s, rfl, ?_⟩
      obtain ⟨B, p1, p2, p4, p3⟩ := HU.out
      rw [HT.out] at p1
      exact ⟨B, p1, fun j hj => ⟨Nat.le_trans K0.out.size (p2 j hj).1, fun e => e⟩, fun _ e => e.elim, K0.out.trans p3⟩
end Go.Proofs.YtkpfhgfdfndliaaGreatDoor
