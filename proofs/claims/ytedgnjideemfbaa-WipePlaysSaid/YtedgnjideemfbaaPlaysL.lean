/-
  The law WipePlays.
-/
import Derived.Test.YtedgnjideemfbaaAwake
import Derived.Test.YtedgnjideemfbaaRefDo
import Derived.Test.YtedgnjideemfbaaOps
namespace Go.Proofs.Ytedgnjideemfbaa
open Go.RowKit

/-- What is known of a world: both grids, all else as it was. -/
structure Pp (w : World) (g t cg h u ch R C : Nat) (fg fr : Nat → Cel) (w' : World) : Prop where
  grid : GridAt w' g t cg R C fg
  ref : RefAt w' h u ch R C fr
  kept : Kept0 w w'
  n1 : w.heap.size ≤ t
  n2 : w.heap.size ≤ u
  n3 : g ≠ u
  n4 : h ≠ t
  n5 : t ≠ u

namespace Pp
variable {w w1 : World} {g t cg h u ch R C : Nat} {fg fr : Nat → Cel}
theorem keep (H : Pp w g t cg h u ch R C fg fr w1) {w2 : World} (k : Kept0 w1 w2) : Pp w g t cg h u ch R C fg fr w2 :=
  ⟨H.grid.kept k (fun e => e) (fun e => e), H.ref.kept k (fun e => e) (fun e => e), H.kept.trans k, H.n1, H.n2, H.n3, H.n4, H.n5⟩
theorem ongrid (H : Pp w g t cg h u ch R C fg fr w1) {w2 : World} {fg' : Nat → Cel} (hg : GridAt w2 g t cg R C fg') (k : Kept (· = t) w1 w2) : Pp w g t cg h u ch R C fg' fr w2 :=
  ⟨hg, H.ref.kept k H.n4 (fun e => H.n5 e.symm), H.kept.later k (fun i hi e => by have := H.n1; omega), H.n1, H.n2, H.n3, H.n4, H.n5⟩
theorem onref (H : Pp w g t cg h u ch R C fg fr w1) {w2 : World} {fr' : Nat → Cel} (hr : RefAt w2 h u ch R C fr') (k : Kept (· = u) w1 w2) : Pp w g t cg h u ch R C fg fr' w2 :=
  ⟨H.grid.kept k H.n3 H.n5, hr, H.kept.later k (fun i hi e => by have := H.n2; omega), H.n1, H.n2, H.n3, H.n4, H.n5⟩
end Pp

set_option maxHeartbeats 4000000 in
set_option maxRecDepth 100000 in
theorem plays_calls (a : Option Addr) (cap : Nat) (C : Int) (l : List ByteArray) (a' : Option Addr) (cap' : Nat) (ops : List OpR) (w : World) (hl : StrsIn w a l) (hL : l.length ≤ 9223372036854775807) (ho : OpsIn w a' ops) (hO : ops.length ≤ 9223372036854775807) :
    Calls Try.prog 3 #[.agg #[.slice a l.length cap, .int .i64 C], .slice a' ops.length cap'] w fun e w' => e = .returned (.bool true) ∧ Below w.heap.size w w' := by
  have kA : Kept0 w (w.alloc (.cells #[.slice a l.length cap, .int .i64 C] 24)) := (Kept.refl _ w).alloc _
  by_cases hf : (1 ≤ l.length ∧ l.length ≤ 8 ∧ 1 ≤ C ∧ C ≤ 12) ∧ ops.length ≤ 20
  rotate_left
  · have HL := Lib.hid hL
    have HO := Lib.hid hO
    clear hL hl ho
    by_cases hf1 : 1 ≤ l.length ∧ l.length ≤ 8 ∧ 1 ≤ C ∧ C ≤ 12
    · have HB : Hid (fewB l.length C = true) := decide_eq_true hf1
      have hd : decide ((20 : Int) < (ops.length : Int)) = true := by simp; omega
      have hd2 : ¬ ((ops.length : Int) ≤ 20) := by omega
      have hO2 := HO.out
      generalize ops.length = M at *
      clear hf hf1 hO
      go_enter Try.func3, Try.ntmps3
      go_wp2_with fail
      refine (few_any a l.length cap C _ HL.out).mono ?_
      rw [HB.out]
      rintro e w1 ⟨rfl, k1⟩
      go_wp2_with fail
      refine (awake_any _).mono ?_
      rintro e w2 ⟨rfl, k2⟩
      go_wp2_with fail
      go_ret
      exact ⟨rfl, Kept0.below ((kA.trans k1).trans k2)⟩
    · have HB : Hid (fewB l.length C = false) := decide_eq_false hf1
      clear hf hf1
      go_enter Try.func3, Try.ntmps3
      go_wp2_with fail
      refine (few_any a l.length cap C _ HL.out).mono ?_
      rw [HB.out]
      rintro e w1 ⟨rfl, k1⟩
      go_wp2_with fail
      refine (awake_any _).mono ?_
      rintro e w2 ⟨rfl, k2⟩
      go_wp2_with fail
      go_ret
      exact ⟨rfl, Kept0.below ((kA.trans k1).trans k2)⟩
  obtain ⟨hf, hM⟩ := hf
  have HB : Hid (fewB l.length C = true) := decide_eq_true hf
  obtain ⟨f1, f2, f3, f4⟩ := hf
  obtain ⟨C, rfl⟩ := Int.eq_ofNat_of_zero_le (show 0 ≤ C by omega)
  have HM : Hid (∀ w', Kept0 w w' → _) := fun w' k => made_any a cap C l w' (hl.kept0 k) f1 f2 (by omega) (by omega)
  have HL := Lib.hid hL
  have HO : Hid (∀ i, i < ops.length → ∃ (b off : Nat) (o : OpR), a' = some ⟨b, off, none⟩ ∧ ∀ (j : Nat) (v : Value), o.vals[j]? = some v → w.cell? ⟨b, off + i * 10 + j, none⟩ = some v) := fun i hi => by
    obtain ⟨b, off, h1, h2⟩ := ho i (ops[i]'hi) (List.getElem?_eq_getElem hi)
    exact ⟨b, off, _, h1, h2⟩
  obtain ⟨F, hF⟩ : ∃ F, F = boardF C l := ⟨_, rfl⟩
  rw [← hF] at HM
  obtain ⟨R, hR⟩ : ∃ R, R = l.length := ⟨_, rfl⟩
  rw [← hR] at f1 f2 HM HL HB kA ⊢
  generalize ops.length = M at *
  clear hF hl hL hR ho
  go_enter Try.func3, Try.ntmps3
  go_wp2_with fail
  obtain ⟨V, hV⟩ : ∃ V, V = w.alloc (.cells #[.slice a R cap, .int .i64 (C : Int)] 24) := ⟨_, rfl⟩
  have s0 : V.cell? ⟨w.heap.size, 0, none⟩ = some (.slice a R cap) := by rw [hV]; simp [go_sem]
  have s1 : V.cell? ⟨w.heap.size, 1, none⟩ = some (.int .i64 (C : Int)) := by rw [hV]; simp [go_sem]
  rw [← hV] at kA ⊢
  clear hV
  refine (few_any a R cap (C : Int) V HL.out).mono ?_
  rw [HB.out]
  rintro e w1 ⟨rfl, k1⟩
  replace s0 := kcell k1 s0
  replace s1 := kcell k1 s1
  replace kA := kA.trans k1
  have hd : decide ((20 : Int) < (M : Int)) = false := by simp; omega
  go_wp2_with fail
  refine (HM.out w1 kA).mono ?_
  rintro e w2 ⟨g, t, cg, h, u, ch, rfl, n1, n2, n3, n4, n5, n6, n7, n8, hg, hh, k2⟩
  have hs := kA.size
  have HP : Hid (Pp w g t cg h u ch R C F F w2) := ⟨hg, hh, kA.trans k2, by omega, by omega, n6, fun e => n7 e.symm, n8⟩
  clear k1 k2 s0 s1 hg hh kA n1 n2 n3 n4 n5 n6 n7 n8 hs
  go_wp2_with fail
  go_loopw [7, 8, 9, 10, 11] (fun s7 s8 s9 s10 s11 wr => ∃ (i : Nat) (f : Nat → Cel), i ≤ M ∧ s7 = .int .i64 (i : Int) ∧ Hid (Pp w g t cg h u ch R C f f wr)) (fun s7 _ _ _ _ _ => M - (intOf s7).toNat)
  case atStart => exact ⟨0, F, by omega, rfl, HP⟩
  case round =>
    clear HP
    obtain ⟨i, f, hi, rfl, HP⟩ := hrel
    by_cases hlt : i < M
    · have hdt : decide ((i : Int) < (M : Int)) = true := by simp; omega
      obtain ⟨b, off, o, rfl, hcs⟩ := HO.out i hlt
      have kk := HP.out.kept
      have o0 := kcell kk (hcs 0 _ rfl)
      have o1 := kcell kk (hcs 1 _ rfl)
      have o2 := kcell kk (hcs 2 _ rfl)
      have o3 := kcell kk (hcs 3 _ rfl)
      have o4 := kcell kk (hcs 4 _ rfl)
      have o5 := kcell kk (hcs 5 _ rfl)
      have o6 := kcell kk (hcs 6 _ rfl)
      have o7 := kcell kk (hcs 7 _ rfl)
      have o8 := kcell kk (hcs 8 _ rfl)
      have o9 := kcell kk (hcs 9 _ rfl)
      have HCS := Lib.hid hcs
      clear hcs kk
      simp only [Nat.add_zero] at o0
      go_wp2_with fail
      refine (does_any g t cg R C f o.ask o.r o.c o.r' o.c' o.x o.b wr HP.out.grid).mono ?_
      rintro e w3 ⟨rfl, hg3, k3⟩
      have HP3 := Lib.hid (HP.out.ongrid hg3 k3)
      clear HP hg3 k3 o0 o1 o2 o3 o4 o5 o6 o7 o8 o9
      have kk := HP3.out.kept
      have o0 := kcell kk (HCS.out 0 _ rfl)
      have o1 := kcell kk (HCS.out 1 _ rfl)
      have o2 := kcell kk (HCS.out 2 _ rfl)
      have o3 := kcell kk (HCS.out 3 _ rfl)
      have o4 := kcell kk (HCS.out 4 _ rfl)
      have o5 := kcell kk (HCS.out 5 _ rfl)
      have o6 := kcell kk (HCS.out 6 _ rfl)
      have o7 := kcell kk (HCS.out 7 _ rfl)
      have o8 := kcell kk (HCS.out 8 _ rfl)
      have o9 := kcell kk (HCS.out 9 _ rfl)
      simp only [Nat.add_zero] at o0
      clear kk
      have HA := Lib.hid (asked_any h u ch R C f o.ask o.r o.c o.r' o.c' o.x o.b w3 HP3.out.ref)
      unfold TurnsR at HA
      generalize wipeF R C f (oOf o.ask o.x o.b) o.r o.c o.r' o.c' = f' at *
      generalize (wipeN R C f (oOf o.ask o.x o.b) o.r o.c o.r' o.c' : Int) = nn at *
      generalize wipeE R C o.r o.c o.r' o.c' = ee at *
      go_wp2_with fail
      refine HA.out.mono ?_
      rintro e w4 ⟨rfl, hr4, k4⟩
      have HP4 := Lib.hid (HP3.out.onref hr4 k4)
      clear HP3 HA hr4 k4 o0 o1 o2 o3 o4 o5 o6 o7 o8 o9
      go_wp2_with fail
      refine (sameL g t cg h u ch R C f' w4 HP4.out.grid HP4.out.ref).mono ?_
      rintro e w5 ⟨rfl, k5⟩
      have HP5 := Lib.hid (HP4.out.keep k5)
      clear HP4 k5
      go_wp2_with fail
      go_roundw
      case rel => exact ⟨i + 1, f', by omega, by go_num, HP5⟩
      case measure => simp [intOf]; omega
    · obtain rfl : i = M := by omega
      have hdt : decide ((i : Int) < (i : Int)) = false := by simp
      go_wp2_with fail
      refine (awake_any _).mono ?_
      rintro e w3 ⟨rfl, k3⟩
      have HP3 := Lib.hid (HP.out.keep k3)
      clear HP k3
      go_wp2_with fail
      go_ret
      exact ⟨rfl, Kept0.below HP3.out.kept⟩
end Go.Proofs.Ytedgnjideemfbaa
