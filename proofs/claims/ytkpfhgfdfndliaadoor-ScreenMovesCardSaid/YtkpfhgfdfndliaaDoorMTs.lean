/-
  Texts merged: TbShelf TbCopy.
-/
import Derived.Shelf.SlIterI.Nil
import Derived.Shelf.SortM.Plain
import Derived.Shelf.SortM.SortNone
import Derived.Shelf.SlMaps.Clone
import Derived.Test.YtkpfhgfdfndliaaDoorMTb
import Derived.Deep.RegionHeld3
/-
  What slices.Sorted of maps.Keys, slices.Sort of numbers and maps.Clone do, at this program: one application each of what the library has proved; List and Copy.
-/
namespace Go.Proofs.YtkpfhgfdfndliaaDoor
namespace Tb
open Go.Shelf Go.RowKit Go.Maps Go.Sort Go.ChangeMaps Go.MapKept

def keysA_ren : Go.Shelf.Ren := ⟨fun | 7 => 99999 | 10 => 99999 | n => n, fun | 23 => 101 | 26 => 3 | 3 => 105 | 28 => 137 | 0 => 0 | 27 => 136 | 33 => 114 | 4 => 4 | n => n, fun | n => n⟩
def sortedA_ren : Go.Shelf.Ren := ⟨fun | 6 => 99999 | 8 => 99999 | 9 => 99999 | 11 => 99999 | 13 => 99999 | 12 => 99999 | 23 => 99999 | 24 => 99999 | 14 => 99999 | 15 => 99999 | 16 => 99999 | 17 => 99999 | 18 => 99999 | 19 => 99999 | 20 => 99999 | 21 => 99999 | 22 => 99999 | 25 => 99999 | 26 => 99999 | 27 => 99999 | 28 => 99999 | 29 => 99999 | 30 => 99999 | 31 => 99999 | n => n, fun | 26 => 3 | 28 => 137 | 24 => 117 | 0 => 0 | 3 => 3 | 37 => 194 | 48 => 153 | 50 => 211 | 4 => 4 | 40 => 202 | 39 => 201 | 45 => 206 | 5 => 5 | 9 => 9 | 51 => 212 | 55 => 216 | 57 => 218 | 58 => 164 | 33 => 114 | n => n, fun | n => n⟩
def sortA_ren : Go.Shelf.Ren := ⟨fun | 5 => 99999 | 8 => 99999 | 7 => 99999 | 19 => 99999 | 20 => 99999 | 10 => 99999 | 11 => 99999 | 12 => 99999 | 13 => 99999 | 14 => 99999 | 15 => 99999 | 16 => 99999 | 17 => 99999 | 18 => 99999 | 30 => 99999 | 31 => 99999 | 32 => 99999 | 33 => 99999 | 34 => 99999 | 35 => 99999 | 40 => 99999 | n => n, fun | 23 => 117 | 25 => 3 | 3 => 3 | 32 => 194 | 22 => 117 | 0 => 0 | 44 => 153 | 46 => 211 | 4 => 4 | 36 => 202 | 35 => 201 | 41 => 206 | 5 => 5 | 9 => 9 | 53 => 212 | 57 => 216 | 63 => 218 | 64 => 164 | n => n, fun | n => n⟩
def cloneA_ren : Go.Shelf.Ren := ⟨fun | 5 => 63 | 7 => 80 | n => n, fun | 23 => 101 | 25 => 3 | 3 => 105 | 4 => 4 | 20 => 20 | n => n, fun | n => n⟩
theorem cloneA : Go.Proofs.SlLaysW.n5 Tryd.prog cloneA_ren := {
  mixed := by kernel_rfl
  f5 := ⟨Tryd.f63.name, by decide, Tryd.func63.trans (congrArg some (by kernel_rfl))⟩
  f7 := Tryd.func80.trans (congrArg some (by kernel_rfl))
  t4 := Tryd.underlying4
  a4 := Tryd.isAgg4
  z4 := Tryd.sizeOf4
  v4 := Tryd.zeroValue4
  t20 := Tryd.underlying20
  a20 := Tryd.isAgg20
  z20 := Tryd.sizeOf20
  v20 := Tryd.zeroValue20
  t23 := Tryd.underlying101
  a23 := Tryd.isAgg101
  z23 := Tryd.sizeOf101
  v23 := Tryd.zeroValue101 }




/-- The keys, sorted, are the list of the stops. -/
theorem sorted_list {D : DataW Unit} {N : Nat} {f : Nat → Bool} (h : SetIs D N f) {w : World} {b n : Nat} (hown : w.ownsMap Tryd.prog 3 uE b n D) {ss : List Int} (hp : ss.Perm (intKeys D)) :
    ss.mergeSort (fun x y => decide (x ≤ y)) = listN N f := by
  have h1 : ss.Perm (listN N f) := hp.trans (h.perm hown).symm
  have h2 := mergeSort_of_perm_i h1
  have h3 : (listN N f).mergeSort leI = listN N f := List.mergeSort_of_pairwise ((listN_rise N f).imp (fun h => by simp only [leI, decide_eq_true_eq]; omega))
  rw [h3] at h2
  exact h2

/-- A row of numbers that is owned. -/
theorem ints_owned {w : World} {base : Nat} {v : Value} {l : List Int} (h : w.ownsRow base 3 1 v l.length (l.map encZ)) : ∃ a cap, v = .slice a l.length cap ∧ IntsIn w a l ∧ (∀ b off, a = some ⟨b, off, none⟩ → base ≤ b) := by
  rcases h.2 with ⟨rfl, hz⟩ | ⟨gb, cap, cur, rfl, hbase, hgb, r1, r2, r3, r4⟩
  · exact ⟨none, 0, by rw [hz], fun k x hx => by rw [List.eq_nil_of_length_eq_zero hz] at hx; simp at hx, fun _ _ e => by cases e⟩
  · refine ⟨_, cap, rfl, fun k x hx => ⟨gb, 0, rfl, ?_⟩, fun b off e => by cases e; exact hbase⟩
    have hk : k < l.length := (List.getElem?_eq_some_iff.1 hx).1
    have h5 : (cur.toList.take l.length)[k]? = some (encZ x) := by
      have : cur.toList.take l.length = l.map encZ := by simpa using r4
      rw [this, List.getElem?_map, hx]; rfl
    rw [List.getElem?_take_of_lt hk] at h5
    simp [World.cell?, hgb]
    simpa using h5


theorem clone_calls (b : Nat) (es : Array MapEntry) (clock : Nat) (w : World) (hb : w.heap[b]? = some (.map es clock)) :
    Calls Tryd.prog 63 #[.map (some b)] w fun e w' => e = .returned (.map (some w.heap.size)) ∧ w' = w.alloc (.map es clock) :=
  AnyW.maps_Clone cloneA b es clock w hb
end Tb
end Go.Proofs.YtkpfhgfdfndliaaDoor

/-
  What Copy does.
-/
namespace Go.Proofs.YtkpfhgfdfndliaaDoor
namespace Tb
open Go.RowKit Go.Maps Go.ChangeMaps Go.MapKept

set_option maxHeartbeats 2000000 in
theorem copy_any (t m N : Nat) (f : Nat → Bool) (w : World) (h : TabsAt w t m N f) :
    Calls Tryd.prog 36 #[.pointer (some ⟨t, 0, none⟩)] w fun e w' => ∃ t' m', e = .returned (.pointer (some ⟨t', 0, none⟩)) ∧ w.heap.size ≤ t' ∧ w.heap.size ≤ m' ∧ TabsAt w' t' m' N f ∧ Kept0 w w' := by
  have c0 := h.c0
  have c1 := h.c1
  have hl := h.lt
  obtain ⟨D, ⟨es, clock, hb, F, hsz, hD⟩, hs⟩ := h.set
  have hml : m < w.heap.size := (Array.getElem?_eq_some_iff.1 hb).1
  have HF := Lib.hid F
  have HD := Lib.hid hD
  clear F hD
  go_enter Tryd.func36, Tryd.ntmps36
  go_wp2_with fail
  go_region_held3 (fun w' => w'.cell? ⟨t, 0, none⟩ = some (.int .i64 (N : Int)) ∧ w'.cell? ⟨t, 1, none⟩ = some (.map (some m)))
    (first | exact ⟨kcell (Kept.refl _ w).drew c0, kcell (Kept.refl _ w).drew c1⟩ | exact ⟨kcell kx c0, kcell kx c1⟩ | exact ⟨kcell (((Kept.refl _ w).alloc _).alloc _) c0, kcell (((Kept.refl _ w).alloc _).alloc _) c1⟩ | exact ⟨kcell ((((Kept.refl _ w).alloc _).alloc _).drew) c0, kcell ((((Kept.refl _ w).alloc _).alloc _).drew) c1⟩)
    (first | (go_at_call 63; refine (clone_calls m es clock w.drew hb).mono ?_; rintro e w5 ⟨rfl, rfl⟩; have kx : Kept0 w (w.drew.alloc (.map es clock)) := (Kept.refl _ w).drew.alloc _))
  all_goals
    go_wp2_with fail
    go_ret
    refine ⟨w.heap.size + 1, w.heap.size, rfl, by omega, by omega, ⟨heap_new2 _ _ _, ?_, h.N1, h.N2⟩, (((Kept.refl _ w).alloc _).alloc _).drew⟩
    refine ⟨D, ⟨es, clock, ?_, HF.out, hsz, HD.out⟩, hs⟩
    exact heap_old _ _ (heap_new _ _)
end Tb
end Go.Proofs.YtkpfhgfdfndliaaDoor
