/-
  What Copy does.
-/
import Derived.Test.YtkfphgcbpphbnaaShelf
import Derived.Deep.RegionHeld3
namespace Go.Proofs.Ytkfphgcbpphbnaa
open Go.RowKit Go.Maps Go.ChangeMaps Go.MapKept

set_option maxHeartbeats 2000000 in
theorem copy_any (t m N : Nat) (f : Nat → Bool) (w : World) (h : TabsAt w t m N f) :
    Calls Try.prog 17 #[.pointer (some ⟨t, 0, none⟩)] w fun e w' => ∃ t' m', e = .returned (.pointer (some ⟨t', 0, none⟩)) ∧ w.heap.size ≤ t' ∧ w.heap.size ≤ m' ∧ TabsAt w' t' m' N f ∧ Kept0 w w' := by
  have c0 := h.c0
  have c1 := h.c1
  have hl := h.lt
  obtain ⟨D, ⟨es, clock, hb, F, hsz, hD⟩, hs⟩ := h.set
  have hml : m < w.heap.size := (Array.getElem?_eq_some_iff.1 hb).1
  have HF := Lib.hid F
  have HD := Lib.hid hD
  clear F hD
  go_enter Try.func17, Try.ntmps17
  go_wp2_with fail
  go_region_held3 (fun w' => w'.cell? ⟨t, 0, none⟩ = some (.int .i64 (N : Int)) ∧ w'.cell? ⟨t, 1, none⟩ = some (.map (some m)))
    (first | exact ⟨kcell (Kept.refl _ w).drew c0, kcell (Kept.refl _ w).drew c1⟩ | exact ⟨kcell kx c0, kcell kx c1⟩ | exact ⟨kcell (((Kept.refl _ w).alloc _).alloc _) c0, kcell (((Kept.refl _ w).alloc _).alloc _) c1⟩ | exact ⟨kcell ((((Kept.refl _ w).alloc _).alloc _).drew) c0, kcell ((((Kept.refl _ w).alloc _).alloc _).drew) c1⟩)
    (first | (go_at_call 33; refine (clone_calls m es clock w.drew hb).mono ?_; rintro e w5 ⟨rfl, rfl⟩; have kx : Kept0 w (w.drew.alloc (.map es clock)) := (Kept.refl _ w).drew.alloc _))
  all_goals
    go_wp2_with fail
    go_ret
    refine ⟨w.heap.size + 1, w.heap.size, rfl, by omega, by omega, ⟨heap_new2 _ _ _, ?_, h.N1, h.N2⟩, (((Kept.refl _ w).alloc _).alloc _).drew⟩
    refine ⟨D, ⟨es, clock, ?_, HF.out, hsz, HD.out⟩, hs⟩
    exact heap_old _ _ (heap_new _ _)
end Go.Proofs.Ytkfphgcbpphbnaa
