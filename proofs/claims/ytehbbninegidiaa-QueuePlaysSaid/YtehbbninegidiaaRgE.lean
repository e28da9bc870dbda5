/-
  What Copy does.
-/
import Derived.Test.YtehbbninegidiaaRgD
namespace Go.Proofs.Ytehbbninegidiaa
open Go.RowKit Go.Maps

theorem addr_add (t o j : Nat) : (⟨t, o, none⟩ : Addr).add j = ⟨t, o + j, none⟩ := by
  by_cases h : j = 0
  · subst h; simp [Addr.add]
  · simp [Addr.add, h]
set_option maxHeartbeats 1000000 in
theorem clone_any (w : World) (g most f cap : Nat) (xs : List UInt8) (h : Slots w g most f xs) (hm : most ≤ 4096) (hx : xs.length ≤ most) :
    Calls Try.prog 28 #[.slice (some ⟨g, 0, none⟩) most cap] w fun e w' => ∃ g' cap', e = .returned (.slice (some ⟨g', 0, none⟩) most cap') ∧ w.heap.size ≤ g' ∧ Slots w' g' most f xs ∧ Kept0 w w' := by
  obtain ⟨cur, h1, h2, h3⟩ := h
  obtain ⟨news, hnews⟩ : ∃ news, news = cur.toList.take most := ⟨_, rfl⟩
  have hsz : most ≤ cur.size := by
    by_cases e : most = 0
    · omega
    · obtain ⟨c, hc⟩ := h2 (most - 1) (by omega)
      have := (Array.getElem?_eq_some_iff.1 hc).1
      omega
  have hnl : news.length = most := by rw [hnews, List.length_take, Array.length_toList]; omega
  have hat : ∀ i, i < most → news[i]? = cur[i]? := fun i hi => by rw [hnews, List.getElem?_take_of_lt hi]; simp
  have hone : ∀ u ∈ news, u.oneCell' = true := fun u hu => by
    obtain ⟨i, hi, rfl⟩ := List.getElem_of_mem hu
    obtain ⟨c, hc⟩ := h2 i (by omega)
    have := hat i (by omega)
    rw [hc, List.getElem?_eq_getElem hi] at this
    rw [Option.some.inj this]
    rfl
  have hgl : g < w.heap.size := (Array.getElem?_eq_some_iff.1 h1).1
  have hcell : ∀ j u, news[j]? = some u → (w.alloc (.cells #[] 5)).cell? ((⟨g, 0, none⟩ : Addr).add j) = some u := fun j u hj => by
    have hjl : j < most := by have := (List.getElem?_eq_some_iff.1 hj).1; omega
    rw [hat j hjl] at hj
    rw [addr_add]
    have : (w.alloc (.cells #[] 5)).heap[g]? = some (.cells cur 5 (0, 0)) := (Below.heap_alloc _ _ _ hgl).trans h1
    simp [World.cell?, this, hj]
  have hnil := fun w => Lib.run_eql_slice_nil (P := Try.prog) w 46 5 (some ⟨g, 0, none⟩) most cap 0 0 Try.underlying46
  obtain ⟨i0, hi, hz0, hz1, hz2⟩ := info_parts Try.info5
  have H1 := Lib.hid h1
  have H2 : Hid ((∀ i, i < most → ∃ c, cur[i]? = some (encB c)) ∧ (∀ i x, xs[i]? = some x → cur[(f + i) % most]? = some (encB x)) ∧ ∀ i, i < most → news[i]? = cur[i]?) := ⟨h2, h3, hat⟩
  clear h1 h2 h3 hnews hat
  go_enter Try.func28, Try.ntmps28
  go_wp2_with (at_builtin; refine wpList_append_own _ rfl _ _ 46 rfl w.heap.size 5 i0 (.int .u8 0) 1 1 Try.underlying46 hi hz0 hz1 hz2 rfl (by decide) _ 0 [] rfl ?c0 ⟨g, 0, none⟩ most cap news rfl (by omega) hcell hone ?c3 ?c4 ?c5 ?_)
  case c0 => exact World.ownsRow_made w #[] 0 (Nat.le_refl _) (by simp) (by simp)
  case c3 => unfold maxLen; omega
  case c4 => omega
  case c5 => simp
  intro v' w1 hown hgrow hiff
  have hne : v' ≠ .slice none 0 0 := hiff
  clear hiff
  have HO : Hid (∃ g' cap', v' = .slice (some ⟨g', 0, none⟩) most cap' ∧ w.heap.size ≤ g' ∧ Slots w1 g' most f xs) := by
    obtain ⟨_, ⟨e, _⟩ | ⟨g', cap', cur', hv, hb, hh, hc, _, hs, ht⟩⟩ := hown
    · exact absurd e hne
    · refine ⟨g', cap', by simpa using hv, hb, cur', hh, fun i hi => ?_, fun i x hx' => ?_⟩
      · obtain ⟨c, hc'⟩ := H2.out.1 i hi
        refine ⟨c, ?_⟩
        have h5 : (cur'.toList.take most)[i]? = cur[i]? := by
          have : cur'.toList.take most = news := by simpa using ht
          rw [this]
          exact H2.out.2.2 i hi
        rw [List.getElem?_take_of_lt hi, hc'] at h5
        simpa using h5
      · have hlt : (f + i) % most < most := by
          refine Nat.mod_lt _ ?_
          have := (List.getElem?_eq_some_iff.1 hx').1
          omega
        have h5 : (cur'.toList.take most)[(f + i) % most]? = cur[(f + i) % most]? := by
          have : cur'.toList.take most = news := by simpa using ht
          rw [this]
          exact H2.out.2.2 _ hlt
        rw [List.getElem?_take_of_lt hlt, H2.out.2.1 i x hx'] at h5
        simpa using h5
  have HK : Hid (Kept0 w w1) := ((Kept.refl _ w).alloc _).later (Kept.ofGrown hgrow) (fun i hi e => by simp [Value.ownBlock] at e; omega)
  obtain ⟨g', cap', rfl, hb, hS⟩ := HO.out
  have HS := Lib.hid hS
  clear hS hown hgrow hne HO H1 H2
  go_wp2
  go_ret
  exact ⟨g', cap', rfl, hb, HS.out, HK.out⟩
section
variable {w : World} {b g most : Nat} {xs : List UInt8} {over : Bool}
set_option maxHeartbeats 1000000 in
theorem copy_any (h : Qf w b g most xs over) : Calls Try.prog 18 #[ptr b] w fun e w' => ∃ c gc, e = .returned (ptr c) ∧ Qf w' c gc most xs over ∧ w.heap.size ≤ c ∧ w.heap.size ≤ gc ∧ Kept0 w w' := by
  have hm := h.le
  have hl := h.len
  obtain ⟨f, cap, h1, h2, h3, h4⟩ := h.at_
  have c0 : w.cell? ⟨b, 0, none⟩ = some (.slice (some ⟨g, 0, none⟩) most cap) := by simp [World.cell?, h1]
  have c1 : w.cell? ⟨b, 1, none⟩ = some (.int .i64 (f : Int)) := by simp [World.cell?, h1]
  have c2 : w.cell? ⟨b, 2, none⟩ = some (.int .i64 (xs.length : Int)) := by simp [World.cell?, h1]
  have c3 : w.cell? ⟨b, 3, none⟩ = some (.bool over) := by simp [World.cell?, h1]
  have HR := Lib.hid (And.intro h2 h3)
  have H4 := Lib.hid h4
  have hbl := h.lt
  clear h h1 h2 h3 h4
  obtain ⟨n, hn⟩ : ∃ n, n = xs.length := ⟨_, rfl⟩
  rw [← hn] at c2
  have HN := Lib.hid hn
  clear hn
  go_enter Try.func18, Try.ntmps18
  go_wp2_with fail
  obtain ⟨W, hW⟩ : ∃ W, W = w.alloc (.cells #[.slice (some ⟨g, 0, none⟩) most cap, .int .i64 (f : Int), .int .i64 (n : Int), .bool over] 50) := ⟨_, rfl⟩
  have kW : Kept0 w W := by rw [hW]; exact (Kept.refl _ w).alloc _
  have hh : W.heap[w.heap.size]? = some (.cells #[.slice (some ⟨g, 0, none⟩) most cap, .int .i64 (f : Int), .int .i64 (n : Int), .bool over] 50 (0, 0)) := by rw [hW]; exact heap_new w _
  have hs : W.heap.size = w.heap.size + 1 := by rw [hW]; simp
  have hcl := clone_any W g most f cap xs (H4.out.kept (kW.block g (by obtain ⟨cur, q, _⟩ := H4.out; exact (Array.getElem?_eq_some_iff.1 q).1) (fun e => e))) hm hl
  have HC := Lib.hid hcl
  have HKW := Lib.hid kW
  rw [← hW]
  clear hcl hW kW c0 c1 c2 c3 H4
  refine HC.out.mono ?_
  rintro e w2 ⟨g', cap', rfl, hg', hsl, k2⟩
  have hh2 : w2.heap[w.heap.size]? = some (.cells #[.slice (some ⟨g, 0, none⟩) most cap, .int .i64 (f : Int), .int .i64 (n : Int), .bool over] 50 (0, 0)) := (k2.block _ (by omega) (fun e => e)).trans hh
  have c0 : w2.cell? ⟨w.heap.size, 0, none⟩ = some (.slice (some ⟨g, 0, none⟩) most cap) := by simp [World.cell?, hh2]
  have f0 : w2.frozen? ⟨w.heap.size, 0, none⟩ = false := by simp [World.frozen?, hh2]
  have HH := Lib.hid hh2
  have HS := Lib.hid hsl
  have HK2 := Lib.hid k2
  have hgl : g' < w2.heap.size := by obtain ⟨cur, q, _⟩ := hsl; exact (Array.getElem?_eq_some_iff.1 q).1
  clear hh hh2 hsl k2 HC
  go_wp2_with fail
  go_ret
  have kf : Kept (· = w.heap.size) w2 (w2.setCell ⟨w.heap.size, 0, none⟩ (.slice (some ⟨g', 0, none⟩) most cap')) := Kept.setCell (S := (· = w.heap.size)) (Kept.refl _ w2) ⟨w.heap.size, 0, none⟩ (Or.inr rfl) _
  refine ⟨w.heap.size, g', rfl, ⟨⟨f, cap', ?_, HR.out.1, HR.out.2, HS.out.kept (kf.block _ hgl (by omega))⟩, by omega, hm, hl⟩, Nat.le_refl _, by omega, (HKW.out.trans HK2.out).later kf (fun i hi e => by omega)⟩
  simp [World.setCell, Array.getElem?_modify, HH.out, HN.out]
end
end Go.Proofs.Ytehbbninegidiaa
