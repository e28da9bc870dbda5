/-
  The law WipeGuards.
-/
import Derived.Test.YtedgnjideemfbaaGuardF
import Derived.Test.YtedgnjideemfbaaOpIn
import Derived.Test.YtedgnjideemfbaaAwake
namespace Go.Proofs.Ytedgnjideemfbaa
open Go.RowKit

attribute [local go_sem] Oper.semAt_some

/-- A number that may be written. -/
structure NumAt (w : World) (b : Nat) (n : Int) : Prop where
  c : w.cell? ⟨b, 0, none⟩ = some (.int .i64 n)
  f : w.frozen? ⟨b, 0, none⟩ = false
theorem NumAt.lt {w : World} {b : Nat} {n : Int} (h : NumAt w b n) : b < w.heap.size := World.block_lt_of_cell? w _ h.c
theorem NumAt.kept {S : Nat → Prop} {w w' : World} {b : Nat} {n : Int} (h : NumAt w b n) (k : Kept S w w') (hs : ¬ S b) : NumAt w' b n := ⟨kcellS k h.c hs, (k.frozen h.lt hs).trans h.f⟩
theorem NumAt.set {w : World} {b : Nat} {n : Int} (h : NumAt w b n) (m : Int) : NumAt (w.setCell ⟨b, 0, none⟩ (.int .i64 m)) b m := ⟨by simp [go_sem, h.c], by simp [go_sem, h.f]⟩

/-- A grid with the cells fg, a copy with the cells F; the call in block ob, the grid's address in block e, the answer in block v; all that was there is kept. -/
structure Pg (w : World) (g t cg h u ch ob e v R C : Nat) (o : OpR) (fg F : Nat → Cel) (w' : World) : Prop where
  grid : GridAt w' g t cg R C fg
  copy : GridAt w' h u ch R C F
  kept : Kept0 w w'
  op : OpIn w' ob o
  e0 : w'.cell? ⟨e, 0, none⟩ = some (.pointer (some ⟨g, 0, none⟩))
  v0 : BoolAt w' v false

namespace Pg
variable {w : World} {g t cg h u ch ob e v R C : Nat} {o : OpR} {fg F : Nat → Cel} {w1 : World}
theorem keep (H : Pg w g t cg h u ch ob e v R C o fg F w1) {w2 : World} (k : Kept0 w1 w2) : Pg w g t cg h u ch ob e v R C o fg F w2 :=
  ⟨H.grid.kept k (fun e => e) (fun e => e), H.copy.kept k (fun e => e) (fun e => e), H.kept.trans k, H.op.kept k (fun e => e), kcell k H.e0, H.v0.kept k (fun e => e)⟩
theorem on (H : Pg w g t cg h u ch ob e v R C o fg F w1) {w2 : World} {fg' : Nat → Cel} (hg : GridAt w2 g t cg R C fg') (k : Kept (· = t) w1 w2) (n : w.heap.size ≤ t ∧ h ≠ t ∧ u ≠ t ∧ ob ≠ t ∧ e ≠ t ∧ v ≠ t) : Pg w g t cg h u ch ob e v R C o fg' F w2 :=
  ⟨hg, H.copy.kept k n.2.1 n.2.2.1, H.kept.later k (fun i hi e => by have := n.1; omega), H.op.kept k n.2.2.2.1, kcellS k H.e0 n.2.2.2.2.1, H.v0.kept k n.2.2.2.2.2⟩
theorem off (H : Pg w g t cg h u ch ob e v R C o fg F w1) {w2 : World} {q : Nat} (k : Kept (· = q) w1 w2) (n : w.heap.size ≤ q ∧ g ≠ q ∧ t ≠ q ∧ h ≠ q ∧ u ≠ q ∧ ob ≠ q ∧ e ≠ q ∧ v ≠ q) : Pg w g t cg h u ch ob e v R C o fg F w2 :=
  ⟨H.grid.kept k n.2.1 n.2.2.1, H.copy.kept k n.2.2.2.1 n.2.2.2.2.1, H.kept.later k (fun i hi e => by have := n.1; omega), H.op.kept k n.2.2.2.2.2.1, kcellS k H.e0 n.2.2.2.2.2.2.1, H.v0.kept k n.2.2.2.2.2.2.2⟩
end Pg

set_option maxHeartbeats 8000000 in
set_option maxRecDepth 100000 in
theorem guards_calls (a : Option Addr) (cap : Nat) (C : Int) (l : List ByteArray) (ask r c r' c' : Int) (x : Cel) (b : Bool) (w : World) (hl : StrsIn w a l) (hL : l.length ≤ 9223372036854775807) :
    Calls Try.prog 5 #[.agg #[.slice a l.length cap, .int .i64 C], opV ask r c r' c' x b] w fun e w' => e = .returned (.bool true) ∧ Below w.heap.size w w' := by
  obtain ⟨ov, hov⟩ : ∃ ov : Array Value, ov = #[.int .i64 ask, .int .i64 r, .int .i64 c, .int .i64 r', .int .i64 c', .int .i32 x.g, .int .i64 x.a, .bool x.b, .int .i64 x.m, .bool b] := ⟨_, rfl⟩
  have kA : Kept0 w (((w.alloc (.cells #[.slice a l.length cap, .int .i64 C] 24)).alloc (.cells ov 40)).alloc (.cells #[.bool false] 4)) := (((Kept.refl _ w).alloc _).alloc _).alloc _
  have hB0 : BoolAt (((w.alloc (.cells #[.slice a l.length cap, .int .i64 C] 24)).alloc (.cells ov 40)).alloc (.cells #[.bool false] 4)) (w.heap.size + 1 + 1) false := BoolAt.of (heap_new3 w _ _ _)
  have ka : Kept0 (w.alloc (.cells #[.slice a l.length cap, .int .i64 C] 24)) (((w.alloc (.cells #[.slice a l.length cap, .int .i64 C] 24)).alloc (.cells ov 40)).alloc (.cells #[.bool false] 4)) := ((Kept.refl _ _).alloc _).alloc _
  have kb : Kept0 ((w.alloc (.cells #[.slice a l.length cap, .int .i64 C] 24)).alloc (.cells ov 40)) (((w.alloc (.cells #[.slice a l.length cap, .int .i64 C] 24)).alloc (.cells ov 40)).alloc (.cells #[.bool false] 4)) := (Kept.refl _ _).alloc _
  by_cases hf : 1 ≤ l.length ∧ l.length ≤ 8 ∧ 1 ≤ C ∧ C ≤ 12
  rotate_left
  · have HB : Hid (fewB l.length C = false) := decide_eq_false hf
    clear hf
    have HL := Lib.hid hL
    subst hov
    clear hL hl ka kb
    refine calls_marks Try.func5 rfl ?_
    simp only [Try.ntmps5, List.size_toArray, List.length_cons, List.length_nil, Nat.reduceAdd, Nat.reduceSub, Array.replicate_succ, Array.replicate_zero, List.push_toArray, List.append_toArray, List.nil_append, List.cons_append]
    go_wp2_with fail
    refine (few_any a l.length cap C _ HL.out).mono ?_
    rw [HB.out]
    rintro e w1 ⟨rfl, k1⟩
    go_wp2_with fail
    refine (awake_any _).mono ?_
    rintro e w2 ⟨rfl, k2⟩
    have hB2 := (hB0.kept k1 (fun e => e)).kept k2 (fun e => e)
    have b1 := hB2.c
    have b2 := hB2.f
    have hB4 := (hB2.set true).c
    go_wp2_with fail
    refine ⟨.bool true, by simp [results, Try.results5, go_sem, hB4], rfl, ?_⟩
    exact Kept0.below (((kA.trans k1).trans k2).setCell _ (Or.inl (by simp; omega)) _)
  have HB : Hid (fewB l.length C = true) := decide_eq_true hf
  obtain ⟨f1, f2, f3, f4⟩ := hf
  obtain ⟨C, rfl⟩ := Int.eq_ofNat_of_zero_le (show 0 ≤ C by omega)
  have HM : Hid (∀ w', Kept0 w w' → _) := fun w' k => made_any a cap C l w' (hl.kept0 k) f1 f2 (by omega) (by omega)
  have HL := Lib.hid hL
  obtain ⟨F, hF⟩ : ∃ F, F = boardF C l := ⟨_, rfl⟩
  rw [← hF] at HM
  obtain ⟨R, hR⟩ : ∃ R, R = l.length := ⟨_, rfl⟩
  rw [← hR] at f1 f2 HM HL HB kA ka kb hB0 ⊢
  clear hF hl hL hR
  have hop0 : OpIn ((w.alloc (.cells #[.slice a R cap, .int .i64 (C : Int)] 24)).alloc (.cells ov 40)) (w.heap.size + 1) ⟨ask, r, c, r', c', x, b⟩ := by
    have := opIn_new (w.alloc (.cells #[.slice a R cap, .int .i64 (C : Int)] 24)) ⟨ask, r, c, r', c', x, b⟩
    rw [World.size_alloc] at this
    rw [hov]
    exact this
  obtain ⟨V, hV⟩ : ∃ V, V = ((w.alloc (.cells #[.slice a R cap, .int .i64 (C : Int)] 24)).alloc (.cells ov 40)).alloc (.cells #[.bool false] 4) := ⟨_, rfl⟩
  rw [← hV] at kA ka kb hB0
  have s0 : V.cell? ⟨w.heap.size, 0, none⟩ = some (.slice a R cap) := kcell ka (by simp [go_sem])
  have s1 : V.cell? ⟨w.heap.size, 1, none⟩ = some (.int .i64 (C : Int)) := kcell ka (by simp [go_sem])
  have HOP := Lib.hid (hop0.kept kb (fun e => e))
  rw [hov] at hV
  clear hov hop0 kb ka
  clear ov
  refine calls_marks Try.func5 rfl ?_
  simp only [Try.ntmps5, List.size_toArray, List.length_cons, List.length_nil, Nat.reduceAdd, Nat.reduceSub, Array.replicate_succ, Array.replicate_zero, List.push_toArray, List.append_toArray, List.nil_append, List.cons_append]
  go_wp2_with fail
  rw [← hV]
  clear hV
  refine (few_any a R cap (C : Int) V HL.out).mono ?_
  rw [HB.out]
  rintro e w1 ⟨rfl, k1⟩
  replace s0 := kcell k1 s0
  replace s1 := kcell k1 s1
  replace HOP := Lib.hid (HOP.out.kept k1 (fun e => e))
  replace hB0 := hB0.kept k1 (fun e => e)
  replace kA := kA.trans k1
  clear k1
  have hs0 : w.heap.size < w1.heap.size := World.block_lt_of_cell? w1 _ s0
  have hs2 : w.heap.size + 1 + 1 < w1.heap.size := hB0.lt
  go_wp2_with fail
  clear s0 s1
  refine (HM.out w1 kA).mono ?_
  rintro e w2 ⟨g, t, cg, g9, t9, c9, rfl, n1, n2, _, _, _, _, _, _, hg, _, k2⟩
  replace hB0 := hB0.kept k2 (fun e => e)
  replace HOP := Lib.hid (HOP.out.kept k2 (fun e => e))
  replace kA := kA.trans k2
  have hs3 := k2.size
  clear k2
  have htl := hg.row.lt
  have hgl := hg.lt
  obtain ⟨W2, hW2⟩ : ∃ W2, W2 = w2.alloc (.cells #[.pointer (some ⟨g, 0, none⟩)] 28) := ⟨_, rfl⟩
  have kW2 : Kept0 w2 W2 := by rw [hW2]; exact (Kept.refl _ w2).alloc _
  have x3 : W2.cell? ⟨w2.heap.size, 0, none⟩ = some (.pointer (some ⟨g, 0, none⟩)) := by rw [hW2]; simp [go_sem]
  go_wp2_with fail
  rw [← hW2]
  clear hW2
  refine (copy_any g t cg R C F W2 (hg.kept kW2 (fun e => e) (fun e => e))).mono ?_
  rintro e w3 ⟨h, u, ch, rfl, m1, m2, hh, k3⟩
  have hsz2 : w2.heap.size < W2.heap.size := World.block_lt_of_cell? W2 _ x3
  have hsz3 := k3.size
  have hhl := hh.lt
  have hul := hh.row.lt
  have HP : Hid (Pg w g t cg h u ch (w.heap.size + 1) w2.heap.size (w.heap.size + 1 + 1) R C ⟨ask, r, c, r', c', x, b⟩ F F w3) :=
    ⟨(hg.kept kW2 (fun e => e) (fun e => e)).kept k3 (fun e => e) (fun e => e), hh, (kA.trans kW2).trans k3, (HOP.out.kept kW2 (fun e => e)).kept k3 (fun e => e), kcell k3 x3, (hB0.kept kW2 (fun e => e)).kept k3 (fun e => e)⟩
  clear hg hh kA x3 hB0 kW2 k3 HOP HM
  have z3 := HP.out.e0
  have o0 := HP.out.op 0 _ rfl
  have o1 := HP.out.op 1 _ rfl
  have o2 := HP.out.op 2 _ rfl
  have o3 := HP.out.op 3 _ rfl
  have o4 := HP.out.op 4 _ rfl
  have o5 := HP.out.op 5 _ rfl
  have o6 := HP.out.op 6 _ rfl
  have o7 := HP.out.op 7 _ rfl
  have o8 := HP.out.op 8 _ rfl
  have o9 := HP.out.op 9 _ rfl
  simp only at o0 o1 o2 o3 o4 o5 o6 o7 o8 o9
  go_wp2_with fail
  refine (does_any g t cg R C F ask r c r' c' x b w3 HP.out.grid).mono ?_
  rintro e w4 ⟨rfl, hg4, k4⟩
  have hsz4 := k4.size
  have HP4 := Lib.hid (HP.out.on hg4 k4 ⟨by omega, by omega, by omega, by omega, by omega, by omega⟩)
  clear HP hg4 k4 z3 o0 o1 o2 o3 o4 o5 o6 o7 o8 o9
  have H1 : Hid (∀ k, k < R * C → ¬ F k = wipeF R C F (oOf ask x b) r c r' c' k → wipeE R C r c r' c' = 0 ∧ ((r < rowOf C k ∨ (rowOf C k : Int) = r ∧ c ≤ colOf C k) ∧ ((rowOf C k : Int) < r' ∨ (rowOf C k : Int) = r' ∧ (colOf C k : Int) ≤ c')) ∧ ((ask = 0 ∨ ask = 1) → b = true → (F k).b = false)) := fun k hk hne => wipeF_turned R C F ask x b r c r' c' k (by omega) hk hne
  have H2 := Lib.hid (cntD_wipe R C F (oOf ask x b) r c r' c')
  have H3 := Lib.hid (wipeN_again R C F (oOf ask x b) (oOf_idem ask x b) r c r' c')
  have HA : Hid (∀ w', GridAt w' g t cg R C (wipeF R C F (oOf ask x b) r c r' c') → Calls Try.prog 12 #[.pointer (some ⟨g, 0, none⟩), opV ask r c r' c' x b] w' fun e w'' => e = .returned (.tuple #[.int .i64 0, .int .i64 (wipeE R C r c r' c')]) ∧ Kept (· = t) w' w'') := fun w' hg' => by
    refine (does_any g t cg R C _ ask r c r' c' x b w' hg').mono ?_
    rintro e w'' ⟨rfl, _, k⟩
    rw [H3.out]
    exact ⟨rfl, k⟩
  clear H3
  generalize wipeF R C F (oOf ask x b) r c r' c' = FG at *
  generalize wipeN R C F (oOf ask x b) r c r' c' = n0 at *
  generalize wipeE R C r c r' c' = E at *
  have hRC : R * C ≤ 8 * 12 := Nat.mul_le_mul f2 (by omega)
  obtain ⟨W5, hW5⟩ : ∃ W5, W5 = (w4.alloc (.cells #[.int .i64 E] 32)).alloc (.cells #[.int .i64 0] 3) := ⟨_, rfl⟩
  have kW5 : Kept0 w4 W5 := by rw [hW5]; exact ((Kept.refl _ w4).alloc _).alloc _
  have y0 : W5.cell? ⟨w4.heap.size, 0, none⟩ = some (.int .i64 E) := by rw [hW5]; simp [go_sem]
  have hN5 : NumAt W5 (w4.heap.size + 1) 0 := by rw [hW5]; exact ⟨by simp [go_sem], by simp [go_sem]⟩
  have hs5 : w4.heap.size + 1 + 1 = W5.heap.size := by rw [hW5]; simp
  have HP5 := Lib.hid (HP4.out.keep kW5)
  clear HP4
  go_wp2_with fail
  rw [← hW5]
  clear hW5 kW5
  refine (all_any _ _).mono ?_
  rintro e w9 ⟨rfl, rfl⟩
  obtain ⟨w8, hw8⟩ : ∃ w8, w8 = W5.alloc (.cells #[.pointer (some ⟨h, 0, none⟩)] 28) := ⟨_, rfl⟩
  have k8 : Kept0 W5 w8 := by rw [hw8]; exact (Kept.refl _ W5).alloc _
  have hbx : w8.cell? ⟨W5.heap.size, 0, none⟩ = some (.pointer (some ⟨h, 0, none⟩)) := by rw [hw8]; simp [go_sem]
  have hs8 : W5.heap.size + 1 = w8.heap.size := by rw [hw8]; simp
  have HP8 := Lib.hid (HP5.out.keep k8)
  replace y0 := kcell k8 y0
  have hN8 := hN5.kept k8 (fun e => e)
  clear HP5 hN5
  rw [← hw8]
  clear hw8 k8
  go_wp2_with fail
  have hC1 := HP8.out.grid.C1
  have hofs : Hid (∀ (k : Nat) (W : World), (Kept (· = w4.heap.size + 1) w8 W ∧ NumAt W (w4.heap.size + 1) (cntD F FG k : Int)) → Pg w g t cg h u ch (w.heap.size + 1) w2.heap.size (w.heap.size + 1 + 1) R C ⟨ask, r, c, r', c', x, b⟩ FG F W ∧ W.cell? ⟨W5.heap.size, 0, none⟩ = some (.pointer (some ⟨h, 0, none⟩)) ∧ W.cell? ⟨w4.heap.size, 0, none⟩ = some (.int .i64 E)) := fun k W ⟨hk, _⟩ =>
    ⟨HP8.out.off hk ⟨by omega, by omega, by omega, by omega, by omega, by omega, by omega, by omega⟩, kcellS hk hbx (by omega), kcellS hk y0 (by omega)⟩
  refine wpIn_wide.1 (wp_range (n := 0) (gf := 32) (lb := #[.pointer (some ⟨W5.heap.size, 0, none⟩)]) rfl (enters_of Try.func32 (by kernel_rfl) rfl) (all1_grid W5.heap.size h u ch R C F) (fun _ => rfl)
    (fun k W => Kept (· = w4.heap.size + 1) w8 W ∧ NumAt W (w4.heap.size + 1) (cntD F FG k : Int)) (fun _ _ _ => False) ?_ (fun _ _ _ _ h _ => h) ?_ ?_ ?_ ?_ ?_)
  · rintro k W W' ⟨h1, h2⟩ hb
    exact ⟨h1.thenBelow hb (Nat.le_refl _), ⟨(World.cell?_of_block (hb.block (w4.heap.size + 1) (by omega))).trans h2.c, (World.frozen?_of_block (hb.block (w4.heap.size + 1) (by omega))).trans h2.f⟩⟩
  · rintro k W hW
    exact ⟨(hofs.out k W hW).2.1, (hofs.out k W hW).1.copy⟩
  · exact ⟨Kept.refl _ _, hN8⟩
  · rintro l9 k W hl1 hl2 hk ⟨hKW, hNW⟩
    have hsW9 := hKW.size
    unfold allArgs
    gi_wp2_with fail
    refine ⟨((Kept.refl _ W).alloc _).alloc _, fun W4 hk2 hb2 => ?_⟩
    have hlW : ¬ W.heap.size = l9 := by omega
    have hlW1 : ¬ W.heap.size + 1 = l9 := by omega
    have b0 : W4.cell? ⟨W.heap.size, 0, none⟩ = some (.int .i64 (rowOf C k : Int)) := (hk2.cell (by simp; omega) hlW).trans (by simp [go_sem])
    have b1 : W4.cell? ⟨W.heap.size, 1, none⟩ = some (.int .i64 (colOf C k : Int)) := (hk2.cell (by simp; omega) hlW).trans (by simp [go_sem])
    have xx : CelAt W4 (W.heap.size + 1) (F k) := by
      have := CelAt.new (W.alloc (.cells #[.int .i64 (rowOf C k : Int), .int .i64 (colOf C k : Int)] 36)) (F k) 38
      rw [World.size_alloc] at this
      exact this.kept hk2 hlW1
    have hbW : Below w8.heap.size W W4 := (((Below.refl _ W).alloc (by omega) _).alloc (by simp; omega) _).trans hb2
    have hK4 : Kept (· = w4.heap.size + 1) w8 W4 := hKW.thenBelow hbW (Nat.le_refl _)
    have hN4 : NumAt W4 (w4.heap.size + 1) (cntD F FG k : Int) := ⟨(World.cell?_of_block (hbW.block (w4.heap.size + 1) (by omega))).trans hNW.c, (World.frozen?_of_block (hbW.block (w4.heap.size + 1) (by omega))).trans hNW.f⟩
    obtain ⟨P4, _, y4⟩ := hofs.out k W4 ⟨hK4, hN4⟩
    have z3 := P4.e0
    have hth := there_row_col hk hC1
    have hix : Hid (idx C (rowOf C k : Int) (colOf C k : Int) = k) := idx_row_col C k
    clear hk2 hb2 hbW hKW hNW
    gi_wp2_with fail
    refine round_call0 ((at_in g t cg R C FG _ _ _ P4.grid hth).mono ?_)
    rw [hix.out]
    rintro e W3 ⟨rfl, hk3⟩
    replace b0 := kcell hk3 b0
    replace b1 := kcell hk3 b1
    replace xx := xx.kept hk3 (fun e => e)
    replace y4 := kcell hk3 y4
    have hN3 := hN4.kept hk3 (fun e => e)
    have P3 := P4.keep hk3
    have hK3 : Kept (· = w4.heap.size + 1) w8 W3 := hK4.trans hk3.to
    have o0 := P3.op 0 _ rfl
    have o1 := P3.op 1 _ rfl
    have o2 := P3.op 2 _ rfl
    have o3 := P3.op 3 _ rfl
    have o4 := P3.op 4 _ rfl
    have o9 := P3.op 9 _ rfl
    simp only at o0 o1 o2 o3 o4 o9
    have HG := Lib.hid (H1.out k hk)
    have hcle := cntD_le F FG k
    have hcn : Hid (cntD F FG (k + 1) = cntD F FG k + if F k = FG k then 0 else 1) := rfl
    have hm0 := hN3.c
    have hm1 := hN3.f
    have l0 : W.heap.size < W3.heap.size := World.block_lt_of_cell? W3 _ b0
    have l1 : W.heap.size + 1 < W3.heap.size := World.block_lt_of_cell? W3 _ xx.c0
    have l2 : w.heap.size + 1 < W3.heap.size := World.block_lt_of_cell? W3 _ o0
    have l3 : w4.heap.size < W3.heap.size := World.block_lt_of_cell? W3 _ y4
    have l4 : w4.heap.size + 1 < W3.heap.size := hN3.lt
    obtain ⟨x0, x1, x2, x3⟩ := xx
    have heq := eq_cel (F k) (FG k)
    have hgo1 : Hid (F k = FG k → ∀ o, Kept (· < w8.heap.size) W4 (W3.alloc o) ∧ (Kept (· = w4.heap.size + 1) w8 (W3.alloc o) ∧ NumAt (W3.alloc o) (w4.heap.size + 1) (cntD F FG (k + 1) : Int))) := fun he o => by
      rw [hcn.out, if_pos he]
      exact ⟨Kept0.to (hk3.alloc o), hK3.alloc o, hN3.kept ((Kept.refl (fun _ => False) W3).alloc o) (fun e => e)⟩
    have hgo2 : Hid (¬ F k = FG k → ∀ o, Kept (· < w8.heap.size) W4 ((W3.setCell ⟨w4.heap.size + 1, 0, none⟩ (.int .i64 ((cntD F FG k : Int) + 1))).alloc o) ∧ (Kept (· = w4.heap.size + 1) w8 ((W3.setCell ⟨w4.heap.size + 1, 0, none⟩ (.int .i64 ((cntD F FG k : Int) + 1))).alloc o) ∧ NumAt ((W3.setCell ⟨w4.heap.size + 1, 0, none⟩ (.int .i64 ((cntD F FG k : Int) + 1))).alloc o) (w4.heap.size + 1) (cntD F FG (k + 1) : Int))) := fun he o => by
      rw [hcn.out, if_neg he]
      exact ⟨((Kept0.to hk3).setCell _ (Or.inr (show w4.heap.size + 1 < w8.heap.size by omega)) _).alloc o, (hK3.setCell _ (Or.inr rfl) _).alloc o, (hN3.set _).kept ((Kept.refl (fun _ => False) _).alloc o) (fun e => e)⟩
    have P3h := Lib.hid P3
    clear P4 P3 hk3 hK4 hN4 hN3 hK3 z3 hth H1 HA H2 hcn hofs
    generalize cntD F FG k = cn at *
    generalize F k = y at *
    generalize FG k = z at *
    obtain ⟨D, hD⟩ : ∃ D, D = decide (y = z) := ⟨_, rfl⟩
    rw [← hD] at heq
    generalize hrow : (rowOf C k : Int) = row at *
    generalize hcol : (colOf C k : Int) = col at *
    clear hrow hcol
    cases D
    · have hne : ¬ y = z := of_decide_eq_false hD.symm
      obtain ⟨rfl, hin, hgd⟩ := HG.out hne
      have hgood := Lib.hid (hgo2.out hne)
      clear hgo1 hgo2 HG hne hD
      obtain ⟨yg, ya, yb, ym⟩ := y
      simp only at x0 x1 x2 x3 hgd
      have hask : ask = 0 ∨ ask = 1 ∨ (¬ ask = 0 ∧ ¬ ask = 1) := by omega
      obtain ⟨ha, hb⟩ := hin
      have ha : r < row ∨ (¬ r < row ∧ row = r ∧ c ≤ col) := by omega
      have hb : row < r' ∨ (¬ row < r' ∧ row = r' ∧ col ≤ c') := by omega
      have hcase : (ask = 0 ∨ ask = 1) ∧ b = true ∧ yb = false ∨ (ask = 0 ∨ ask = 1) ∧ b = false ∨ (¬ ask = 0 ∧ ¬ ask = 1) := by
        rcases hask with h | h | h
        · cases b
          · exact Or.inr (Or.inl ⟨Or.inl h, rfl⟩)
          · exact Or.inl ⟨Or.inl h, rfl, hgd (Or.inl h) rfl⟩
        · cases b
          · exact Or.inr (Or.inl ⟨Or.inr h, rfl⟩)
          · exact Or.inl ⟨Or.inr h, rfl, hgd (Or.inr h) rfl⟩
        · exact Or.inr (Or.inr h)
      clear hask hgd P3h
      rcases ha with a1 | ⟨a1, a2, a3⟩
      all_goals
        rcases hb with b1 | ⟨b1, b2, b3⟩
        all_goals
          rcases hcase with ⟨q1 | q1, rfl, rfl⟩ | ⟨q1 | q1, rfl⟩ | ⟨q1, q2⟩
          all_goals
            gi_wp2_with fail
            exact hgood.out _
    · have he : y = z := of_decide_eq_true hD.symm
      have hgood := Lib.hid (hgo1.out he)
      clear hgo1 hgo2 HG he hD
      gi_wp2_with fail
      all_goals exact hgood.out _
  · intro D W hD hIW hDc
    obtain ⟨P9, _, y9⟩ := hofs.out _ W hIW
    have hN9 := hIW.2
    rw [H2.out] at hN9
    have hDl : D < W.heap.size := (Array.getElem?_eq_some_iff.1 hDc).1
    have HDc := Lib.hid hDc
    have z3 := P9.e0
    have o0 := P9.op 0 _ rfl
    have o1 := P9.op 1 _ rfl
    have o2 := P9.op 2 _ rfl
    have o3 := P9.op 3 _ rfl
    have o4 := P9.op 4 _ rfl
    have o5 := P9.op 5 _ rfl
    have o6 := P9.op 6 _ rfl
    have o7 := P9.op 7 _ rfl
    have o8 := P9.op 8 _ rfl
    have o9 := P9.op 9 _ rfl
    simp only at o0 o1 o2 o3 o4 o5 o6 o7 o8 o9
    have HP9 := Lib.hid P9
    clear hIW hDc P9 hofs
    go_wp2_with fail
    refine (HA.out W HP9.out.grid).mono ?_
    rintro e W3 ⟨rfl, hk3⟩
    have hN3 := hN9.kept hk3 (by omega)
    have y3 := kcellS hk3 y9 (by omega)
    have hv3 := HP9.out.v0.kept hk3 (by omega)
    have hK3 : Kept0 w W3 := HP9.out.kept.later hk3 (fun i hi e => by omega)
    have hD3 := Lib.hid ((hk3.block D hDl (by omega)).trans HDc.out)
    have n0' := hN3.c
    clear hk3 o0 o1 o2 o3 o4 o5 o6 o7 o8 o9 z3 HP9 HA HDc y9 hN9
    go_wp2_with fail
    refine (awake_any _).mono ?_
    rintro e W6 ⟨rfl, hk6⟩
    have hv6 := hv3.kept hk6 (fun e => e)
    have b1 := hv6.c
    have b2 := hv6.f
    have hB4 := (hv6.set true).c
    have hK6 := hK3.trans hk6
    have hDl3 : D < W3.heap.size := (Array.getElem?_eq_some_iff.1 hD3.out).1
    go_wp2_with fail
    have hk4 : Kept0 w (W6.setCell ⟨w.heap.size + 1 + 1, 0, none⟩ (.bool true)) := hK6.setCell _ (Or.inl (by simp; omega)) _
    have hD4 : (W6.setCell ⟨w.heap.size + 1 + 1, 0, none⟩ (.bool true)).heap[D]? = some (.deferred (some [])) :=
      (Below.heap_setCell _ _ _ _ (by simp; omega)).trans ((hk6.block D hDl3 (fun e => e)).trans hD3.out)
    refine ⟨by simp, .inl ⟨_, _, rfl, run_takeDeferred hD4, ?_⟩⟩
    have hB5 : ((W6.setCell ⟨w.heap.size + 1 + 1, 0, none⟩ (.bool true)).putObj D (.deferred none)).cell? ⟨w.heap.size + 1 + 1, 0, none⟩ = some (.bool true) :=
      (World.cell?_of_block (World.putObj_heap_other (by simp; omega))).trans hB4
    refine ⟨.bool true, by simp [results, Try.results5, go_sem, hB5], rfl, ?_⟩
    exact (Kept0.below hk4).trans (below_putObj _ (by omega))
  · intro D c k W _ _ h
    exact h.elim
end Go.Proofs.Ytedgnjideemfbaa
