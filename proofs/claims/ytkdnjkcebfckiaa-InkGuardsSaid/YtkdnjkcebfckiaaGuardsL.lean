/-
  Guard turns no cell that is guarded: the law.
-/
import Derived.Test.YtkdnjkcebfckiaaGuardP
namespace Go.Proofs.Ytkdnjkcebfckiaa
open Go.RowKit

attribute [local go_sem] Oper.semAt_some

/-- A number that may be written. -/
structure NumAt (w : World) (b : Nat) (n : Int) : Prop where
  c : w.cell? ⟨b, 0, none⟩ = some (.int .i64 n)
  f : w.frozen? ⟨b, 0, none⟩ = false
theorem NumAt.lt {w : World} {b : Nat} {n : Int} (h : NumAt w b n) : b < w.heap.size := World.block_lt_of_cell? w _ h.c
theorem NumAt.kept {S : Nat → Prop} {w w' : World} {b : Nat} {n : Int} (h : NumAt w b n) (k : Kept S w w') (hs : ¬ S b) : NumAt w' b n := ⟨kcellS k h.c hs, (k.frozen h.lt hs).trans h.f⟩
theorem NumAt.set {w : World} {b : Nat} {n : Int} (h : NumAt w b n) (m : Int) : NumAt (w.setCell ⟨b, 0, none⟩ (.int .i64 m)) b m := ⟨by simp [go_sem, h.c], by simp [go_sem, h.f]⟩

/-- All that is known of a world while cells are put to a grid: the pen, the answer's block, the grid's address, the cursor. -/
structure Gs (w wx : World) (bp bo b5 b7 g t cap R C : Nat) (r0 c0 : Int) (b0 : Bool) (k : Int) (s : ByteArray) (F : Nat → Cel) (r c : Int) (b : Bool) : Prop where
  pen : PenAt wx bp r0 c0 b0 k s
  out : BoolAt wx bo false
  e0 : wx.cell? ⟨b5, 0, none⟩ = some (.pointer (some ⟨g, 0, none⟩))
  at7 : Three wx b7 r c b
  grid : GridAt wx g t cap R C F
  kept : Kept0 w wx
  o : w.heap.size ≤ bp ∧ bp < bo ∧ bo < g ∧ bo < t ∧ g < b5 ∧ t < b5 ∧ b5 < b7
section
variable {w wx wy : World} {bp bo b5 b7 g t cap R C : Nat} {r0 c0 : Int} {b0 : Bool} {k : Int} {s : ByteArray} {F F' : Nat → Cel} {r c r' c' : Int} {b b' : Bool}
theorem Gs.keep (h : Gs w wx bp bo b5 b7 g t cap R C r0 c0 b0 k s F r c b) (kk : Kept0 wx wy) : Gs w wy bp bo b5 b7 g t cap R C r0 c0 b0 k s F r c b :=
  ⟨h.pen.kept kk (fun e => e), h.out.kept kk (fun e => e), kcell kk h.e0, h.at7.kept0 kk, h.grid.kept kk (fun e => e) (fun e => e), h.kept.trans kk, h.o⟩
theorem Gs.onG (h : Gs w wx bp bo b5 b7 g t cap R C r0 c0 b0 k s F r c b) (kk : Kept (· = t) wx wy) (hg : GridAt wy g t cap R C F') : Gs w wy bp bo b5 b7 g t cap R C r0 c0 b0 k s F' r c b := by
  obtain ⟨p1, p2, p3, p4, p5, p6, p7⟩ := h.o
  exact ⟨h.pen.kept kk (by omega), h.out.kept kk (by omega), kcellS kk h.e0 (by omega), h.at7.kept kk (by omega), hg, h.kept.later kk (fun i hi e => by omega), h.o⟩
theorem Gs.on7 (h : Gs w wx bp bo b5 b7 g t cap R C r0 c0 b0 k s F r c b) (kk : Kept (· = b7) wx wy) (ht : Three wy b7 r' c' b') : Gs w wy bp bo b5 b7 g t cap R C r0 c0 b0 k s F r' c' b' := by
  obtain ⟨p1, p2, p3, p4, p5, p6, p7⟩ := h.o
  exact ⟨h.pen.kept kk (by omega), h.out.kept kk (by omega), kcellS kk h.e0 (by omega), ht, h.grid.kept kk (by omega) (by omega), h.kept.later kk (fun i hi e => by omega), h.o⟩
theorem Gs.apart {S : Nat → Prop} (h : Gs w wx bp bo b5 b7 g t cap R C r0 c0 b0 k s F r c b) (kk : Kept S wx wy) (hq : ∀ q, S q → b7 < q) : Gs w wy bp bo b5 b7 g t cap R C r0 c0 b0 k s F r c b := by
  obtain ⟨p1, p2, p3, p4, p5, p6, p7⟩ := h.o
  exact ⟨h.pen.kept kk (fun e => by have := hq _ e; omega), h.out.kept kk (fun e => by have := hq _ e; omega), kcellS kk h.e0 (fun e => by have := hq _ e; omega), h.at7.kept kk (fun e => by have := hq _ e; omega),
    h.grid.kept kk (fun e => by have := hq _ e; omega) (fun e => by have := hq _ e; omega), h.kept.later kk (fun i hi e => by have := hq _ e; omega), h.o⟩
end

theorem few_yes' {L : Nat} {C : Int} {n : Nat} (h : fewP L C n = true) : 1 ≤ L ∧ L ≤ 8 ∧ 1 ≤ C ∧ C ≤ 12 ∧ n ≤ 60 := by
  unfold fewP fewB at h
  simp only [Bool.and_eq_true, decide_eq_true_eq] at h
  omega

theorem frame_lit (T : Array Value) (h : T.size = 128) : T = ((List.range 128).map (fun i => T.getD i undef)).toArray := by
  apply Array.ext
  · simp [h]
  · intro i h1 h2
    simp [Array.getD, h1]

set_option maxHeartbeats 8000000 in
set_option maxRecDepth 100000 in
theorem guards_calls (a : Option Addr) (cap0 : Nat) (C0 : Int) (l : List ByteArray) (r c k : Int) (b : Bool) (s : ByteArray) (w : World) (hl : StrsIn w a l) (hL : l.length ≤ 9223372036854775807) (hsz : s.size ≤ maxLen) :
    Calls Try.prog 5 #[.agg #[.slice a l.length cap0, .int .i64 C0], penV r c b k s] w fun e w' => e = .returned (.bool true) ∧ Below w.heap.size w w' := by
  have HAW : Hid (∀ w', Calls Try.prog 10 #[] w' fun e w'' => e = .returned (.bool true) ∧ Kept0 w' w'') := fun w' => awake_any w'
  have HC : Hid (∀ (b : Int) (w : World), 0 ≤ b → b ≤ 255 → Calls Try.prog 12 #[.int .u8 b] w fun e w' => e = .returned (celB b).v ∧ Kept0 w w') := fun b w => cellL b w
  have HFW : Hid (∀ w', Calls Try.prog 9 #[.agg #[.slice a l.length cap0, .int .i64 C0], penV r c b k s] w' fun e w'' => e = .returned (.bool (fewP l.length C0 s.size)) ∧ Kept0 w' w'') := fun w' => fewP_any a l.length cap0 C0 r c k b s w' hL
  unfold maxLen at hsz
  obtain ⟨W, hW⟩ : ∃ W, W = ((w.alloc (.cells #[.slice a l.length cap0, .int .i64 C0] 24)).alloc (.cells #[.int .i64 r, .int .i64 c, .bool b, .int .i64 k, .string s] 28)).alloc (.cells #[.bool false] 4) := ⟨_, rfl⟩
  have k0 : Kept0 w W := by rw [hW]; exact (((Kept.refl _ w).alloc _).alloc _).alloc _
  have hbo : Hid (W.cell? ⟨w.heap.size, 0, none⟩ = some (.slice a l.length cap0) ∧ W.cell? ⟨w.heap.size, 1, none⟩ = some (.int .i64 C0)) := by rw [hW]; exact ⟨by simp [go_sem], by simp [go_sem]⟩
  have hp : PenAt W (w.heap.size + 1) r c b k s := by rw [hW]; constructor <;> simp [go_sem]
  have hB0 : BoolAt W (w.heap.size + 1 + 1) false := by rw [hW]; exact BoolAt.of (heap_newC _ _ _ _)
  cases hfew : fewP l.length C0 s.size
  · rw [hfew] at HFW
    clear hfew hbo hp
    refine calls_marks Try.func5 rfl ?_
    simp only [Try.ntmps5, List.size_toArray, List.length_cons, List.length_nil, Nat.reduceAdd, Nat.reduceSub, Array.replicate_succ, Array.replicate_zero, List.push_toArray, List.append_toArray, List.nil_append, List.cons_append]
    go_wp2_with fail
    rw [← hW]
    clear hW
    refine (HFW.out _).mono ?_
    rintro e w1 ⟨rfl, hk1⟩
    go_wp2_with fail
    refine (HAW.out _).mono ?_
    rintro e w2 ⟨rfl, hk2⟩
    have hB2 := (hB0.kept hk1 (fun e => e)).kept hk2 (fun e => e)
    have b1 := hB2.c
    have b2 := hB2.f
    have hB4 := (hB2.set true).c
    go_wp2_with fail
    refine ⟨.bool true, by simp [results, Try.results5, go_sem, hB4], rfl, ?_⟩
    exact Kept0.below (((k0.trans hk1).trans hk2).setCell _ (Or.inl (by simp; omega)) _)
  rw [hfew] at HFW
  obtain ⟨f1, f2, f3, f4, f5⟩ := few_yes' hfew
  obtain ⟨C, rfl⟩ := Int.eq_ofNat_of_zero_le (show 0 ≤ C0 by omega)
  clear hfew
  have HS := Lib.hid hl
  clear hl
  refine calls_marks Try.func5 rfl ?_
  simp only [Try.ntmps5, List.size_toArray, List.length_cons, List.length_nil, Nat.reduceAdd, Nat.reduceSub, Array.replicate_succ, Array.replicate_zero, List.push_toArray, List.append_toArray, List.nil_append, List.cons_append]
  go_wp2_with fail
  rw [← hW]
  clear hW
  refine (HFW.out _).mono ?_
  rintro e w1 ⟨rfl, hk1⟩
  have k1 := k0.trans hk1
  have c0 := kcell hk1 hbo.out.1
  have c1 := kcell hk1 hbo.out.2
  have hp1 := hp.kept hk1 (fun e => e)
  have hB1 := hB0.kept hk1 (fun e => e)
  have lB1 := hB1.lt
  clear k0 hk1 hbo hp HFW hB0
  go_wp2_with fail
  refine (made_any a cap0 C l w1 (HS.out.kept0 k1) f1 f2 (by omega) (by omega)).mono ?_
  rintro e w2 ⟨g, t, cap, gq, tq, capq, rfl, g1, g2, _, _, _, _, _, _, hG, _, hk2⟩
  have hp2 := hp1.kept hk2 (fun e => e)
  have hB2 := hB1.kept hk2 (fun e => e)
  have k2 := k1.trans hk2
  have lg := hG.lt
  have lt := hG.row.lt
  have g3 : w.heap.size + 1 + 1 < g := by omega
  have g4 : w.heap.size + 1 + 1 < t := by omega
  clear hk2 c0 c1 hp1 hB1 k1 HS g1 g2
  generalize boardF C l = F at *
  generalize l.length = R at *
  obtain ⟨V, hV⟩ : ∃ V, V = w2.alloc (.cells #[.pointer (some ⟨g, 0, none⟩)] 31) := ⟨_, rfl⟩
  have kV : Kept0 w2 V := by rw [hV]; exact (Kept.refl _ w2).alloc _
  have he0 : V.cell? ⟨w2.heap.size, 0, none⟩ = some (.pointer (some ⟨g, 0, none⟩)) := by rw [hV]; simp [go_sem]
  have lV : w2.heap.size < V.heap.size := World.block_lt_of_cell? V _ he0
  go_upto_region 6 with fail
  rw [← hV]
  clear hV
  have hpV := hp2.kept kV (fun e => e)
  obtain ⟨q0, q1, q2, q3, q4⟩ := hpV
  go_wp2_with fail
  refine (place_any _ _ _ _ _ _).mono ?_
  rintro e w4 ⟨rfl, hk4⟩
  have kk4 := kV.trans hk4
  have lk4 := hk4.size
  obtain ⟨V, hV⟩ : ∃ V, V = w4.alloc (.cells #[.int .i64 r, .int .i64 c, .bool b] 39) := ⟨_, rfl⟩
  have kW : Kept0 w4 V := by rw [hV]; exact (Kept.refl _ w4).alloc _
  have h7 : Three V w4.heap.size r c b := by rw [hV]; exact Three.of (heap_new w4 _)
  clear q0 q1 q2 q3 q4
  go_wp2_with fail
  rw [← hV]
  clear hV
  have kk6 := kk4.trans kW
  have HP : Hid (Gs w V (w.heap.size + 1) (w.heap.size + 1 + 1) w2.heap.size w4.heap.size g t cap R C r c b k s F r c b) :=
    ⟨hp2.kept kk6 (fun e => e), hB2.kept kk6 (fun e => e), kcell (hk4.trans kW) he0, h7, hG.kept kk6 (fun e => e) (fun e => e), k2.trans kk6, ⟨by omega, by omega, g3, g4, lg, lt, by omega⟩⟩
  clear kk6 kW h7 hk4 kk4 kV he0 hp2 hB2 hG k2
  generalize w4.heap.size = b7 at *
  generalize w2.heap.size = b5 at *
  have HC0 : Hid (Coll (b7 + 1) [] V) := ⟨fun D hD => by simp at hD, List.nodup_nil⟩
  refine wp_loop (fun a' w' => ∃ (j : Nat) (r' c' : Int) (b' : Bool) (F' : Nat → Cel) (Ds : List Nat), j ≤ s.size ∧ a'.tmps.size = 128 ∧ a'.tmps.getD 3 undef = .pointer (some ⟨w.heap.size + 1, 0, none⟩) ∧ a'.tmps.getD 4 undef = .pointer (some ⟨w.heap.size + 1 + 1, 0, none⟩) ∧ a'.tmps.getD 5 undef = .pointer (some ⟨b5, 0, none⟩) ∧ a'.tmps.getD 7 undef = .pointer (some ⟨b7, 0, none⟩) ∧ a'.tmps.getD 8 undef = .int .i64 (j : Int) ∧ a'.defers = Ds.map mark ∧ Hid (Gs w w' (w.heap.size + 1) (w.heap.size + 1 + 1) b5 b7 g t cap R C r c b k s F' r' c' b') ∧ Hid (Coll (b7 + 1) Ds w')) (fun a' _ => ((s.size : Int) - intOf (a'.tmps.getD 8 undef)).toNat) ?_ ?_
  · exact ⟨0, r, c, b, F, [], by omega, rfl, rfl, rfl, rfl, rfl, rfl, rfl, HP, HC0⟩
  · clear HP HC0
    intro a' wr hinv
    obtain ⟨j, r', c', b', F', Ds, hj, hs, h3, h4, h5, h7, hcn, hds, HP, HCo⟩ := hinv
    obtain ⟨T, ds⟩ := a'
    simp only at hs h3 h4 h5 h7 hcn hds
    have hT := frame_lit T hs
    generalize hf : (fun i => T.getD i undef) = f at hT
    replace h3 : f 3 = .pointer (some ⟨w.heap.size + 1, 0, none⟩) := by rw [← hf]; exact h3
    replace h4 : f 4 = .pointer (some ⟨w.heap.size + 1 + 1, 0, none⟩) := by rw [← hf]; exact h4
    replace h5 : f 5 = .pointer (some ⟨b5, 0, none⟩) := by rw [← hf]; exact h5
    replace h7 : f 7 = .pointer (some ⟨b7, 0, none⟩) := by rw [← hf]; exact h7
    replace hcn : f 8 = .int .i64 (j : Int) := by rw [← hf]; exact hcn
    clear hf hs
    subst hT
    subst hds
    rw [show ((List.range 128).map f).toArray = #[f 0, f 1, f 2, f 3, f 4, f 5, f 6, f 7, f 8, f 9, f 10, f 11, f 12, f 13, f 14, f 15, f 16, f 17, f 18, f 19, f 20, f 21, f 22, f 23, f 24, f 25, f 26, f 27, f 28, f 29, f 30, f 31, f 32, f 33, f 34, f 35, f 36, f 37, f 38, f 39, f 40, f 41, f 42, f 43, f 44, f 45, f 46, f 47, f 48, f 49, f 50, f 51, f 52, f 53, f 54, f 55, f 56, f 57, f 58, f 59, f 60, f 61, f 62, f 63, f 64, f 65, f 66, f 67, f 68, f 69, f 70, f 71, f 72, f 73, f 74, f 75, f 76, f 77, f 78, f 79, f 80, f 81, f 82, f 83, f 84, f 85, f 86, f 87, f 88, f 89, f 90, f 91, f 92, f 93, f 94, f 95, f 96, f 97, f 98, f 99, f 100, f 101, f 102, f 103, f 104, f 105, f 106, f 107, f 108, f 109, f 110, f 111, f 112, f 113, f 114, f 115, f 116, f 117, f 118, f 119, f 120, f 121, f 122, f 123, f 124, f 125, f 126, f 127] from rfl]
    rw [h3, h4, h5, h7, hcn]
    clear h3 h4 h5 h7 hcn
    obtain ⟨q0, q1, q2, q3, q4⟩ := HP.out.pen
    by_cases hlt : j < s.size
    · have d1 : decide ((j : Int) < (s.size : Int)) = true := by simp; omega
      have he0 := HP.out.e0
      go_wp2_with fail
      refine (copy_any g t cap R C F' wr HP.out.grid).mono ?_
      rintro e w1 ⟨h, u, ch, rfl, m1, m2, hh, hk1⟩
      have hC1 := HP.out.grid.C1
      have hR1 := HP.out.grid.R1
      have HP1 := Lib.hid (HP.out.keep hk1)
      have HC1 := Lib.hid (HCo.out.kept0 hk1)
      have HH1 := Lib.hid hh
      have l7 : b7 < wr.heap.size := HP.out.at7.lt
      have lk1 := hk1.size
      have lh := hh.lt
      have lu := hh.row.lt
      clear q0 q1 q2 q3 q4 he0 hh hk1 HP
      obtain ⟨y, hy⟩ : ∃ y, y = celB (s[j].toNat : Int) := ⟨_, rfl⟩
      obtain ⟨fo, hfo⟩ : ∃ fo, fo = freeK (R * C) false (st R C r' c') F' := ⟨_, rfl⟩
      have hGD := fun w' (h : GridAt w' g t cap R C F') => guard_any g t cap R C F' r' c' b' y w' h fo hfo
      have HK := Lib.hid (gd_keeps (y := y) hfo)
      have HO := Lib.hid (gd_one (y := y) hfo)
      have HE : Hid (gdE fo = 0 ∨ gdE fo = 15 ∧ cntP (neP F' (gdF F' y fo)) (R * C) = 0 ∧ cntP (opP (gdF F' y fo)) (R * C) = 0) := by
        show _ ∨ _
        cases hf : fo with
        | some a => exact Or.inl rfl
        | none =>
          have := gd_none (y := y) (st_lt (r := r') (c := c') hR1 hC1) (hfo.symm.trans hf)
          exact Or.inr ⟨rfl, this⟩
      have HR : Hid (gdE fo = 0 → 0 < cntP (opP (gdF F' y fo)) (R * C) → There R C (gdR R C F' y r' fo) (gdC R C F' y c' fo) ∧ (gdF F' y fo (idx C (gdR R C F' y r' fo) (gdC R C F' y c' fo))).b = false) := by
        show _ → _
        intro he hp
        cases hf : fo with
        | some a =>
          rw [hf] at hp
          exact gd_rests hC1 (hfo.symm.trans hf) hp
        | none => rw [hf] at he; exact absurd he (by simp [gdE])
      generalize gdR R C F' y r' fo = pr at *
      generalize gdC R C F' y c' fo = pc at *
      generalize gdE fo = pe at *
      generalize gdF F' y fo = pF at *
      have HGD := Lib.hid hGD
      have HY := Lib.hid hy
      clear hGD hfo hy
      go_upto_region 11 with fail
      go_cut [10, 11] from 43 to 53 (fun s10 s11 wx => ∃ b10 : Nat, s10 = .pointer (some ⟨b10, 0, none⟩) ∧ s11 = .int .i64 pe ∧ w1.heap.size ≤ b10 ∧ Hid (Three wx b10 pr pc false) ∧ Hid (Gs w wx (w.heap.size + 1) (w.heap.size + 1 + 1) b5 b7 g t cap R C r c b k s pF r' c' b') ∧ Hid (GridAt wx h u ch R C F') ∧ Hid (Coll (b7 + 1) Ds wx))
      case first =>
        clear HK HO HE HR
        obtain ⟨q0, q1, q2, q3, q4⟩ := HP1.out.pen
        obtain ⟨p0, p1, p2, p3, p4, p5⟩ := HP1.out.at7
        have he0 := HP1.out.e0
        have lo := HP1.out.o
        have n1 : ¬ w.heap.size + 1 = w1.heap.size := by omega
        have n2 : ¬ w1.heap.size = w.heap.size + 1 := by omega
        have n3 : ¬ b5 = w1.heap.size := by omega
        have n4 : ¬ w1.heap.size = b5 := by omega
        have n5 : ¬ b7 = w1.heap.size := by omega
        have n6 : ¬ w1.heap.size = b7 := by omega
        have i1 : (0 : Int) ≤ (j : Int) := by omega
        have i2 : (j : Int) < (s.size : Int) := by omega
        go_region_held3 (fun w' => w'.cell? ⟨b5, 0, none⟩ = some (.pointer (some ⟨g, 0, none⟩)) ∧ w'.cell? ⟨b7, 0, none⟩ = some (.int .i64 r') ∧ w'.cell? ⟨b7, 1, none⟩ = some (.int .i64 c') ∧ w'.cell? ⟨b7, 2, none⟩ = some (.bool b') ∧ w'.cell? ⟨w.heap.size + 1, 4, none⟩ = some (.string s)) (go_keep)
          (first
            | (go_at_call 22
               refine (HGD.out _ (HP1.out.grid.kept (by first | exact kz3.out | exact kz3.out.alloc _) (fun e => e) (fun e => e))).mono ?_
               rintro e z4 ⟨rfl, hG4, hk4⟩
               have kz4 : Hid (Kept (· = t) w1 z4) := (by first | exact (Kept0.to kz3.out).trans hk4 | exact (Kept0.to (kz3.out.alloc _)).trans hk4)
               have ls4 := kz4.out.size
               have x1 : ¬ w.heap.size + 1 = z4.heap.size := (by omega)
               have x2 : ¬ z4.heap.size = w.heap.size + 1 := (by omega)
               have x3 : ¬ b5 = z4.heap.size := (by omega)
               have x4 : ¬ z4.heap.size = b5 := (by omega)
               have x5 : ¬ b7 = z4.heap.size := (by omega)
               have x6 : ¬ z4.heap.size = b7 := (by omega)
               have v0 := kcellS kz4.out q4 (by omega)
               have v1 := kcellS kz4.out he0 (by omega)
               obtain ⟨t0, t1, t2, t3, t4, t5⟩ := HP1.out.at7.kept kz4.out (by omega)
               have ls3 := kz3.out.size
               try (have hn8 := (three_newN z3 39).kept hk4 (by omega); obtain ⟨a0, a1, a2, a3, a4, a5⟩ := hn8)
               try (have hn7 := (Three.mk a0 a1 a2 a3 a4 a5).kept hk4 (by omega); obtain ⟨a0, a1, a2, a3, a4, a5⟩ := hn7))
            | (go_at_call 12
               refine (HC.out _ _ (by omega) (by have := UInt8.toNat_lt s[j]; omega)).mono ?_
               rw [← HY.out]
               rintro e z3 ⟨rfl, hk3⟩
               have kz3 : Hid (Kept0 w1 z3) := (by first | exact (Kept.refl _ w1).drew.trans hk3 | exact ((Kept.refl _ w1).alloc _).drew.trans hk3)
               have ls3 := kz3.out.size
               have x1 : ¬ w.heap.size + 1 = z3.heap.size := (by omega)
               have x2 : ¬ z3.heap.size = w.heap.size + 1 := (by omega)
               have x3 : ¬ b5 = z3.heap.size := (by omega)
               have x4 : ¬ z3.heap.size = b5 := (by omega)
               have x5 : ¬ b7 = z3.heap.size := (by omega)
               have x6 : ¬ z3.heap.size = b7 := (by omega)
               have v0 := kcell kz3.out q4
               have v1 := kcell kz3.out he0
               obtain ⟨t0, t1, t2, t3, t4, t5⟩ := HP1.out.at7.kept0 kz3.out
               try (have hn8 := (three_newD w1 39).kept0 hk3; obtain ⟨a0, a1, a2, a3, a4, a5⟩ := hn8)))
        all_goals
          first
            | (obtain ⟨b10, hb9⟩ : ∃ b10, b10 = z4.heap.size := ⟨_, rfl⟩
               obtain ⟨V9, hW9⟩ : ∃ V9, V9 = z4.alloc (.cells #[.int .i64 pr, .int .i64 pc, .bool false] 39) := ⟨_, rfl⟩
               rw [← hW9, ← hb9]
               have hT9 : Three V9 b10 pr pc false := by rw [hW9, hb9]; exact Three.of (heap_new z4 _)
               have k9 : Kept (· = t) w1 V9 := by rw [hW9]; exact kz4.out.alloc _
               have k49 : Kept (· = b10) z4 V9 := by rw [hW9, hb9]; exact (Kept.refl _ z4).alloc _
               have hle9 : w1.heap.size ≤ b10 := by rw [hb9]; exact kz4.out.size
               clear hW9 hb9)
            | (obtain ⟨b10, hb9⟩ : ∃ b10, b10 = z3.heap.size := ⟨_, rfl⟩
               obtain ⟨V9, hW9⟩ : ∃ V9, V9 = ((z4.setCell ⟨z3.heap.size, 0, none⟩ (.int .i64 pr)).setCell ⟨z3.heap.size, 1, none⟩ (.int .i64 pc)).setCell ⟨z3.heap.size, 2, none⟩ (.bool false) := ⟨_, rfl⟩
               rw [← hW9, ← hb9]
               have hT9 : Three V9 b10 pr pc false := by rw [hW9, hb9]; exact Three.set ⟨a0, a1, a2, a3, a4, a5⟩ pr pc false
               have k9 : Kept (· = t) w1 V9 := by rw [hW9]; exact ((kz4.out.setCell _ (Or.inl kz3.out.size) _).setCell _ (Or.inl kz3.out.size) _).setCell _ (Or.inl kz3.out.size) _
               have k49 : Kept (· = b10) z4 V9 := by rw [hW9, hb9]; exact ((Kept.set1 z4 z3.heap.size 0 _).trans (Kept.set1 _ z3.heap.size 1 _)).trans (Kept.set1 _ z3.heap.size 2 _)
               have hle9 : w1.heap.size ≤ b10 := by rw [hb9]; exact kz3.out.size
               clear hW9 hb9)
            | (obtain ⟨b10, hb9⟩ : ∃ b10, b10 = w1.heap.size := ⟨_, rfl⟩
               obtain ⟨V9, hW9⟩ : ∃ V9, V9 = ((z4.setCell ⟨w1.heap.size, 0, none⟩ (.int .i64 pr)).setCell ⟨w1.heap.size, 1, none⟩ (.int .i64 pc)).setCell ⟨w1.heap.size, 2, none⟩ (.bool false) := ⟨_, rfl⟩
               rw [← hW9, ← hb9]
               have hT9 : Three V9 b10 pr pc false := by rw [hW9, hb9]; exact Three.set ⟨a0, a1, a2, a3, a4, a5⟩ pr pc false
               have k9 : Kept (· = t) w1 V9 := by rw [hW9]; exact ((kz4.out.setCell _ (Or.inl (Nat.le_refl _)) _).setCell _ (Or.inl (Nat.le_refl _)) _).setCell _ (Or.inl (Nat.le_refl _)) _
               have k49 : Kept (· = b10) z4 V9 := by rw [hW9, hb9]; exact ((Kept.set1 z4 w1.heap.size 0 _).trans (Kept.set1 _ w1.heap.size 1 _)).trans (Kept.set1 _ w1.heap.size 2 _)
               have hle9 : w1.heap.size ≤ b10 := by rw [hb9]; exact Nat.le_refl _
               clear hW9 hb9)
          have HF := Lib.hid ((HP1.out.onG kz4.out hG4).apart k49 (fun q e => by omega))
          have HHF := Lib.hid ((HH1.out.kept kz4.out (by omega) (by omega)).kept k49 (by omega) (by omega))
          have HCF := Lib.hid (HC1.out.kept k9 (fun D h1 h2 e => by omega))
          go_wp2_with fail
          go_meet
          exact ⟨b10, rfl, rfl, by omega, hT9, HF, HHF, HCF⟩
      case rest =>
      clear HP1 HH1 HC1 HGD HY HC
      obtain ⟨b10, rfl, rfl, hb10, HT, HP2, HH2, HC2⟩ := hcut
      obtain ⟨W5, hW5⟩ : ∃ W5, W5 = (wc.alloc (.cells #[.int .i64 0] 3)).alloc (.cells #[.int .i64 0] 3) := ⟨_, rfl⟩
      have kW5 : Kept0 wc W5 := by rw [hW5]; exact ((Kept.refl _ wc).alloc _).alloc _
      have hA5 : NumAt W5 wc.heap.size 0 := by rw [hW5]; exact ⟨by simp [go_sem], by simp [go_sem]⟩
      have hB5 : NumAt W5 (wc.heap.size + 1) 0 := by rw [hW5]; exact ⟨by simp [go_sem], by simp [go_sem]⟩
      have hs5 : wc.heap.size + 1 + 1 = W5.heap.size := by rw [hW5]; simp
      have lT := HT.out.lt
      have l7c := HP2.out.at7.lt
      have lhc := HH2.out.lt
      have luc := HH2.out.row.lt
      go_wp2_with fail
      rw [← hW5]
      clear hW5
      refine (all_any _ _).mono ?_
      rintro e w9 ⟨rfl, rfl⟩
      obtain ⟨w8, hw8⟩ : ∃ w8, w8 = W5.alloc (.cells #[.pointer (some ⟨h, 0, none⟩)] 31) := ⟨_, rfl⟩
      have k8 : Kept0 W5 w8 := by rw [hw8]; exact (Kept.refl _ W5).alloc _
      have hbx : w8.cell? ⟨W5.heap.size, 0, none⟩ = some (.pointer (some ⟨h, 0, none⟩)) := by rw [hw8]; simp [go_sem]
      have hs8 : W5.heap.size + 1 = w8.heap.size := by rw [hw8]; simp
      have kk8 := kW5.trans k8
      have HP8 := Lib.hid (HP2.out.keep kk8)
      have HH8 := Lib.hid (HH2.out.kept kk8 (fun e => e) (fun e => e))
      have HT8 := Lib.hid (HT.out.kept0 kk8)
      have hA8 := hA5.kept k8 (fun e => e)
      have hB8 := hB5.kept k8 (fun e => e)
      have HCw := Lib.hid HC2.out
      have KK8 := Lib.hid kk8
      clear HP2 HH2 HC2 HT hA5 hB5 kW5 kk8
      rw [← hw8]
      clear hw8 k8
      go_wp2_with fail
      have hofs : Hid (∀ (q : Nat) (W : World), (Kept (fun i => i = wc.heap.size ∨ i = wc.heap.size + 1) w8 W ∧ NumAt W wc.heap.size (cntP (neP F' pF) q : Int) ∧ NumAt W (wc.heap.size + 1) (cntP (opP pF) q : Int)) → Gs w W (w.heap.size + 1) (w.heap.size + 1 + 1) b5 b7 g t cap R C r c b k s pF r' c' b' ∧ GridAt W h u ch R C F' ∧ W.cell? ⟨W5.heap.size, 0, none⟩ = some (.pointer (some ⟨h, 0, none⟩))) := fun q W ⟨hk, _, _⟩ =>
        ⟨HP8.out.apart hk (fun q e => by omega), HH8.out.kept hk (by omega) (by omega), kcellS hk hbx (by omega)⟩
      refine wpIn_wide.1 (wp_range (n := 0) (gf := 49) (lb := #[.pointer (some ⟨W5.heap.size, 0, none⟩)]) rfl (enters_of Try.func49 (by kernel_rfl) rfl) (all1_grid W5.heap.size h u ch R C F') (fun _ => rfl)
        (fun q W => Kept (fun i => i = wc.heap.size ∨ i = wc.heap.size + 1) w8 W ∧ NumAt W wc.heap.size (cntP (neP F' pF) q : Int) ∧ NumAt W (wc.heap.size + 1) (cntP (opP pF) q : Int)) (fun _ _ _ => False) ?_ (fun _ _ _ _ h _ => h) ?_ ?_ ?_ ?_ ?_)
      · rintro q W W' ⟨h1, h2, h3⟩ hb
        exact ⟨h1.thenBelow hb (Nat.le_refl _), ⟨(World.cell?_of_block (hb.block wc.heap.size (by omega))).trans h2.c, (World.frozen?_of_block (hb.block wc.heap.size (by omega))).trans h2.f⟩, ⟨(World.cell?_of_block (hb.block (wc.heap.size + 1) (by omega))).trans h3.c, (World.frozen?_of_block (hb.block (wc.heap.size + 1) (by omega))).trans h3.f⟩⟩
      · rintro q W hW
        exact ⟨(hofs.out q W hW).2.2, (hofs.out q W hW).2.1⟩
      · exact ⟨Kept.refl _ _, hA8, hB8⟩
      · rintro l9 q W hl1 hl2 hq ⟨hKW, hAW, hBW⟩
        have hsW9 := hKW.size
        unfold allArgs
        gi_wp2_with fail
        refine ⟨((Kept.refl _ W).alloc _).alloc _, fun W4 hk2 hb2 => ?_⟩
        have hlW : ¬ W.heap.size = l9 := by omega
        have hlW1 : ¬ W.heap.size + 1 = l9 := by omega
        have c0 : W4.cell? ⟨W.heap.size, 0, none⟩ = some (.int .i64 (rowOf C q : Int)) := (hk2.cell (by simp; omega) hlW).trans (by simp [go_sem])
        have c1 : W4.cell? ⟨W.heap.size, 1, none⟩ = some (.int .i64 (colOf C q : Int)) := (hk2.cell (by simp; omega) hlW).trans (by simp [go_sem])
        have xx : CelAt W4 (W.heap.size + 1) (F' q) := by
          have := CelAt.new (W.alloc (.cells #[.int .i64 (rowOf C q : Int), .int .i64 (colOf C q : Int)] 26)) (F' q) 36
          rw [World.size_alloc] at this
          exact this.kept hk2 hlW1
        have hbW : Below w8.heap.size W W4 := (((Below.refl _ W).alloc (by omega) _).alloc (by simp; omega) _).trans hb2
        have hK4 : Kept (fun i => i = wc.heap.size ∨ i = wc.heap.size + 1) w8 W4 := hKW.thenBelow hbW (Nat.le_refl _)
        have hA4 : NumAt W4 wc.heap.size (cntP (neP F' pF) q : Int) := ⟨(World.cell?_of_block (hbW.block wc.heap.size (by omega))).trans hAW.c, (World.frozen?_of_block (hbW.block wc.heap.size (by omega))).trans hAW.f⟩
        have hB4 : NumAt W4 (wc.heap.size + 1) (cntP (opP pF) q : Int) := ⟨(World.cell?_of_block (hbW.block (wc.heap.size + 1) (by omega))).trans hBW.c, (World.frozen?_of_block (hbW.block (wc.heap.size + 1) (by omega))).trans hBW.f⟩
        obtain ⟨P4, _, _⟩ := hofs.out q W4 ⟨hK4, hA4, hB4⟩
        have he4 := P4.e0
        have hth := there_row_col hq hC1
        have hix : Hid (idx C (rowOf C q : Int) (colOf C q : Int) = q) := idx_row_col C q
        clear hk2 hb2 hbW hKW hAW hBW hofs
        gi_wp2_with fail
        refine round_call0 ((at_in g t cap R C pF _ _ _ P4.grid hth).mono ?_)
        rw [hix.out]
        rintro e W3 ⟨rfl, hk3⟩
        replace xx := xx.kept hk3 (fun e => e)
        have hA3 := hA4.kept hk3 (fun e => e)
        have hB3 := hB4.kept hk3 (fun e => e)
        have hK3 : Kept (fun i => i = wc.heap.size ∨ i = wc.heap.size + 1) w8 W3 := hK4.trans (Kept0.to hk3)
        have hG := Lib.hid (HK.out q)
        have hRC : R * C ≤ 8 * 12 := Nat.mul_le_mul f2 (by omega)
        have hcl := cntP_le (neP F' pF) q
        have hcl2 := cntP_le (opP pF) q
        have hcn : Hid (cntP (neP F' pF) (q + 1) = cntP (neP F' pF) q + if (!decide (F' q = pF q)) = true then 1 else 0) := rfl
        have hcm : Hid (cntP (opP pF) (q + 1) = cntP (opP pF) q + if (!(pF q).b) = true then 1 else 0) := rfl
        have a0 := hA3.c
        have a1 := hA3.f
        have a2 := hB3.c
        have a3 := hB3.f
        have l1 : W.heap.size + 1 < W3.heap.size := World.block_lt_of_cell? W3 _ xx.c0
        have l2 : wc.heap.size < W3.heap.size := hA3.lt
        have l3 : wc.heap.size + 1 < W3.heap.size := hB3.lt
        have HA3 := Lib.hid hA3
        have HB3 := Lib.hid hB3
        have HK3 := Lib.hid hK3
        have Hk3 := Lib.hid hk3
        clear P4 hk3 hK4 hA4 hB4 hA3 hB3 hK3 hth HK HO HE HR hix c0 c1 he4 HP8 HH8 HT8 HCw KK8
        obtain ⟨x0, x1, x2, x3⟩ := xx
        have heq := eq_cel (F' q) (pF q)
        generalize hcn1 : cntP (neP F' pF) (q + 1) = cn' at *
        generalize cntP (neP F' pF) q = cn at *
        generalize hcm1 : cntP (opP pF) (q + 1) = cm' at *
        generalize cntP (opP pF) q = cm at *
        have HCN1 := Lib.hid hcn1
        have HCM1 := Lib.hid hcm1
        clear hcn1 hcm1
        generalize F' q = y1 at *
        generalize pF q = z1 at *
        obtain ⟨Dq, hDq⟩ : ∃ Dq, Dq = decide (y1 = z1) := ⟨_, rfl⟩
        rw [← hDq] at heq hcn
        have e1 : IntKind.i64.wrap ((cn : Int) + 1) = (cn : Int) + 1 := IntWalk.i64_in _ ⟨by omega, by omega⟩
        have e2 : IntKind.i64.wrap ((cm : Int) + 1) = (cm : Int) + 1 := IntWalk.i64_in _ ⟨by omega, by omega⟩
        have hyz : Dq = false → y1.b = false := fun h => hG.out (of_decide_eq_false (hDq.symm.trans h))
        clear hDq hG
        obtain ⟨yg, ya, yb, ym⟩ := y1
        obtain ⟨zg, za, zb, zm⟩ := z1
        simp only at x0 x1 x2 x3 hyz hcm
        have ne1 : ¬ wc.heap.size = wc.heap.size + 1 := by omega
        have ne2 : ¬ wc.heap.size + 1 = wc.heap.size := by omega
        have lw1 : wc.heap.size < w8.heap.size := by omega
        have lw2 : wc.heap.size + 1 < w8.heap.size := by omega
        cases Dq
        · obtain rfl : yb = false := hyz rfl
          have e3 : cn' = cn + 1 := by rw [hcn.out]; simp
          cases zb
          · have e4 : cm' = cm + 1 := by rw [hcm.out]; simp
            have hgood : Hid (∀ o, Kept (· < w8.heap.size) W4 (((W3.setCell ⟨wc.heap.size, 0, none⟩ (.int .i64 ((cn : Int) + 1))).setCell ⟨wc.heap.size + 1, 0, none⟩ (.int .i64 ((cm : Int) + 1))).alloc o) ∧ (Kept (fun i => i = wc.heap.size ∨ i = wc.heap.size + 1) w8 (((W3.setCell ⟨wc.heap.size, 0, none⟩ (.int .i64 ((cn : Int) + 1))).setCell ⟨wc.heap.size + 1, 0, none⟩ (.int .i64 ((cm : Int) + 1))).alloc o) ∧ NumAt (((W3.setCell ⟨wc.heap.size, 0, none⟩ (.int .i64 ((cn : Int) + 1))).setCell ⟨wc.heap.size + 1, 0, none⟩ (.int .i64 ((cm : Int) + 1))).alloc o) wc.heap.size (cn' : Int) ∧ NumAt (((W3.setCell ⟨wc.heap.size, 0, none⟩ (.int .i64 ((cn : Int) + 1))).setCell ⟨wc.heap.size + 1, 0, none⟩ (.int .i64 ((cm : Int) + 1))).alloc o) (wc.heap.size + 1) (cm' : Int))) := fun o => by
              rw [e3, e4]
              have n1 := ((HA3.out.set ((cn : Int) + 1)).kept (Kept.set1 _ (wc.heap.size + 1) 0 (.int .i64 ((cm : Int) + 1))) ne1).kept ((Kept.refl (fun _ => False) _).alloc o) (fun e => e)
              have n2 := (((HB3.out.kept (Kept.set1 W3 wc.heap.size 0 (.int .i64 ((cn : Int) + 1))) ne2).set ((cm : Int) + 1))).kept ((Kept.refl (fun _ => False) _).alloc o) (fun e => e)
              exact ⟨(((Kept0.to Hk3.out).setCell _ (Or.inr lw1) _).setCell _ (Or.inr lw2) _).alloc o, ((HK3.out.setCell _ (Or.inr (Or.inl rfl)) _).setCell _ (Or.inr (Or.inr rfl)) _).alloc o, by simpa using n1, by simpa using n2⟩
            clear HA3 HB3 HK3 Hk3 hcn hcm hyz e3 e4
            gi_wp2_with fail
            have hg := hgood.out
            rw [← HCN1.out, ← HCM1.out] at hg
            exact hg _
          · have e4 : cm' = cm := by rw [hcm.out]; simp
            have hgood : Hid (∀ o, Kept (· < w8.heap.size) W4 ((W3.setCell ⟨wc.heap.size, 0, none⟩ (.int .i64 ((cn : Int) + 1))).alloc o) ∧ (Kept (fun i => i = wc.heap.size ∨ i = wc.heap.size + 1) w8 ((W3.setCell ⟨wc.heap.size, 0, none⟩ (.int .i64 ((cn : Int) + 1))).alloc o) ∧ NumAt ((W3.setCell ⟨wc.heap.size, 0, none⟩ (.int .i64 ((cn : Int) + 1))).alloc o) wc.heap.size (cn' : Int) ∧ NumAt ((W3.setCell ⟨wc.heap.size, 0, none⟩ (.int .i64 ((cn : Int) + 1))).alloc o) (wc.heap.size + 1) (cm' : Int))) := fun o => by
              rw [e3, e4]
              have n1 := (HA3.out.set ((cn : Int) + 1)).kept ((Kept.refl (fun _ => False) _).alloc o) (fun e => e)
              have n2 := (HB3.out.kept (Kept.set1 W3 wc.heap.size 0 (.int .i64 ((cn : Int) + 1))) ne2).kept ((Kept.refl (fun _ => False) _).alloc o) (fun e => e)
              exact ⟨((Kept0.to Hk3.out).setCell _ (Or.inr lw1) _).alloc o, (HK3.out.setCell _ (Or.inr (Or.inl rfl)) _).alloc o, by simpa using n1, n2⟩
            clear HA3 HB3 HK3 Hk3 hcn hcm hyz e3 e4
            gi_wp2_with fail
            have hg := hgood.out
            rw [← HCN1.out, ← HCM1.out] at hg
            exact hg _
        · have e3 : cn' = cn := by rw [hcn.out]; simp
          cases zb
          · have e4 : cm' = cm + 1 := by rw [hcm.out]; simp
            have hgood : Hid (∀ o, Kept (· < w8.heap.size) W4 ((W3.setCell ⟨wc.heap.size + 1, 0, none⟩ (.int .i64 ((cm : Int) + 1))).alloc o) ∧ (Kept (fun i => i = wc.heap.size ∨ i = wc.heap.size + 1) w8 ((W3.setCell ⟨wc.heap.size + 1, 0, none⟩ (.int .i64 ((cm : Int) + 1))).alloc o) ∧ NumAt ((W3.setCell ⟨wc.heap.size + 1, 0, none⟩ (.int .i64 ((cm : Int) + 1))).alloc o) wc.heap.size (cn' : Int) ∧ NumAt ((W3.setCell ⟨wc.heap.size + 1, 0, none⟩ (.int .i64 ((cm : Int) + 1))).alloc o) (wc.heap.size + 1) (cm' : Int))) := fun o => by
              rw [e3, e4]
              have n1 := (HA3.out.kept (Kept.set1 W3 (wc.heap.size + 1) 0 (.int .i64 ((cm : Int) + 1))) ne1).kept ((Kept.refl (fun _ => False) _).alloc o) (fun e => e)
              have n2 := (HB3.out.set ((cm : Int) + 1)).kept ((Kept.refl (fun _ => False) _).alloc o) (fun e => e)
              exact ⟨((Kept0.to Hk3.out).setCell _ (Or.inr lw2) _).alloc o, (HK3.out.setCell _ (Or.inr (Or.inr rfl)) _).alloc o, n1, by simpa using n2⟩
            clear HA3 HB3 HK3 Hk3 hcn hcm hyz e3 e4
            cases yb
            all_goals
              gi_wp2_with fail
              have hg := hgood.out
              rw [← HCN1.out, ← HCM1.out] at hg
              exact hg _
          · have e4 : cm' = cm := by rw [hcm.out]; simp
            have hgood : Hid (∀ o, Kept (· < w8.heap.size) W4 (W3.alloc o) ∧ (Kept (fun i => i = wc.heap.size ∨ i = wc.heap.size + 1) w8 (W3.alloc o) ∧ NumAt (W3.alloc o) wc.heap.size (cn' : Int) ∧ NumAt (W3.alloc o) (wc.heap.size + 1) (cm' : Int))) := fun o => by
              rw [e3, e4]
              exact ⟨(Kept0.to Hk3.out).alloc o, HK3.out.alloc o, HA3.out.kept ((Kept.refl (fun _ => False) _).alloc o) (fun e => e), HB3.out.kept ((Kept.refl (fun _ => False) _).alloc o) (fun e => e)⟩
            clear HA3 HB3 HK3 Hk3 hcn hcm hyz e3 e4
            cases yb
            all_goals
              gi_wp2_with fail
              have hg := hgood.out
              rw [← HCN1.out, ← HCM1.out] at hg
              exact hg _
      · intro Dk W hD hIW hDc
        obtain ⟨P9, _, _⟩ := hofs.out _ W hIW
        obtain ⟨hK9, hA9, hB9⟩ := hIW
        have HT9 := Lib.hid (HT8.out.kept hK9 (by omega))
        have HC9 : Hid (Coll (b7 + 1) (Dk :: Ds) W) :=
          Coll.more HCw.out (HCw.out.kept ((Kept0.to KK8.out).trans hK9) (fun D h1 h2 e => by omega)) (by omega) (by omega) hDc
        have HP9 := Lib.hid P9
        have a0 := hA9.c
        have b0 := hB9.c
        have he9 := P9.e0
        have l1 := hA9.lt
        have l2 := hB9.lt
        have l3 := HT9.out.lt
        have l4 := P9.at7.lt
        have l5 : b5 < W.heap.size := World.block_lt_of_cell? W _ he9
        have lo9 := P9.o
        have hA1 := HO.out
        have HE2 := HE.out
        have HR2 := HR.out
        obtain ⟨t0, t1, t2, t3, t4, t5⟩ := HT9.out
        obtain ⟨z0, z1, z2, z3, z4, z5⟩ := P9.at7
        have nb1 : ¬ b10 = b7 := by omega
        have nb2 : ¬ b7 = b10 := by omega
        have HRF := Lib.hid HR2
        clear P9 hofs hK9 hA9 hB9 HP8 HH8 HT8 HCw KK8 hDc HK HO HE HR hA8 hB8 HR2
        generalize cntP (neP F' pF) (R * C) = A at *
        generalize cntP (opP pF) (R * C) = B at *
        have dA : decide ((1 : Int) < (A : Int)) = false := by simp; omega
        have e9 : IntKind.i64.wrap ((j : Int) + 1) = (j : Int) + 1 := IntWalk.i64_in _ ⟨by omega, by omega⟩
        rcases HE2 with hpe | ⟨hpe, hA0, hB0⟩
        · subst hpe
          by_cases hpos : 0 < B
          · have dB : decide ((0 : Int) < (B : Int)) = true := by simp; omega
            obtain ⟨hth, hbz⟩ := HRF.out rfl hpos
            have HAT : Hid (Calls Try.prog 26 #[.pointer (some ⟨g, 0, none⟩), .agg #[.int .i64 pr, .int .i64 pc]] W fun e w' => e = .returned (.tuple #[(pF (idx C pr pc)).v, .int .i64 0]) ∧ Kept0 W w') := at_in g t cap R C pF pr pc W HP9.out.grid hth
            generalize pF (idx C pr pc) = zz at *
            obtain ⟨zg, za, zb, zm⟩ := zz
            obtain rfl : zb = false := hbz
            clear hth HRF
            go_wp2_with fail
            refine HAT.out.mono ?_
            rintro e W6 ⟨rfl, hk6⟩
            have HT6 := Lib.hid (HT9.out.kept0 hk6)
            have HP6 := Lib.hid (HP9.out.keep hk6)
            have HC6 := Lib.hid (HC9.out.kept0 hk6)
            have m3 := HT6.out.lt
            have m4 := HP6.out.at7.lt
            clear t0 t1 t2 t3 t4 t5 z0 z1 z2 z3 z4 z5 a0 b0 he9 hk6 HAT HT9 HP9 HC9
            obtain ⟨t0, t1, t2, t3, t4, t5⟩ := HT6.out
            obtain ⟨z0, z1, z2, z3, z4, z5⟩ := HP6.out.at7
            go_wp2_with fail
            have k7 : Kept (· = b7) W6 (((W6.setCell ⟨b7, 0, none⟩ (.int .i64 pr)).setCell ⟨b7, 1, none⟩ (.int .i64 pc)).setCell ⟨b7, 2, none⟩ (.bool false)) := ((Kept.set1 W6 b7 0 _).trans (Kept.set1 _ b7 1 _)).trans (Kept.set1 _ b7 2 _)
            have HPe := Lib.hid ((HP6.out.on7 k7 (HP6.out.at7.set pr pc false)).keep ((Kept.refl _ _).alloc (.cells #[.int .i32 zg, .int .i64 za, .bool false, .int .i64 zm] 36)))
            have HCe := Lib.hid ((HC6.out.kept k7 (fun D h1 h2 e => by omega)).kept0 ((Kept.refl _ _).alloc (.cells #[.int .i32 zg, .int .i64 za, .bool false, .int .i64 zm] 36)))
            refine ⟨⟨j + 1, pr, pc, false, pF, Dk :: Ds, by omega, rfl, rfl, rfl, rfl, rfl, rfl, rfl, HPe, HCe⟩, ?_⟩
            show ((s.size : Int) - intOf (.int .i64 ((j : Int) + 1))).toNat < ((s.size : Int) - intOf (.int .i64 (j : Int))).toNat
            simp [intOf]
            omega
          · have dB : decide ((0 : Int) < (B : Int)) = false := by simp; omega
            clear HRF
            go_wp2_with fail
            have k7 : Kept (· = b7) W (((W.setCell ⟨b7, 0, none⟩ (.int .i64 pr)).setCell ⟨b7, 1, none⟩ (.int .i64 pc)).setCell ⟨b7, 2, none⟩ (.bool false)) := ((Kept.set1 W b7 0 _).trans (Kept.set1 _ b7 1 _)).trans (Kept.set1 _ b7 2 _)
            have HPe := Lib.hid (HP9.out.on7 k7 (HP9.out.at7.set pr pc false))
            have HCe := Lib.hid (HC9.out.kept k7 (fun D h1 h2 e => by omega))
            refine ⟨⟨j + 1, pr, pc, false, pF, Dk :: Ds, by omega, rfl, rfl, rfl, rfl, rfl, rfl, rfl, HPe, HCe⟩, ?_⟩
            show ((s.size : Int) - intOf (.int .i64 ((j : Int) + 1))).toNat < ((s.size : Int) - intOf (.int .i64 (j : Int))).toNat
            simp [intOf]
            omega
        · subst hpe
          obtain rfl : A = 0 := hA0
          obtain rfl : B = 0 := hB0
          clear HRF
          go_wp2_with fail
          have k7 : Kept (· = b7) W (((W.setCell ⟨b7, 0, none⟩ (.int .i64 pr)).setCell ⟨b7, 1, none⟩ (.int .i64 pc)).setCell ⟨b7, 2, none⟩ (.bool false)) := ((Kept.set1 W b7 0 _).trans (Kept.set1 _ b7 1 _)).trans (Kept.set1 _ b7 2 _)
          have HPe := Lib.hid (HP9.out.on7 k7 (HP9.out.at7.set pr pc false))
          have HCe := Lib.hid (HC9.out.kept k7 (fun D h1 h2 e => by omega))
          refine ⟨⟨j + 1, pr, pc, false, pF, Dk :: Ds, by omega, rfl, rfl, rfl, rfl, rfl, rfl, rfl, HPe, HCe⟩, ?_⟩
          show ((s.size : Int) - intOf (.int .i64 ((j : Int) + 1))).toNat < ((s.size : Int) - intOf (.int .i64 (j : Int))).toNat
          simp [intOf]
          omega
      · intro D c k W _ _ h
        exact h.elim
    · obtain rfl : j = s.size := by omega
      have d1 : decide ((s.size : Int) < (s.size : Int)) = false := by simp
      go_wp2_with fail
      refine (HAW.out _).mono ?_
      rintro e w9 ⟨rfl, hk9⟩
      have hB9 := HP.out.out.kept hk9 (fun e => e)
      have b1 := hB9.c
      have b2 := hB9.f
      have hB4 := (hB9.set true).c
      go_wp2_with fail
      have l7 : b7 < wr.heap.size := HP.out.at7.lt
      have lo := HP.out.o
      have hk4 : Kept0 w (w9.setCell ⟨w.heap.size + 1 + 1, 0, none⟩ (.bool true)) := (HP.out.kept.trans hk9).setCell _ (Or.inl (by simp; omega)) _
      have hCo : Coll (b7 + 1) Ds (w9.setCell ⟨w.heap.size + 1 + 1, 0, none⟩ (.bool true)) := (HCo.out.kept0 hk9).kept (Kept.set1 w9 (w.heap.size + 1 + 1) 0 _) (fun D h1 h2 e => by omega)
      refine leaves_marks Ds _ hCo (fun w' k' => ?_)
      have hB5 := kcellS k' hB4 (by omega)
      have lk := hk4.size
      refine ⟨.bool true, by simp [results, Try.results5, go_sem, hB5], rfl, ?_⟩
      exact (Kept0.below hk4).trans (Kept.below k' (B := w.heap.size) (fun j hj => ⟨by omega, by omega⟩))
end Go.Proofs.Ytkdnjkcebfckiaa
