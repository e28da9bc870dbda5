/-
  Which place is the first one that is not guarded, and what comes of glyphs that are put there: the law.
-/
import Derived.Test.YtkdnjkcebfckiaaPq
import Derived.Test.YtkdnjkcebfckiaaRefG
namespace Go.Proofs.Ytkdnjkcebfckiaa
open Go.RowKit

set_option maxHeartbeats 8000000 in
set_option maxRecDepth 100000 in
theorem frees_calls (a : Option Addr) (cap0 : Nat) (C0 : Int) (l : List ByteArray) (r c k : Int) (b : Bool) (s : ByteArray) (w : World) (hl : StrsIn w a l) (hL : l.length ≤ 9223372036854775807) (hsz : s.size ≤ maxLen) :
    Calls Try.prog 4 #[.agg #[.slice a l.length cap0, .int .i64 C0], penV r c b k s] w fun e w' => e = .returned (.bool true) ∧ Below w.heap.size w w' := by
  have HAW : Hid (∀ w', Calls Try.prog 10 #[] w' fun e w'' => e = .returned (.bool true) ∧ Kept0 w' w'') := fun w' => awake_any w'
  have HC : Hid (∀ (b : Int) (w : World), 0 ≤ b → b ≤ 255 → Calls Try.prog 12 #[.int .u8 b] w fun e w' => e = .returned (celB b).v ∧ Kept0 w w') := fun b w => cellL b w
  have HFW : Hid (∀ w', Calls Try.prog 9 #[.agg #[.slice a l.length cap0, .int .i64 C0], penV r c b k s] w' fun e w'' => e = .returned (.bool (fewP l.length C0 s.size)) ∧ Kept0 w' w'') := fun w' => fewP_any a l.length cap0 C0 r c k b s w' hL
  unfold maxLen at hsz
  cases hfew : fewP l.length C0 s.size
  · rw [hfew] at HFW
    clear hfew
    have k0 : Kept0 w ((w.alloc (.cells #[.slice a l.length cap0, .int .i64 C0] 24)).alloc (.cells #[.int .i64 r, .int .i64 c, .bool b, .int .i64 k, .string s] 28)) := ((Kept.refl _ w).alloc _).alloc _
    go_enter Try.func4, Try.ntmps4
    go_wp2_with fail
    refine (HFW.out _).mono ?_
    rintro e w1 ⟨rfl, hk1⟩
    go_wp2_with fail
    refine (HAW.out _).mono ?_
    rintro e w2 ⟨rfl, hk2⟩
    go_wp2_with fail
    go_ret
    exact ⟨rfl, Kept0.below ((k0.trans hk1).trans hk2)⟩
  rw [hfew] at HFW
  obtain ⟨f1, f2, f3, f4, f5⟩ := few_yes hfew
  obtain ⟨C, rfl⟩ := Int.eq_ofNat_of_zero_le (show 0 ≤ C0 by omega)
  clear hfew
  have HS := Lib.hid hl
  clear hl
  go_enter Try.func4, Try.ntmps4
  go_wp2_with fail
  obtain ⟨W, hW⟩ : ∃ W, W = (w.alloc (.cells #[.slice a l.length cap0, .int .i64 (C : Int)] 24)).alloc (.cells #[.int .i64 r, .int .i64 c, .bool b, .int .i64 k, .string s] 28) := ⟨_, rfl⟩
  have k0 : Kept0 w W := by rw [hW]; exact ((Kept.refl _ w).alloc _).alloc _
  have hbo : Hid (W.cell? ⟨w.heap.size, 0, none⟩ = some (.slice a l.length cap0) ∧ W.cell? ⟨w.heap.size, 1, none⟩ = some (.int .i64 (C : Int))) := by rw [hW]; exact ⟨by simp [go_sem], by simp [go_sem]⟩
  have hp : PenAt W (w.heap.size + 1) r c b k s := by rw [hW]; constructor <;> simp [go_sem]
  rw [← hW]
  clear hW
  refine (HFW.out _).mono ?_
  rintro e w1 ⟨rfl, hk1⟩
  have k1 := k0.trans hk1
  have c0 := kcell hk1 hbo.out.1
  have c1 := kcell hk1 hbo.out.2
  have hp1 := hp.kept hk1 (fun e => e)
  clear k0 hk1 hbo hp HFW
  go_wp2_with fail
  refine (made_any a cap0 C l w1 (HS.out.kept0 k1) f1 f2 (by omega) (by omega)).mono ?_
  rintro e w2 ⟨g, t, cap, g', t', cap', rfl, g1, g2, g3, g4, g5, g6, g7, g8, hG, hR, hk2⟩
  have lp1 := hp1.lt
  have hp2 := hp1.kept hk2 (fun e => e)
  have k2 := k1.trans hk2
  have lg := hG.lt
  have lt := hG.row.lt
  have lg' := hR.lt
  have lt' := hR.row.lt
  obtain ⟨Lh, hLh⟩ : ∃ Lh, Lh = w1.heap.size := ⟨_, rfl⟩
  rw [← hLh] at g1 g2 g3 g4 lp1
  clear hLh hk2 c0 c1 hp1 k1 HS
  generalize boardF C l = F at *
  generalize l.length = R at *
  obtain ⟨q0, q1, q2, q3, q4⟩ := hp2
  go_wp2_with fail
  refine (place_any _ _ _ _ _ _).mono ?_
  rintro e w4 ⟨rfl, hk4⟩
  have hp2 : PenAt w2 (w.heap.size + 1) r c b k s := ⟨q0, q1, q2, q3, q4⟩
  have kk4 := hk4
  clear q0 q1 q2 q3 q4
  obtain ⟨q0, q1, q2, q3, q4⟩ := hp2.kept kk4 (fun e => e)
  have lp4 := World.block_lt_of_cell? w4 _ q0
  have l4 := kk4.size
  go_wp2_with fail
  obtain ⟨V, hV⟩ : ∃ V, V = w4.alloc (.cells #[.int .i64 r, .int .i64 c, .bool b] 39) := ⟨_, rfl⟩
  have kV : Kept0 w4 V := by rw [hV]; exact (Kept.refl _ w4).alloc _
  have h8 : Three V w4.heap.size r c b := by rw [hV]; exact Three.of (heap_new w4 _)
  rw [← hV]
  clear hV q0 q1 q2 q3 q4
  refine (cursor_any _ _ _ _ _ _).mono ?_
  rintro e w5 ⟨rfl, hk5⟩
  have kk5 := (kk4.trans kV).trans hk5
  have h85 := h8.kept0 hk5
  have ld5 := h85.lt
  go_wp2_with fail
  obtain ⟨V, hV⟩ : ∃ V, V = w5.alloc (.cells #[.int .i64 r, .int .i64 c, .bool b] 42) := ⟨_, rfl⟩
  have kW : Kept0 w5 V := by rw [hV]; exact (Kept.refl _ w5).alloc _
  have h9 : Three V w5.heap.size r c b := by rw [hV]; exact Three.of (heap_new w5 _)
  rw [← hV]
  clear hV
  have kk6 := kk5.trans kW
  have HP : Hid (Pq w V Lh w2.heap.size (w.heap.size + 1) w4.heap.size w5.heap.size g t cap g' t' cap' R C r c b k s F F r c b r c b) :=
    ⟨hp2.kept kk6 (fun e => e), h85.kept0 kW, h9, hG.kept kk6 (fun e => e) (fun e => e), hR.kept kk6 (fun e => e) (fun e => e), k2.trans kk6, ⟨by omega, lp1, g1, g2, g3, g4⟩, ⟨lg, lt, lg', lt', by omega, by omega⟩, ⟨g5, g6, g7, g8⟩⟩
  clear kk6 kW kk5 hk5 kV h8 h85 h9 kk4 hk4 hp2 hG hR k2 g5 g6 g7 g8
  generalize w5.heap.size = b9 at *
  generalize w4.heap.size = b8 at *
  generalize w2.heap.size = M at *
  go_loopw [9] (fun s9 wr => ∃ (j : Nat) (r' c' : Int) (b' : Bool) (F' : Nat → Cel), j ≤ s.size ∧ s9 = .int .i64 (j : Int) ∧ Hid (Pq w wr Lh M (w.heap.size + 1) b8 b9 g t cap g' t' cap' R C r c b k s F' F' r' c' b' r' c' b')) (fun s9 _ => ((s.size : Int) - intOf s9).toNat)
  case atStart => exact ⟨0, r, c, b, F, by omega, rfl, HP⟩
  case round =>
    clear HP
    obtain ⟨j, r', c', b', F', hj, rfl, HP⟩ := hrel
    by_cases hlt : j < s.size
    · have d1 : decide ((j : Int) < (s.size : Int)) = true := by simp; omega
      have hFr := fun w' (h : GridAt w' g t cap R C F') => free_any g t cap R C F' r' c' w' h
      have hLs := fun w' (h : GridAt w' g t cap R C F') => last_any g t cap R C F' r' c' w' h
      have hRf := fun w' (h : RefAt w' g' t' cap' R C F') => freeR g' t' cap' R C F' r' c' false w' h
      have hRl := fun w' (h : RefAt w' g' t' cap' R C F') => freeR g' t' cap' R C F' r' c' true w' h
      obtain ⟨fo, hfo⟩ : ∃ fo, fo = freeK (R * C) false (st R C r' c') F' := ⟨_, rfl⟩
      rw [← hfo] at hFr hRf
      have HFO := Lib.hid hfo
      clear hfo
      generalize freeK (R * C) true (st R C r' c') F' = lo at *
      generalize hx0 : oR C fo = x0 at hFr hRf
      generalize hx1 : oC C fo = x1 at hFr hRf
      generalize hx2 : fo.isSome = x2 at hFr hRf
      generalize oR C lo = y0 at *
      generalize oC C lo = y1 at *
      generalize lo.isSome = y2 at *
      clear hx0 hx1 hx2
      have HFr := Lib.hid hFr
      have HLs := Lib.hid hLs
      have HRf := Lib.hid hRf
      have HRl := Lib.hid hRl
      clear hFr hLs hRf hRl
      have sx := same_pos x0 x1
      have sy := same_pos y0 y1
      obtain ⟨q0, q1, q2, q3, q4⟩ := HP.out.pen
      obtain ⟨p0, p1, p2, p3, p4, p5⟩ := HP.out.at8
      go_wp2_with fail
      refine (HFr.out _ HP.out.grid).mono ?_
      rintro e v1 ⟨rfl, hk1⟩
      have HP1 := Lib.hid (HP.out.keep hk1)
      clear q0 q1 q2 q3 q4 p0 p1 p2 p3 p4 p5
      obtain ⟨p0, p1, p2, p3, p4, p5⟩ := HP1.out.at9
      have lb := World.block_lt_of_cell? v1 _ p0
      go_wp2_with fail
      obtain ⟨V, hV⟩ : ∃ V, V = v1.alloc (.cells #[.int .i64 x0, .int .i64 x1] 26) := ⟨_, rfl⟩
      have kV : Kept0 v1 V := by rw [hV]; exact (Kept.refl _ v1).alloc _
      have hx : Two V v1.heap.size x0 x1 := by rw [hV]; exact Two.of (heap_new v1 _)
      rw [← hV]
      clear hV p0 p1 p2 p3 p4 p5
      have HPV := Lib.hid (HP1.out.keep kV)
      refine (HRf.out _ HPV.out.ref).mono ?_
      rintro e v2 ⟨rfl, hk2⟩
      have HP2 := Lib.hid (HPV.out.keep hk2)
      have hx2' := hx.kept0 hk2
      have lx2 := hx2'.lt
      have HX2 := Lib.hid hx2'
      clear hk1 kV hx HPV HP1 HP hk2
      obtain ⟨t0, t1, t2, t3⟩ := hx2'
      obtain ⟨V, hV⟩ : ∃ V, V = v2.alloc (.cells #[.int .i64 x0, .int .i64 x1] 26) := ⟨_, rfl⟩
      have kV : Kept0 v2 V := by rw [hV]; exact (Kept.refl _ v2).alloc _
      have hz : Two V v2.heap.size x0 x1 := by rw [hV]; exact Two.of (heap_new v2 _)
      have HPV := Lib.hid (HP2.out.keep kV)
      have HXV := Lib.hid (HX2.out.kept0 kV)
      have lzV := hz.lt
      go_upto_region 15 with fail
      rw [← hV]
      clear hV t0 t1 t2 t3 HP2 HX2
      obtain ⟨p0, p1, p2, p3, p4, p5⟩ := HPV.out.at8
      have lb9 := HPV.out.at9.lt
      go_wp2_with fail
      refine (HLs.out _ HPV.out.grid).mono ?_
      rintro e v3 ⟨rfl, hk3⟩
      have HP3 := Lib.hid (HPV.out.keep hk3)
      have HX3 := Lib.hid (HXV.out.kept0 hk3)
      have HZ3 := Lib.hid (hz.kept0 hk3)
      clear p0 p1 p2 p3 p4 p5 hk3 kV HPV HXV hz
      obtain ⟨t0, t1, t2, t3⟩ := HX3.out
      have hb9v : b9 < v1.heap.size := lb
      obtain ⟨V, hV⟩ : ∃ V, V = (v3.setCell ⟨v1.heap.size, 0, none⟩ (.int .i64 y0)).setCell ⟨v1.heap.size, 1, none⟩ (.int .i64 y1) := ⟨_, rfl⟩
      have kV : Kept (· = v1.heap.size) v3 V := by rw [hV]; exact (Kept.set1 v3 _ 0 _).trans (Kept.set1 _ _ 1 _)
      have HXV : Hid (Two V v1.heap.size y0 y1) := by rw [hV]; exact HX3.out.set y0 y1
      have HPV := Lib.hid (HP3.out.apart kV hb9v)
      have HZV := Lib.hid (HZ3.out.kept kV (by omega))
      go_upto_region 16 with fail
      rw [← hV]
      clear hV t0 t1 t2 t3 HX3 HP3 HZ3 kV
      obtain ⟨p0, p1, p2, p3, p4, p5⟩ := HPV.out.at9
      go_wp2_with fail
      refine (HRl.out _ HPV.out.ref).mono ?_
      rintro e v4 ⟨rfl, hk4⟩
      have HP4 := Lib.hid (HPV.out.keep hk4)
      have HX4 := Lib.hid (HXV.out.kept0 hk4)
      have HZ4 := Lib.hid (HZV.out.kept0 hk4)
      clear p0 p1 p2 p3 p4 p5 hk4 HPV HXV HZV
      obtain ⟨t0, t1, t2, t3⟩ := HX4.out
      obtain ⟨z0, z1, z2, z3⟩ := HZ4.out
      have nz1 : ¬ v1.heap.size = v2.heap.size := by omega
      have nz2 : ¬ v2.heap.size = v1.heap.size := by omega
      obtain ⟨V, hV⟩ : ∃ V, V = (v4.setCell ⟨v2.heap.size, 0, none⟩ (.int .i64 y0)).setCell ⟨v2.heap.size, 1, none⟩ (.int .i64 y1) := ⟨_, rfl⟩
      have kV : Kept (· = v2.heap.size) v4 V := by rw [hV]; exact (Kept.set1 v4 _ 0 _).trans (Kept.set1 _ _ 1 _)
      have HPV := Lib.hid (HP4.out.apart kV (by omega))
      go_upto_region 19 with fail
      rw [← hV]
      clear hV t0 t1 t2 t3 z0 z1 z2 z3 HX4 HP4 HZ4 kV nz1 nz2
      obtain ⟨q0, q1, q2, q3, q4⟩ := HPV.out.pen
      go_wp2_with fail
      refine (HC.out _ _ (by omega) (by have := UInt8.toNat_lt s[j]; omega)).mono ?_
      rintro e v5 ⟨rfl, hk5⟩
      generalize celB (s[j].toNat : Int) = y at *
      have HP5 := Lib.hid (HPV.out.keep hk5)
      clear q0 q1 q2 q3 q4 hk5 HPV
      obtain ⟨p0, p1, p2, p3, p4, p5⟩ := HP5.out.at8
      have lb8 := World.block_lt_of_cell? v5 _ p0
      have lb5 := HP5.out.at9.lt
      go_wp2_with fail
      obtain ⟨V, hV⟩ : ∃ V, V = v5.alloc (.cells #[.int .i32 y.g, .int .i64 y.a, .bool y.b, .int .i64 y.m] 36) := ⟨_, rfl⟩
      have kV : Kept0 v5 V := by rw [hV]; exact (Kept.refl _ v5).alloc _
      have hy : CelAt V v5.heap.size y := by rw [hV]; exact CelAt.new v5 y 36
      rw [← hV]
      clear hV p0 p1 p2 p3 p4 p5
      have HPV := Lib.hid (HP5.out.keep kV)
      have ho1 := HPV.out.o2
      refine (guard_any g t cap R C F' r' c' b' y V HPV.out.grid fo HFO.out).mono ?_
      rintro e v6 ⟨rfl, hG6, hk6⟩
      have HP6 := Lib.hid (HPV.out.onG hk6 hG6)
      have HY6 := Lib.hid (hy.kept hk6 (by omega))
      have hGR := fun w' (h : RefAt w' g' t' cap' R C F') => guardR_any g' t' cap' R C F' r' c' b' y w' h fo HFO.out
      generalize gdR R C F' y r' fo = pr at *
      generalize gdC R C F' y c' fo = pc at *
      generalize gdE fo = pe at *
      generalize gdF F' y fo = pF at *
      have HGR := Lib.hid hGR
      clear hGR hG6 hk6 HPV HP5 hy kV
      obtain ⟨p0, p1, p2, p3, p4, p5⟩ := HP6.out.at9
      obtain ⟨y0', y1', y2', y3'⟩ := HY6.out
      have lc := World.block_lt_of_cell? v6 _ p0
      have ld := World.block_lt_of_cell? v6 _ y0'
      go_wp2_with fail
      obtain ⟨V2, hV⟩ : ∃ V2, V2 = v6.alloc (.cells #[.int .i64 pr, .int .i64 pc, .bool false] 39) := ⟨_, rfl⟩
      have kV : Kept0 v6 V2 := by rw [hV]; exact (Kept.refl _ v6).alloc _
      have hn : Three V2 v6.heap.size pr pc false := by rw [hV]; exact Three.of (heap_new v6 _)
      rw [← hV]
      clear hV p0 p1 p2 p3 p4 p5 y0' y1' y2' y3'
      have HPV := Lib.hid (HP6.out.keep kV)
      have ln := hn.lt
      refine (HGR.out V2 HPV.out.ref).mono ?_
      rintro e v7 ⟨rfl, hR7, hk7⟩
      have HP7 := Lib.hid (HPV.out.onR hk7 hR7)
      have hn7 := hn.kept hk7 (by omega)
      have ln7 := hn7.lt
      have lk7 := hk7.size
      clear hR7 hk7 HPV HP6 HY6 hn kV HGR
      obtain ⟨n0, n1, n2, n3, n4, n5⟩ := hn7
      go_wp2_with fail
      obtain ⟨V3, hV⟩ : ∃ V3, V3 = v7.alloc (.cells #[.int .i64 pr, .int .i64 pc, .bool false] 42) := ⟨_, rfl⟩
      have kV : Kept0 v7 V3 := by rw [hV]; exact (Kept.refl _ v7).alloc _
      have hm : Three V3 v7.heap.size pr pc false := by rw [hV]; exact Three.of (heap_new v7 _)
      rw [← hV]
      clear hV
      refine (like_any pr pc false V3).mono ?_
      rintro e v8 ⟨rfl, hk8⟩
      have kk8 := kV.trans hk8
      have HP8 := Lib.hid (HP7.out.keep kk8)
      go_wp2_with fail
      refine (sameL g t cap g' t' cap' R C pF v8 HP8.out.grid HP8.out.ref).mono ?_
      rintro e v9 ⟨rfl, hk9⟩
      have kk9 := kk8.trans hk9
      have HP9 := Lib.hid (HP7.out.keep kk9)
      have hn9 : Three v9 v6.heap.size pr pc false := Three.kept0 ⟨n0, n1, n2, n3, n4, n5⟩ kk9
      have hm9 := (hm.kept0 hk8).kept0 hk9
      clear n0 n1 n2 n3 n4 n5 kk8 kk9 hk9 hk8 kV HP8 HP7 hm
      obtain ⟨n0, n1, n2, n3, n4, n5⟩ := hn9
      obtain ⟨m0, m1, m2, m3, m4, m5⟩ := hm9
      obtain ⟨p0, p1, p2, p3, p4, p5⟩ := HP9.out.at8
      obtain ⟨z0, z1, z2, z3, z4, z5⟩ := HP9.out.at9
      have lb8 : ¬ b8 = b9 := by have := HP9.out.o2.2.2.2.2.2; omega
      have lb8' : ¬ b9 = b8 := fun e => lb8 e.symm
      have x1 : ¬ v6.heap.size = b8 := by omega
      have x2 : ¬ v7.heap.size = b8 := by omega
      have x3 : ¬ v7.heap.size = b9 := by omega
      have x4 : ¬ b8 = v7.heap.size := by omega
      go_wp2_with fail
      have k8 : Kept (· = b8) v9 (((v9.setCell ⟨b8, 0, none⟩ (.int .i64 pr)).setCell ⟨b8, 1, none⟩ (.int .i64 pc)).setCell ⟨b8, 2, none⟩ (.bool false)) := ((Kept.set1 v9 b8 0 _).trans (Kept.set1 _ b8 1 _)).trans (Kept.set1 _ b8 2 _)
      have HPa := Lib.hid (HP9.out.on8 k8 (HP9.out.at8.set pr pc false))
      generalize ((v9.setCell ⟨b8, 0, none⟩ (.int .i64 pr)).setCell ⟨b8, 1, none⟩ (.int .i64 pc)).setCell ⟨b8, 2, none⟩ (.bool false) = U at *
      have k9 : Kept (· = b9) U (((U.setCell ⟨b9, 0, none⟩ (.int .i64 pr)).setCell ⟨b9, 1, none⟩ (.int .i64 pc)).setCell ⟨b9, 2, none⟩ (.bool false)) := ((Kept.set1 U b9 0 _).trans (Kept.set1 _ b9 1 _)).trans (Kept.set1 _ b9 2 _)
      have HPb := Lib.hid (HPa.out.on9 k9 (HPa.out.at9.set pr pc false))
      refine ⟨⟨j + 1, pr, pc, false, pF, by omega, by simp, HPb⟩, ?_⟩
      simp [intOf]
      omega
    · obtain rfl : j = s.size := by omega
      obtain ⟨q0, q1, q2, q3, q4⟩ := HP.out.pen
      have d1 : decide ((s.size : Int) < (s.size : Int)) = false := by simp
      go_wp2_with fail
      refine (HAW.out _).mono ?_
      rintro e w9 ⟨rfl, hk9⟩
      go_wp2_with fail
      go_ret
      exact ⟨rfl, Kept0.below (HP.out.kept.trans hk9)⟩
end Go.Proofs.Ytkdnjkcebfckiaa
