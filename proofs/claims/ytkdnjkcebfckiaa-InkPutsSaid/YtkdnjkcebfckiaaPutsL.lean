/-
  What comes of glyphs that are put, one by one: the law.
-/
import Derived.Test.YtkdnjkcebfckiaaPq
namespace Go.Proofs.Ytkdnjkcebfckiaa
open Go.RowKit

set_option maxHeartbeats 8000000 in
set_option maxRecDepth 100000 in
theorem puts_calls (a : Option Addr) (cap0 : Nat) (C0 : Int) (l : List ByteArray) (r c k : Int) (b : Bool) (s : ByteArray) (w : World) (hl : StrsIn w a l) (hL : l.length ≤ 9223372036854775807) (hsz : s.size ≤ maxLen) :
    Calls Try.prog 3 #[.agg #[.slice a l.length cap0, .int .i64 C0], penV r c b k s] w fun e w' => e = .returned (.bool true) ∧ Below w.heap.size w w' := by
  have HAW : Hid (∀ w', Calls Try.prog 10 #[] w' fun e w'' => e = .returned (.bool true) ∧ Kept0 w' w'') := fun w' => awake_any w'
  have HC : Hid (∀ (b : Int) (w : World), 0 ≤ b → b ≤ 255 → Calls Try.prog 12 #[.int .u8 b] w fun e w' => e = .returned (celB b).v ∧ Kept0 w w') := fun b w => cellL b w
  have HFW : Hid (∀ w', Calls Try.prog 9 #[.agg #[.slice a l.length cap0, .int .i64 C0], penV r c b k s] w' fun e w'' => e = .returned (.bool (fewP l.length C0 s.size)) ∧ Kept0 w' w'') := fun w' => fewP_any a l.length cap0 C0 r c k b s w' hL
  unfold maxLen at hsz
  cases hfew : fewP l.length C0 s.size
  · rw [hfew] at HFW
    clear hfew
    have k0 : Kept0 w ((w.alloc (.cells #[.slice a l.length cap0, .int .i64 C0] 24)).alloc (.cells #[.int .i64 r, .int .i64 c, .bool b, .int .i64 k, .string s] 28)) := ((Kept.refl _ w).alloc _).alloc _
    go_enter Try.func3, Try.ntmps3
    go_wp2_with fail
    refine (HFW.out _).mono ?_
    rintro e w1 ⟨rfl, hk1⟩
    go_wp2_with fail
    refine (HAW.out _).mono ?_
    rintro e w2 ⟨rfl, hk2⟩
    go_wp2_with fail
    go_ret
    exact ⟨rfl, Kept0.below ((k0.trans hk1).trans hk2)⟩
  rw [hfew] at HFW
  obtain ⟨f1, f2, f3, f4, f5⟩ := few_yes hfew
  obtain ⟨C, rfl⟩ := Int.eq_ofNat_of_zero_le (show 0 ≤ C0 by omega)
  clear hfew
  have HS := Lib.hid hl
  clear hl
  go_enter Try.func3, Try.ntmps3
  go_wp2_with fail
  obtain ⟨W, hW⟩ : ∃ W, W = (w.alloc (.cells #[.slice a l.length cap0, .int .i64 (C : Int)] 24)).alloc (.cells #[.int .i64 r, .int .i64 c, .bool b, .int .i64 k, .string s] 28) := ⟨_, rfl⟩
  have k0 : Kept0 w W := by rw [hW]; exact ((Kept.refl _ w).alloc _).alloc _
  have hbo : Hid (W.cell? ⟨w.heap.size, 0, none⟩ = some (.slice a l.length cap0) ∧ W.cell? ⟨w.heap.size, 1, none⟩ = some (.int .i64 (C : Int))) := by rw [hW]; exact ⟨by simp [go_sem], by simp [go_sem]⟩
  have hp : PenAt W (w.heap.size + 1) r c b k s := by rw [hW]; constructor <;> simp [go_sem]
  rw [← hW]
  clear hW
  refine (HFW.out _).mono ?_
  rintro e w1 ⟨rfl, hk1⟩
  have k1 := k0.trans hk1
  have c0 := kcell hk1 hbo.out.1
  have c1 := kcell hk1 hbo.out.2
  have hp1 := hp.kept hk1 (fun e => e)
  clear k0 hk1 hbo hp HFW
  go_wp2_with fail
  refine (made_any a cap0 C l w1 (HS.out.kept0 k1) f1 f2 (by omega) (by omega)).mono ?_
  rintro e w2 ⟨g, t, cap, g', t', cap', rfl, g1, g2, g3, g4, g5, g6, g7, g8, hG, hR, hk2⟩
  have lp1 := hp1.lt
  have hp2 := hp1.kept hk2 (fun e => e)
  have k2 := k1.trans hk2
  have lg := hG.lt
  have lt := hG.row.lt
  have lg' := hR.lt
  have lt' := hR.row.lt
  obtain ⟨Lh, hLh⟩ : ∃ Lh, Lh = w1.heap.size := ⟨_, rfl⟩
  rw [← hLh] at g1 g2 g3 g4 lp1
  clear hLh hk2 c0 c1 hp1 k1 HS
  generalize boardF C l = F at *
  generalize l.length = R at *
  go_wp2_with fail
  refine (HC.out _ _ (by omega) (by omega)).mono ?_
  rintro e w3 ⟨rfl, hk3⟩
  obtain ⟨dt, hdt⟩ : ∃ dt, dt = celB 46 := ⟨_, rfl⟩
  rw [← hdt]
  clear hdt
  have hp3 := hp2.kept hk3 (fun e => e)
  have l3 := hk3.size
  have lp3 := hp3.lt
  obtain ⟨q0, q1, q2, q3, q4⟩ := hp3
  go_wp2_with fail
  obtain ⟨V, hV⟩ : ∃ V, V = w3.alloc (.cells #[.int .i32 dt.g, .int .i64 dt.a, .bool dt.b, .int .i64 dt.m] 36) := ⟨_, rfl⟩
  have kV : Kept0 w3 V := by rw [hV]; exact (Kept.refl _ w3).alloc _
  have hd : CelAt V w3.heap.size dt := by rw [hV]; exact CelAt.new w3 dt 36
  rw [← hV]
  clear hV q0 q1 q2 q3 q4
  refine (place_any _ _ _ _ _ _).mono ?_
  rintro e w4 ⟨rfl, hk4⟩
  have kk4 := (hk3.trans kV).trans hk4
  have hd4 := hd.kept hk4 (fun e => e)
  have ld4 := World.block_lt_of_cell? w4 _ hd4.c0
  obtain ⟨q0, q1, q2, q3, q4⟩ := hp2.kept kk4 (fun e => e)
  have lp4 := World.block_lt_of_cell? w4 _ q0
  have l4 := kk4.size
  clear hk3 kV hk4 hd
  go_wp2_with fail
  obtain ⟨V, hV⟩ : ∃ V, V = w4.alloc (.cells #[.int .i64 r, .int .i64 c, .bool b] 39) := ⟨_, rfl⟩
  have kV : Kept0 w4 V := by rw [hV]; exact (Kept.refl _ w4).alloc _
  have h8 : Three V w4.heap.size r c b := by rw [hV]; exact Three.of (heap_new w4 _)
  rw [← hV]
  clear hV q0 q1 q2 q3 q4
  refine (cursor_any _ _ _ _ _ _).mono ?_
  rintro e w5 ⟨rfl, hk5⟩
  have kk5 := (kk4.trans kV).trans hk5
  have h85 := h8.kept0 hk5
  have ld5 := h85.lt
  have HD5 : Hid (CelAt w5 w3.heap.size dt) := (hd4.kept kV (fun e => e)).kept hk5 (fun e => e)
  go_wp2_with fail
  obtain ⟨V, hV⟩ : ∃ V, V = w5.alloc (.cells #[.int .i64 r, .int .i64 c, .bool b] 42) := ⟨_, rfl⟩
  have kW : Kept0 w5 V := by rw [hV]; exact (Kept.refl _ w5).alloc _
  have h9 : Three V w5.heap.size r c b := by rw [hV]; exact Three.of (heap_new w5 _)
  rw [← hV]
  clear hV
  have kk6 := kk5.trans kW
  have HP : Hid (Pq w V Lh w2.heap.size (w.heap.size + 1) w4.heap.size w5.heap.size g t cap g' t' cap' R C r c b k s F F r c b r c b) :=
    ⟨hp2.kept kk6 (fun e => e), h85.kept0 kW, h9, hG.kept kk6 (fun e => e) (fun e => e), hR.kept kk6 (fun e => e) (fun e => e), k2.trans kk6, ⟨by omega, lp1, g1, g2, g3, g4⟩, ⟨lg, lt, lg', lt', by omega, by omega⟩, ⟨g5, g6, g7, g8⟩⟩
  have HD : Hid (CelAt V w3.heap.size dt) := HD5.out.kept kW (fun e => e)
  clear kk6 kW kk5 hk5 kV h8 h85 h9 HD5 hd4 kk4 hp2 hG hR k2 g5 g6 g7 g8
  generalize w5.heap.size = b9 at *
  generalize w4.heap.size = b8 at *
  have bd1 : w2.heap.size ≤ w3.heap.size := l3
  generalize w3.heap.size = bd at *
  generalize w2.heap.size = M at *
  go_loopw [10] (fun s10 wr => ∃ (j : Nat) (r' c' : Int) (b' : Bool) (F' : Nat → Cel), j ≤ s.size ∧ s10 = .int .i64 (j : Int) ∧ Hid (Pq w wr Lh M (w.heap.size + 1) b8 b9 g t cap g' t' cap' R C r c b k s F' F' r' c' b' r' c' b') ∧ Hid (CelAt wr bd dt)) (fun s10 _ => ((s.size : Int) - intOf s10).toNat)
  case atStart => exact ⟨0, r, c, b, F, by omega, rfl, HP, HD⟩
  case round =>
    clear HP HD
    obtain ⟨j, r', c', b', F', hj, rfl, HP, HD⟩ := hrel
    obtain ⟨q0, q1, q2, q3, q4⟩ := HP.out.pen
    by_cases hlt : j < s.size
    · have d1 : decide ((j : Int) < (s.size : Int)) = true := by simp; omega
      go_wp2_with fail
      refine (HC.out _ _ (by omega) (by have := UInt8.toNat_lt s[j]; omega)).mono ?_
      rintro e v3 ⟨rfl, hk3⟩
      generalize celB (s[j].toNat : Int) = y at *
      replace HP := Lib.hid (HP.out.keep hk3)
      replace HD := Lib.hid (HD.out.kept hk3 (fun e => e))
      clear q0 q1 q2 q3 q4 hk3
      obtain ⟨q0, q1, q2, q3, q4⟩ := HP.out.pen
      obtain ⟨p0, p1, p2, p3, p4, p5⟩ := HP.out.at8
      obtain ⟨e0, e1, e2, e3⟩ := HD.out
      have la := World.block_lt_of_cell? v3 _ q0
      have lb := World.block_lt_of_cell? v3 _ p0
      have lc := World.block_lt_of_cell? v3 _ e0
      have lb9 : b9 < v3.heap.size := HP.out.at9.lt
      go_wp2_with fail
      obtain ⟨V, hV⟩ : ∃ V, V = v3.alloc (.cells #[.int .i32 y.g, .int .i64 y.a, .bool y.b, .int .i64 y.m] 36) := ⟨_, rfl⟩
      have kV : Kept0 v3 V := by rw [hV]; exact (Kept.refl _ v3).alloc _
      have hy : CelAt V v3.heap.size y := by rw [hV]; exact CelAt.new v3 y 36
      rw [← hV]
      clear hV q0 q1 q2 q3 q4 p0 p1 p2 p3 p4 p5 e0 e1 e2 e3
      have ly := World.block_lt_of_cell? V _ hy.c0
      have HPV := Lib.hid (HP.out.keep kV)
      refine (put_any g t cap R C F' r' c' k b' y dt V HPV.out.grid).mono ?_
      rintro e v6 ⟨rfl, hG6, hk6⟩
      have hlt2 := HP.out.o2.2.1
      have hlt3 := HP.out.o2.2.2.2.1
      have HP6 := Lib.hid (HPV.out.onG hk6 hG6)
      have HY6 := Lib.hid (hy.kept hk6 (by omega))
      have HD6 := Lib.hid ((HD.out.kept kV (fun e => e)).kept hk6 (by omega))
      have l6 := hk6.size
      have hPR := fun w' (h : RefAt w' g' t' cap' R C F') => putR_any g' t' cap' R C F' r' c' k b' y dt w' h
      generalize putN R C r' c' b' k = pn at *
      generalize putR R C r' c' b' k = pr at *
      generalize putC C c' b' k = pc at *
      generalize putP C c' b' k = pp at *
      generalize putF R C F' r' c' b' y k dt = pF at *
      have HPR := Lib.hid hPR
      clear hPR hG6 hk6 HPV HP HD hy kV
      obtain ⟨q0, q1, q2, q3, q4⟩ := HP6.out.pen
      obtain ⟨p0, p1, p2, p3, p4, p5⟩ := HP6.out.at9
      obtain ⟨e0, e1, e2, e3⟩ := HD6.out
      obtain ⟨y0, y1, y2, y3⟩ := HY6.out
      have la := World.block_lt_of_cell? v6 _ q0
      have lb := World.block_lt_of_cell? v6 _ p0
      have lc := World.block_lt_of_cell? v6 _ e0
      have ld := World.block_lt_of_cell? v6 _ y0
      go_wp2_with fail
      obtain ⟨V2, hV⟩ : ∃ V2, V2 = v6.alloc (.cells #[.int .i64 pr, .int .i64 pc, .bool pp] 39) := ⟨_, rfl⟩
      have kV : Kept0 v6 V2 := by rw [hV]; exact (Kept.refl _ v6).alloc _
      have hn : Three V2 v6.heap.size pr pc pp := by rw [hV]; exact Three.of (heap_new v6 _)
      rw [← hV]
      clear hV q0 q1 q2 q3 q4 p0 p1 p2 p3 p4 p5 e0 e1 e2 e3 y0 y1 y2 y3
      have HPV := Lib.hid (HP6.out.keep kV)
      have ln := hn.lt
      refine (HPR.out V2 HPV.out.ref).mono ?_
      rintro e v7 ⟨rfl, hR7, hk7⟩
      have HP7 := Lib.hid (HPV.out.onR hk7 hR7)
      have HD7 := Lib.hid ((HD6.out.kept kV (fun e => e)).kept hk7 (by omega))
      have hn7 := hn.kept hk7 (by omega)
      have ln7 := hn7.lt
      clear hR7 hk7 HPV HP6 HD6 HY6 hn kV HPR
      obtain ⟨n0, n1, n2, n3, n4, n5⟩ := hn7
      go_wp2_with fail
      obtain ⟨V3, hV⟩ : ∃ V3, V3 = v7.alloc (.cells #[.int .i64 pr, .int .i64 pc, .bool pp] 42) := ⟨_, rfl⟩
      have kV : Kept0 v7 V3 := by rw [hV]; exact (Kept.refl _ v7).alloc _
      have hm : Three V3 v7.heap.size pr pc pp := by rw [hV]; exact Three.of (heap_new v7 _)
      rw [← hV]
      clear hV
      refine (like_any pr pc pp V3).mono ?_
      rintro e v8 ⟨rfl, hk8⟩
      have kk8 := kV.trans hk8
      have HP8 := Lib.hid (HP7.out.keep kk8)
      go_wp2_with fail
      refine (sameL g t cap g' t' cap' R C pF v8 HP8.out.grid HP8.out.ref).mono ?_
      rintro e v9 ⟨rfl, hk9⟩
      have kk9 := kk8.trans hk9
      have HP9 := Lib.hid (HP7.out.keep kk9)
      have HD9 := Lib.hid (HD7.out.kept kk9 (fun e => e))
      have hn9 : Three v9 v6.heap.size pr pc pp := Three.kept0 ⟨n0, n1, n2, n3, n4, n5⟩ kk9
      have hm9 := (hm.kept0 hk8).kept0 hk9
      clear n0 n1 n2 n3 n4 n5 kk8 kk9 hk9 hk8 kV HP8 HP7 HD7 hm
      obtain ⟨n0, n1, n2, n3, n4, n5⟩ := hn9
      obtain ⟨m0, m1, m2, m3, m4, m5⟩ := hm9
      obtain ⟨p0, p1, p2, p3, p4, p5⟩ := HP9.out.at8
      obtain ⟨z0, z1, z2, z3, z4, z5⟩ := HP9.out.at9
      have lb8 : ¬ b8 = b9 := by have := HP9.out.o2.2.2.2.2.2; omega
      have lb8' : ¬ b9 = b8 := fun e => lb8 e.symm
      have x1 : ¬ v6.heap.size = b8 := by omega
      have x2 : ¬ v7.heap.size = b8 := by omega
      have x3 : ¬ v7.heap.size = b9 := by omega
      have x4 : ¬ b8 = v7.heap.size := by omega
      go_wp2_with fail
      have k8 : Kept (· = b8) v9 (((v9.setCell ⟨b8, 0, none⟩ (.int .i64 pr)).setCell ⟨b8, 1, none⟩ (.int .i64 pc)).setCell ⟨b8, 2, none⟩ (.bool pp)) := ((Kept.set1 v9 b8 0 _).trans (Kept.set1 _ b8 1 _)).trans (Kept.set1 _ b8 2 _)
      have HPa := Lib.hid (HP9.out.on8 k8 (HP9.out.at8.set pr pc pp))
      have HDa := Lib.hid (HD9.out.kept k8 (by omega))
      generalize ((v9.setCell ⟨b8, 0, none⟩ (.int .i64 pr)).setCell ⟨b8, 1, none⟩ (.int .i64 pc)).setCell ⟨b8, 2, none⟩ (.bool pp) = U at *
      have k9 : Kept (· = b9) U (((U.setCell ⟨b9, 0, none⟩ (.int .i64 pr)).setCell ⟨b9, 1, none⟩ (.int .i64 pc)).setCell ⟨b9, 2, none⟩ (.bool pp)) := ((Kept.set1 U b9 0 _).trans (Kept.set1 _ b9 1 _)).trans (Kept.set1 _ b9 2 _)
      have HPb := Lib.hid (HPa.out.on9 k9 (HPa.out.at9.set pr pc pp))
      have HDb := Lib.hid (HDa.out.kept k9 (by omega))
      refine ⟨⟨j + 1, pr, pc, pp, pF, by omega, by simp, HPb, HDb⟩, ?_⟩
      simp [intOf]
      omega
    · obtain rfl : j = s.size := by omega
      have d1 : decide ((s.size : Int) < (s.size : Int)) = false := by simp
      go_wp2_with fail
      refine (HAW.out _).mono ?_
      rintro e w9 ⟨rfl, hk9⟩
      go_wp2_with fail
      go_ret
      exact ⟨rfl, Kept0.below (HP.out.kept.trans hk9)⟩
end Go.Proofs.Ytkdnjkcebfckiaa
