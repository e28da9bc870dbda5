/-
  A text that is put in two parts is put as at once: the law.
-/
import Derived.Test.YtkdnjkcebfckiaaJoinF
import Derived.Test.YtkdnjkcebfckiaaPq
namespace Go.Proofs.Ytkdnjkcebfckiaa
open Go.RowKit

/-- All that is known of a world while a text is put to two grids. -/
structure Js (w wx : World) (bp bd g t cap h u ch R C tc n : Nat) (r0 c0 : Int) (b0 : Bool) (k : Int) (s : ByteArray) (dt : Cel) (FG FH : Nat → Cel) : Prop where
  pen : PenAt wx bp r0 c0 b0 k s
  dot : CelAt wx bd dt
  grid : GridAt wx g t cap R C FG
  copy : GridAt wx h u ch R C FH
  row : CellsAt wx tc n (textF s)
  kept : Kept0 w wx
  o1 : w.heap.size ≤ bp ∧ w.heap.size ≤ t ∧ w.heap.size ≤ u
  o2 : t ≠ bp ∧ t ≠ bd ∧ t ≠ h ∧ t ≠ u ∧ t ≠ tc
  o3 : u ≠ bp ∧ u ≠ bd ∧ u ≠ g ∧ u ≠ t ∧ u ≠ tc
section
variable {w wx wy : World} {bp bd g t cap h u ch R C tc n : Nat} {r0 c0 : Int} {b0 : Bool} {k : Int} {s : ByteArray} {dt : Cel} {FG FH F : Nat → Cel}
theorem Js.keep (j : Js w wx bp bd g t cap h u ch R C tc n r0 c0 b0 k s dt FG FH) (kk : Kept0 wx wy) : Js w wy bp bd g t cap h u ch R C tc n r0 c0 b0 k s dt FG FH :=
  ⟨j.pen.kept kk (fun e => e), j.dot.kept kk (fun e => e), j.grid.kept kk (fun e => e) (fun e => e), j.copy.kept kk (fun e => e) (fun e => e), j.row.kept kk (fun e => e), j.kept.trans kk, j.o1, j.o2, j.o3⟩
theorem Js.onG (j : Js w wx bp bd g t cap h u ch R C tc n r0 c0 b0 k s dt FG FH) (kk : Kept (· = t) wx wy) (hg : GridAt wy g t cap R C F) : Js w wy bp bd g t cap h u ch R C tc n r0 c0 b0 k s dt F FH := by
  obtain ⟨p1, p2, p3⟩ := j.o1
  obtain ⟨q1, q2, q3, q4, q5⟩ := j.o2
  exact ⟨j.pen.kept kk (by omega), j.dot.kept kk (by omega), hg, j.copy.kept kk (by omega) (by omega), j.row.kept kk (by omega), j.kept.later kk (fun i hi e => by omega), j.o1, j.o2, j.o3⟩
theorem Js.onH (j : Js w wx bp bd g t cap h u ch R C tc n r0 c0 b0 k s dt FG FH) (kk : Kept (· = u) wx wy) (hg : GridAt wy h u ch R C F) : Js w wy bp bd g t cap h u ch R C tc n r0 c0 b0 k s dt FG F := by
  obtain ⟨p1, p2, p3⟩ := j.o1
  obtain ⟨q1, q2, q3, q4, q5⟩ := j.o3
  exact ⟨j.pen.kept kk (by omega), j.dot.kept kk (by omega), j.grid.kept kk (by omega) (by omega), hg, j.row.kept kk (by omega), j.kept.later kk (fun i hi e => by omega), j.o1, j.o2, j.o3⟩
theorem Js.apart {q : Nat} (j : Js w wx bp bd g t cap h u ch R C tc n r0 c0 b0 k s dt FG FH) (kk : Kept (· = q) wx wy) (hq : bp < q ∧ bd < q ∧ g < q ∧ t < q ∧ h < q ∧ u < q ∧ tc < q) : Js w wy bp bd g t cap h u ch R C tc n r0 c0 b0 k s dt FG FH := by
  obtain ⟨p1, p2, p3⟩ := j.o1
  exact ⟨j.pen.kept kk (by omega), j.dot.kept kk (by omega), j.grid.kept kk (by omega) (by omega), j.copy.kept kk (by omega) (by omega), j.row.kept kk (by omega), j.kept.later kk (fun i hi e => by omega), j.o1, j.o2, j.o3⟩
end

structure Box (p : Prop) : Prop where
  out : p
theorem calm_skip {P : Program} {ops : Array Oper} {C : World → Prop} {Q : Act → Prop} {a : Act} {o : Oper} {rest : List Oper} (hw : Region.wanted o (yielded ops a.tmps) = false)
    (hk : wpQuiet P ops C Q rest (a.put o.dst undef)) : wpQuiet P ops C Q (o :: rest) a :=
  wpQuiet_step fun K hK => by rw [if_neg (by rw [hw]; simp)]; exact hK _ hk
theorem boxed_op {P : Program} {ops : Array Oper} {C : World → Prop} {Q : Act → Prop} {a : Act} {o : Oper} {rest : List Oper} (v : Value) (hw : Region.wanted o (yielded ops a.tmps) = true)
    (h : ∀ w, C w → o.quietAt P a C w v) (hk : Box (wpQuiet P ops C Q rest (a.put o.dst v))) : Box (wpQuiet P ops C Q (o :: rest) a) := ⟨calm_op v hw h hk.out⟩
theorem boxed_skip {P : Program} {ops : Array Oper} {C : World → Prop} {Q : Act → Prop} {a : Act} {o : Oper} {rest : List Oper} (hw : Region.wanted o (yielded ops a.tmps) = false)
    (hk : Box (wpQuiet P ops C Q rest (a.put o.dst undef))) : Box (wpQuiet P ops C Q (o :: rest) a) := ⟨calm_skip hw hk.out⟩
theorem boxed_end {P : Program} {ops : Array Oper} {C : World → Prop} {Q : Act → Prop} {a : Act} (h : Q a) : Box (wpQuiet P ops C Q [] a) := ⟨wpQuiet_nil h⟩
theorem wp_boxed {P : Program} {id : Nat} {Q : Exit → Act → World → Prop} {a : Act} {w : World} {ops : List Oper} (C : World → Prop) (hC : C w.drew) (hm : P.follows .mixedOrders = true) (hB : Region.lexB .any ops.toArray = true)
    (h : Box (wpQuiet P ops.toArray C (fun a' => ∀ w', C w' → Q .normal a' w') ops a)) : (Code.region id ops.toArray true).wp P Q a w := wp_calm C hC hm hB h.out

set_option maxHeartbeats 8000000 in
set_option maxRecDepth 100000 in
theorem joins_calls (a : Option Addr) (cap0 : Nat) (C0 : Int) (l : List ByteArray) (r c k : Int) (b : Bool) (s : ByteArray) (cut : Int) (w : World) (hl : StrsIn w a l) (hL : l.length ≤ 9223372036854775807) (hsz : s.size ≤ maxLen) :
    Calls Try.prog 6 #[.agg #[.slice a l.length cap0, .int .i64 C0], penV r c b k s, .int .i64 cut] w fun e w' => e = .returned (.bool true) ∧ Below w.heap.size w w' := by
  have HAW : Hid (∀ w', Calls Try.prog 10 #[] w' fun e w'' => e = .returned (.bool true) ∧ Kept0 w' w'') := fun w' => awake_any w'
  have HC : Hid (∀ (b : Int) (w : World), 0 ≤ b → b ≤ 255 → Calls Try.prog 12 #[.int .u8 b] w fun e w' => e = .returned (celB b).v ∧ Kept0 w w') := fun b w => cellL b w
  have HFW : Hid (∀ w', Calls Try.prog 9 #[.agg #[.slice a l.length cap0, .int .i64 C0], penV r c b k s] w' fun e w'' => e = .returned (.bool (fewP l.length C0 s.size)) ∧ Kept0 w' w'') := fun w' => fewP_any a l.length cap0 C0 r c k b s w' hL
  unfold maxLen at hsz
  obtain ⟨W, hW⟩ : ∃ W, W = (w.alloc (.cells #[.slice a l.length cap0, .int .i64 C0] 24)).alloc (.cells #[.int .i64 r, .int .i64 c, .bool b, .int .i64 k, .string s] 28) := ⟨_, rfl⟩
  have k0 : Kept0 w W := by rw [hW]; exact ((Kept.refl _ w).alloc _).alloc _
  have hbo : Hid (W.cell? ⟨w.heap.size, 0, none⟩ = some (.slice a l.length cap0) ∧ W.cell? ⟨w.heap.size, 1, none⟩ = some (.int .i64 C0)) := by rw [hW]; exact ⟨by simp [go_sem], by simp [go_sem]⟩
  have hp : PenAt W (w.heap.size + 1) r c b k s := by rw [hW]; constructor <;> simp [go_sem]
  by_cases hbad : fewP l.length C0 s.size = true ∧ 0 ≤ cut ∧ cut ≤ s.size
  case neg =>
    obtain ⟨B, hB⟩ : ∃ B, B = fewP l.length C0 s.size := ⟨_, rfl⟩
    rw [← hB] at HFW hbad
    clear hB
    have hbad' : Hid (B = false ∨ B = true ∧ decide (cut < 0) = true ∨ B = true ∧ decide (cut < 0) = false ∧ decide ((s.size : Int) < cut) = true) := by
      show _ ∨ _
      cases B
      · exact .inl rfl
      · simp only [true_and, decide_eq_true_eq, decide_eq_false_iff_not, false_or, reduceCtorEq] at hbad ⊢
        omega
    clear hbad hbo
    rcases hbad'.out with rfl | ⟨rfl, d1⟩ | ⟨rfl, d1, d2⟩
    all_goals
      clear hbad'
      go_enter Try.func6, Try.ntmps6
      go_wp2_with fail
      rw [← hW]
      refine (HFW.out _).mono ?_
      rintro e w1 ⟨rfl, hk1⟩
      obtain ⟨q0, q1, q2, q3, q4⟩ := hp.kept hk1 (fun e => e)
      go_wp2_with fail
      refine (HAW.out _).mono ?_
      rintro e w2 ⟨rfl, hk2⟩
      go_wp2_with fail
      go_ret
      exact ⟨rfl, Kept0.below ((k0.trans hk1).trans hk2)⟩
  obtain ⟨hfew, hc1, hc2⟩ := hbad
  rw [hfew] at HFW
  obtain ⟨f1, f2, f3, f4, f5⟩ := few_yes hfew
  obtain ⟨C, rfl⟩ := Int.eq_ofNat_of_zero_le (show 0 ≤ C0 by omega)
  obtain ⟨q, rfl⟩ := Int.eq_ofNat_of_zero_le hc1
  have hqn : q ≤ s.size := by omega
  clear hfew hc1 hc2
  have HS := Lib.hid hl
  clear hl
  have d1 : decide ((q : Int) < 0) = false := by simp
  have d2 : decide ((s.size : Int) < (q : Int)) = false := by simp; omega
  go_enter Try.func6, Try.ntmps6
  go_wp2_with fail
  rw [← hW]
  clear hW
  refine (HFW.out _).mono ?_
  rintro e w1 ⟨rfl, hk1⟩
  have k1 := k0.trans hk1
  have c0 := kcell hk1 hbo.out.1
  have c1 := kcell hk1 hbo.out.2
  have hp1 := Lib.hid (hp.kept hk1 (fun e => e))
  have p4 := hp1.out.c4
  clear k0 hk1 hbo hp HFW
  go_wp2_with fail
  clear p4
  refine (made_any a cap0 C l w1 (HS.out.kept0 k1) f1 f2 (by omega) (by omega)).mono ?_
  rintro e w2 ⟨g, t, cap, gq, tq, capq, rfl, g1, g2, _, _, _, _, _, _, hG, _, hk2⟩
  have c0' := kcell hk2 c0
  have c1' := kcell hk2 c1
  have hp2 := Lib.hid (hp1.out.kept hk2 (fun e => e))
  have k2 := k1.trans hk2
  have lp1 := hp1.out.lt
  have lg := hG.lt
  have lt := hG.row.lt
  clear c0 c1 hp1 hk2 k1
  have HG2 := Lib.hid hG
  clear hG
  go_wp2_with fail
  refine (made_any a cap0 C l w2 (HS.out.kept0 k2) f1 f2 (by omega) (by omega)).mono ?_
  rintro e w3 ⟨h, u, ch, gq, tq, capq, rfl, g3, g4, _, _, _, _, _, _, hH, _, hk3⟩
  have hp3 := Lib.hid (hp2.out.kept hk3 (fun e => e))
  have HG3 := Lib.hid (HG2.out.kept hk3 (fun e => e) (fun e => e))
  have k3 := k2.trans hk3
  have lh := hH.lt
  have lu := hH.row.lt
  have HH3 := Lib.hid hH
  have hsz3 := hk3.size
  clear c0' c1' hp2 hk3 k2 hH HG2 HS
  generalize boardF C l = F at *
  generalize l.length = R at *
  go_wp2_with fail
  refine (HC.out _ _ (by omega) (by omega)).mono ?_
  rintro e w4 ⟨rfl, hk4⟩
  obtain ⟨dt, hdt⟩ : ∃ dt, dt = celB 46 := ⟨_, rfl⟩
  rw [← hdt]
  clear hdt
  have l4 := hk4.size
  have hp4 := Lib.hid (hp3.out.kept hk4 (fun e => e))
  have q4 := hp4.out.c4
  have hq4 := hp4.out.lt
  obtain ⟨V, hV⟩ : ∃ V, V = w4.alloc (.cells #[.int .i32 dt.g, .int .i64 dt.a, .bool dt.b, .int .i64 dt.m] 36) := ⟨_, rfl⟩
  have kV : Kept0 w4 V := by rw [hV]; exact (Kept.refl _ w4).alloc _
  have hd : CelAt V w4.heap.size dt := by rw [hV]; exact CelAt.new w4 dt 36
  have hd0 : CellsAt V w4.heap.size 0 (textF s) := ⟨_, by rw [hV]; exact heap_new w4 _, fun k hk => by omega⟩
  go_wp2_with fail
  rw [← hV]
  clear hV q4
  refine (cells_any s V f5).mono ?_
  rintro e w5 ⟨v, rfl, hown, hk5⟩
  obtain ⟨al, cp, tc, rfl, hcp, hal, htc, hrow⟩ := cells_of_owned0 hown (hd0.kept hk5 (fun e => e))
  have kk5 := (hk4.trans kV).trans hk5
  have lV := kV.size
  have hsV : V.heap.size = V.heap.size := rfl
  have HJ : Hid (Js w w5 (w.heap.size + 1) w4.heap.size g t cap h u ch R C tc s.size r c b k s dt F F) :=
    ⟨hp3.out.kept kk5 (fun e => e), hd.kept hk5 (fun e => e), HG3.out.kept kk5 (fun e => e) (fun e => e), HH3.out.kept kk5 (fun e => e) (fun e => e), hrow, k3.trans kk5, ⟨by omega, by omega, by omega⟩,
      ⟨by omega, by omega, by omega, by omega, by omega⟩, ⟨by omega, by omega, by omega, by omega, by omega⟩⟩
  clear hown hk5 hd0 hd kV hk4 hp3 hp4 HG3 HH3 k3 kk5 hrow hsV
  have hnotc : tc ≠ t ∧ tc ≠ u := ⟨fun e => HJ.out.o2.2.2.2.2 e.symm, fun e => HJ.out.o3.2.2.2.2 e.symm⟩
  generalize w4.heap.size = bd at *
  have hsl1 := slice_to al s.size cp q tc hqn hcp hal
  obtain ⟨al2, hsl2, hal2⟩ := slice_from al s.size cp q tc hqn hcp hal
  have HA1 : Hid (s.size = 0 ∨ al = some ⟨tc, 0 * 4, none⟩) := by
    show _ ∨ _
    rcases hal with ⟨e, _, _⟩ | e
    · exact .inl e
    · exact .inr e
  have HA1q : Hid (q = 0 ∨ al = some ⟨tc, 0 * 4, none⟩) := by
    show _ ∨ _
    rcases hal with ⟨e, _, _⟩ | e
    · exact .inl (by omega)
    · exact .inr e
  have HA2 := Lib.hid hal2
  obtain ⟨S1, hS1⟩ : ∃ S1, S1 = putsN R C k dt (textF s) 0 s.size ⟨r, c, b, 0, F⟩ := ⟨_, rfl⟩
  obtain ⟨S2, hS2⟩ : ∃ S2, S2 = putsN R C k dt (textF s) 0 q ⟨r, c, b, 0, F⟩ := ⟨_, rfl⟩
  obtain ⟨S3, hS3⟩ : ∃ S3, S3 = putsN R C k dt (textF s) q (s.size - q) ⟨S2.r, S2.c, S2.b, 0, S2.f⟩ := ⟨_, rfl⟩
  obtain ⟨m1, m2, m3, m4, m5⟩ := puts_two R C k dt (textF s) q s.size hqn r c b F S1 S2 S3 hS1 hS2 hS3
  have HT1 : Hid (∀ w', GridAt w' g t cap R C F → CellsAt w' tc s.size (textF s) → Calls Try.prog 28 #[.pointer (some ⟨g, 0, none⟩), place r c b, .slice al s.size cp, .int .i64 k, dt.v] w' fun e w'' => e = .returned (.tuple #[place S1.r S1.c S1.b, .int .i64 S1.n, .int .i64 0]) ∧ GridAt w'' g t cap R C S1.f ∧ Kept (· = t) w' w'') := by
    intro w' h1 h2
    rw [hS1]
    exact text_any g t cap R C F r c k b al tc 0 s.size cp (textF s) dt w' h1 (by omega) HA1.out (by rw [Nat.zero_add]; exact h2) hnotc.1
  have HT2 : Hid (∀ w', GridAt w' h u ch R C F → CellsAt w' tc s.size (textF s) → Calls Try.prog 28 #[.pointer (some ⟨h, 0, none⟩), place r c b, .slice al q cp, .int .i64 k, dt.v] w' fun e w'' => e = .returned (.tuple #[place S2.r S2.c S2.b, .int .i64 S2.n, .int .i64 0]) ∧ GridAt w'' h u ch R C S2.f ∧ Kept (· = u) w' w'') := by
    intro w' h1 h2
    rw [hS2]
    exact text_any h u ch R C F r c k b al tc 0 q cp (textF s) dt w' h1 (by omega) HA1q.out (by rw [Nat.zero_add]; exact h2.less hqn) hnotc.2
  have HT3 : Hid (∀ w', GridAt w' h u ch R C S2.f → CellsAt w' tc s.size (textF s) → Calls Try.prog 28 #[.pointer (some ⟨h, 0, none⟩), place S2.r S2.c S2.b, .slice al2 (s.size - q) (cp - q), .int .i64 k, dt.v] w' fun e w'' => e = .returned (.tuple #[place S3.r S3.c S3.b, .int .i64 S3.n, .int .i64 0]) ∧ GridAt w'' h u ch R C S3.f ∧ Kept (· = u) w' w'') := by
    intro w' h1 h2
    rw [hS3]
    exact text_any h u ch R C S2.f S2.r S2.c k S2.b al2 tc q (s.size - q) (cp - q) (textF s) dt w' h1 (by omega) HA2.out (by rw [show q + (s.size - q) = s.size by omega]; exact h2) hnotc.2
  have n1 := putsN_n R C k dt (textF s) 0 ⟨r, c, b, 0, F⟩ s.size
  have n2 := putsN_n R C k dt (textF s) 0 ⟨r, c, b, 0, F⟩ q
  have n3 := putsN_n R C k dt (textF s) q ⟨S2.r, S2.c, S2.b, 0, S2.f⟩ (s.size - q)
  rw [← hS1] at n1
  rw [← hS2] at n2
  rw [← hS3] at n3
  simp only at n1 n2 n3
  have hwr : IntKind.i64.wrap (S2.n + S3.n) = S2.n + S3.n := IntWalk.i64_in _ ⟨by omega, by omega⟩
  have HCL : Hid (k = 1 → b = false → S1.n = 0) := fun h1 h2 => by
    subst h1
    subst h2
    rw [hS1]
    exact (puts_clamp R C dt (textF s) 0 r c F s.size).2
  have HZ : Hid (s.size = 0 → S1.r = r ∧ S1.c = c ∧ S1.b = b ∧ S1.n = 0) := fun h0 => by
    rw [hS1, h0]
    exact ⟨rfl, rfl, rfl, rfl⟩
  obtain ⟨r1, c1, b1, y1, F1⟩ := S1
  obtain ⟨r2, c2, b2, y2, F2⟩ := S2
  obtain ⟨r3, c3, b3, y3, F3⟩ := S3
  simp only at HT1 HT2 HT3 m1 m2 m3 m4 m5 n1 n2 n3 hwr HCL HZ
  subst m1
  subst m2
  subst m3
  subst m4
  have hwr' : IntKind.i64.wrap (y2 + y3) = y1 := by omega
  have HWR := Lib.hid hwr'
  clear hS1 hS2 hS3 hwr hwr' m5 HA1 HA1q HA2 hal hal2 htc
  have HN1 : Hid (y1 ≤ 2 * (s.size : Int)) := by show _ ≤ _; omega
  have HPL : Hid (∀ w', Calls Try.prog 13 #[penV r c b k s] w' fun e w'' => e = .returned (place r c b) ∧ Kept0 w' w'') := fun w' => place_any r c k b s w'
  have lq := HJ.out.pen.lt
  have ldd := World.block_lt_of_cell? w5 _ HJ.out.dot.c0
  have hu5 := HJ.out.copy.row.lt
  go_upto_region 9 with fail
  go_cut [13, 14, 15] from 59 to 69 (fun s13 s14 s15 wx => ∃ b13 : Nat, s13 = .pointer (some ⟨b13, 0, none⟩) ∧ s14 = .int .i64 y1 ∧ s15 = .int .i64 0 ∧ w5.heap.size ≤ b13 ∧ Hid (Three wx b13 r1 c1 b1) ∧ Hid (Js w wx (w.heap.size + 1) bd g t cap h u ch R C tc s.size r c b k s dt F1 F))
  case first =>
    clear HT2 HT3 hsl1 hsl2 HC HAW
    obtain ⟨q0, q1, q2, q3, q4⟩ := HJ.out.pen
    obtain ⟨e0, e1, e2, e3⟩ := HJ.out.dot
    have n1 : ¬ w.heap.size + 1 = w5.heap.size := by omega
    have n2 : ¬ w5.heap.size = w.heap.size + 1 := by omega
    have n3 : ¬ bd = w5.heap.size := by omega
    have n4 : ¬ w5.heap.size = bd := by omega
    go_region_held3 (fun w' => w'.cell? ⟨w.heap.size + 1, 0, none⟩ = some (.int .i64 r) ∧ w'.cell? ⟨w.heap.size + 1, 1, none⟩ = some (.int .i64 c) ∧ w'.cell? ⟨w.heap.size + 1, 2, none⟩ = some (.bool b) ∧ w'.cell? ⟨w.heap.size + 1, 3, none⟩ = some (.int .i64 k) ∧ w'.cell? ⟨w.heap.size + 1, 4, none⟩ = some (.string s) ∧ w'.cell? ⟨bd, 0, none⟩ = some (.int .i32 dt.g) ∧ w'.cell? ⟨bd, 1, none⟩ = some (.int .i64 dt.a) ∧ w'.cell? ⟨bd, 2, none⟩ = some (.bool dt.b) ∧ w'.cell? ⟨bd, 3, none⟩ = some (.int .i64 dt.m)) (go_keep)
      (first
        | (go_at_call 28
           refine (HT1.out _ (HJ.out.grid.kept (by first | exact kz3.out | exact kz3.out.alloc _) (fun e => e) (fun e => e)) (HJ.out.row.kept (by first | exact kz3.out | exact kz3.out.alloc _) (fun e => e))).mono ?_
           rintro e z4 ⟨rfl, hG4, hk4⟩
           have kz4 : Hid (Kept (· = t) w5 z4) := (by first | exact (Kept0.to kz3.out).trans hk4 | exact (Kept0.to (kz3.out.alloc _)).trans hk4)
           have ls4 := kz4.out.size
           have lo := HJ.out.o2
           have x1 : ¬ w.heap.size + 1 = z4.heap.size := (by omega)
           have x2 : ¬ z4.heap.size = w.heap.size + 1 := (by omega)
           have x3 : ¬ bd = z4.heap.size := (by omega)
           have x4 : ¬ z4.heap.size = bd := (by omega)
           obtain ⟨v0, v1, v2, v3, v4⟩ := HJ.out.pen.kept kz4.out (by omega)
           obtain ⟨t0, t1, t2, t3⟩ := HJ.out.dot.kept kz4.out (by omega)
           have ls3 := kz3.out.size
           try (have hn8 := (three_newN z3 39).kept hk4 (by omega); obtain ⟨a0, a1, a2, a3, a4, a5⟩ := hn8)
           try (have hn7 := (Three.mk a0 a1 a2 a3 a4 a5).kept hk4 (by omega); obtain ⟨a0, a1, a2, a3, a4, a5⟩ := hn7))
        | (go_at_call 13
           refine (HPL.out _).mono ?_
           rintro e z3 ⟨rfl, hk3⟩
           have kz3 : Hid (Kept0 w5 z3) := (by first | exact (Kept.refl _ w5).drew.trans hk3 | exact ((Kept.refl _ w5).alloc _).drew.trans hk3)
           have ls3 := kz3.out.size
           have x1 : ¬ w.heap.size + 1 = z3.heap.size := (by omega)
           have x2 : ¬ z3.heap.size = w.heap.size + 1 := (by omega)
           have x3 : ¬ bd = z3.heap.size := (by omega)
           have x4 : ¬ z3.heap.size = bd := (by omega)
           obtain ⟨v0, v1, v2, v3, v4⟩ := HJ.out.pen.kept kz3.out (fun e => e)
           obtain ⟨t0, t1, t2, t3⟩ := HJ.out.dot.kept kz3.out (fun e => e)
           try (have hn8 := (three_newD w5 39).kept0 hk3; obtain ⟨a0, a1, a2, a3, a4, a5⟩ := hn8)))
    all_goals
      have lob := HJ.out.grid.row.lt
      first
        | (obtain ⟨b10, hb9⟩ : ∃ b10, b10 = z4.heap.size := ⟨_, rfl⟩
           obtain ⟨V9, hW9⟩ : ∃ V9, V9 = z4.alloc (.cells #[.int .i64 r1, .int .i64 c1, .bool b1] 39) := ⟨_, rfl⟩
           rw [← hW9, ← hb9]
           have hT9 : Three V9 b10 r1 c1 b1 := by rw [hW9, hb9]; exact Three.of (heap_new z4 _)
           have k49 : Kept (· = b10) z4 V9 := by rw [hW9, hb9]; exact (Kept.refl _ z4).alloc _
           have hle9 : w5.heap.size ≤ b10 := by rw [hb9]; exact kz4.out.size
           clear hW9 hb9)
        | (obtain ⟨b10, hb9⟩ : ∃ b10, b10 = z3.heap.size := ⟨_, rfl⟩
           obtain ⟨V9, hW9⟩ : ∃ V9, V9 = ((z4.setCell ⟨z3.heap.size, 0, none⟩ (.int .i64 r1)).setCell ⟨z3.heap.size, 1, none⟩ (.int .i64 c1)).setCell ⟨z3.heap.size, 2, none⟩ (.bool b1) := ⟨_, rfl⟩
           rw [← hW9, ← hb9]
           have hT9 : Three V9 b10 r1 c1 b1 := by rw [hW9, hb9]; exact Three.set ⟨a0, a1, a2, a3, a4, a5⟩ r1 c1 b1
           have k49 : Kept (· = b10) z4 V9 := by rw [hW9, hb9]; exact ((Kept.set1 z4 z3.heap.size 0 _).trans (Kept.set1 _ z3.heap.size 1 _)).trans (Kept.set1 _ z3.heap.size 2 _)
           have hle9 : w5.heap.size ≤ b10 := by rw [hb9]; exact kz3.out.size
           clear hW9 hb9)
        | (obtain ⟨b10, hb9⟩ : ∃ b10, b10 = w5.heap.size := ⟨_, rfl⟩
           obtain ⟨V9, hW9⟩ : ∃ V9, V9 = ((z4.setCell ⟨w5.heap.size, 0, none⟩ (.int .i64 r1)).setCell ⟨w5.heap.size, 1, none⟩ (.int .i64 c1)).setCell ⟨w5.heap.size, 2, none⟩ (.bool b1) := ⟨_, rfl⟩
           rw [← hW9, ← hb9]
           have hT9 : Three V9 b10 r1 c1 b1 := by rw [hW9, hb9]; exact Three.set ⟨a0, a1, a2, a3, a4, a5⟩ r1 c1 b1
           have k49 : Kept (· = b10) z4 V9 := by rw [hW9, hb9]; exact ((Kept.set1 z4 w5.heap.size 0 _).trans (Kept.set1 _ w5.heap.size 1 _)).trans (Kept.set1 _ w5.heap.size 2 _)
           have hle9 : w5.heap.size ≤ b10 := by rw [hb9]; exact Nat.le_refl _
           clear hW9 hb9)
      have HF := Lib.hid ((HJ.out.onG kz4.out hG4).apart k49 (by have j1 := HJ.out.grid.lt; have j2 := HJ.out.copy.lt; have j3 := HJ.out.copy.row.lt; have j4 := HJ.out.row.lt; omega))
      go_wp2_with fail
      go_meet
      exact ⟨b10, rfl, rfl, rfl, by omega, hT9, HF⟩
  case rest =>
  clear HJ HT1
  obtain ⟨b13, rfl, rfl, rfl, hb13, HT13, HJ⟩ := hcut
  clear n1 n2 n3 ldd lq
  generalize wc = wA at *
  clear wc
  have lq := HJ.out.pen.lt
  have ldd : bd < wA.heap.size := World.block_lt_of_cell? wA _ HJ.out.dot.c0
  have l13 := HT13.out.lt
  go_upto_region 10 with fail
  go_cut [16, 17, 18] from 70 to 83 (fun s16 s17 s18 wx => ∃ b16 : Nat, s16 = .pointer (some ⟨b16, 0, none⟩) ∧ s17 = .int .i64 y2 ∧ s18 = .int .i64 0 ∧ wA.heap.size ≤ b16 ∧ Hid (Three wx b13 r1 c1 b1) ∧ Hid (Three wx b16 r2 c2 b2) ∧ Hid (Js w wx (w.heap.size + 1) bd g t cap h u ch R C tc s.size r c b k s dt F1 F2))
  case first =>
    clear HT3 HC HAW hsl2
    obtain ⟨q0, q1, q2, q3, q4⟩ := HJ.out.pen
    obtain ⟨e0, e1, e2, e3⟩ := HJ.out.dot
    have n1 : ¬ w.heap.size + 1 = wA.heap.size := by omega
    have n2 : ¬ wA.heap.size = w.heap.size + 1 := by omega
    have n3 : ¬ bd = wA.heap.size := by omega
    have n4 : ¬ wA.heap.size = bd := by omega
    go_region_held3 (fun w' => w'.cell? ⟨w.heap.size + 1, 0, none⟩ = some (.int .i64 r) ∧ w'.cell? ⟨w.heap.size + 1, 1, none⟩ = some (.int .i64 c) ∧ w'.cell? ⟨w.heap.size + 1, 2, none⟩ = some (.bool b) ∧ w'.cell? ⟨w.heap.size + 1, 3, none⟩ = some (.int .i64 k) ∧ w'.cell? ⟨w.heap.size + 1, 4, none⟩ = some (.string s) ∧ w'.cell? ⟨bd, 0, none⟩ = some (.int .i32 dt.g) ∧ w'.cell? ⟨bd, 1, none⟩ = some (.int .i64 dt.a) ∧ w'.cell? ⟨bd, 2, none⟩ = some (.bool dt.b) ∧ w'.cell? ⟨bd, 3, none⟩ = some (.int .i64 dt.m)) (go_keep)
      (first
        | (go_at_call 28
           refine (HT2.out _ (HJ.out.copy.kept (by first | exact kz3.out | exact kz3.out.alloc _) (fun e => e) (fun e => e)) (HJ.out.row.kept (by first | exact kz3.out | exact kz3.out.alloc _) (fun e => e))).mono ?_
           rintro e z4 ⟨rfl, hG4, hk4⟩
           have kz4 : Hid (Kept (· = u) wA z4) := (by first | exact (Kept0.to kz3.out).trans hk4 | exact (Kept0.to (kz3.out.alloc _)).trans hk4)
           have ls4 := kz4.out.size
           have lo := HJ.out.o3
           have x1 : ¬ w.heap.size + 1 = z4.heap.size := (by omega)
           have x2 : ¬ z4.heap.size = w.heap.size + 1 := (by omega)
           have x3 : ¬ bd = z4.heap.size := (by omega)
           have x4 : ¬ z4.heap.size = bd := (by omega)
           obtain ⟨v0, v1, v2, v3, v4⟩ := HJ.out.pen.kept kz4.out (by omega)
           obtain ⟨t0, t1, t2, t3⟩ := HJ.out.dot.kept kz4.out (by omega)
           have ls3 := kz3.out.size
           have lu9 := HJ.out.copy.row.lt
           try (have hn8 := (three_newN z3 39).kept hk4 (by omega); obtain ⟨a0, a1, a2, a3, a4, a5⟩ := hn8)
           try (have hn7 := (Three.mk a0 a1 a2 a3 a4 a5).kept hk4 (by omega); obtain ⟨a0, a1, a2, a3, a4, a5⟩ := hn7))
        | (go_at_call 13
           refine (HPL.out _).mono ?_
           rintro e z3 ⟨rfl, hk3⟩
           have kz3 : Hid (Kept0 wA z3) := (by first | exact (Kept.refl _ wA).drew.trans hk3 | exact ((Kept.refl _ wA).alloc _).drew.trans hk3)
           have ls3 := kz3.out.size
           have x1 : ¬ w.heap.size + 1 = z3.heap.size := (by omega)
           have x2 : ¬ z3.heap.size = w.heap.size + 1 := (by omega)
           have x3 : ¬ bd = z3.heap.size := (by omega)
           have x4 : ¬ z3.heap.size = bd := (by omega)
           obtain ⟨v0, v1, v2, v3, v4⟩ := HJ.out.pen.kept kz3.out (fun e => e)
           obtain ⟨t0, t1, t2, t3⟩ := HJ.out.dot.kept kz3.out (fun e => e)
           try (have hn8 := (three_newD wA 39).kept0 hk3; obtain ⟨a0, a1, a2, a3, a4, a5⟩ := hn8)))
    all_goals
      have lob := HJ.out.copy.row.lt
      have lo := HJ.out.o3
      have lq3 := HJ.out.o2
      first
        | (obtain ⟨b10, hb9⟩ : ∃ b10, b10 = z4.heap.size := ⟨_, rfl⟩
           obtain ⟨V9, hW9⟩ : ∃ V9, V9 = z4.alloc (.cells #[.int .i64 r2, .int .i64 c2, .bool b2] 39) := ⟨_, rfl⟩
           rw [← hW9, ← hb9]
           have hT9 : Three V9 b10 r2 c2 b2 := by rw [hW9, hb9]; exact Three.of (heap_new z4 _)
           have k49 : Kept (· = b10) z4 V9 := by rw [hW9, hb9]; exact (Kept.refl _ z4).alloc _
           have hle9 : wA.heap.size ≤ b10 := by rw [hb9]; exact kz4.out.size
           clear hW9 hb9)
        | (obtain ⟨b10, hb9⟩ : ∃ b10, b10 = z3.heap.size := ⟨_, rfl⟩
           obtain ⟨V9, hW9⟩ : ∃ V9, V9 = ((z4.setCell ⟨z3.heap.size, 0, none⟩ (.int .i64 r2)).setCell ⟨z3.heap.size, 1, none⟩ (.int .i64 c2)).setCell ⟨z3.heap.size, 2, none⟩ (.bool b2) := ⟨_, rfl⟩
           rw [← hW9, ← hb9]
           have hT9 : Three V9 b10 r2 c2 b2 := by rw [hW9, hb9]; exact Three.set ⟨a0, a1, a2, a3, a4, a5⟩ r2 c2 b2
           have k49 : Kept (· = b10) z4 V9 := by rw [hW9, hb9]; exact ((Kept.set1 z4 z3.heap.size 0 _).trans (Kept.set1 _ z3.heap.size 1 _)).trans (Kept.set1 _ z3.heap.size 2 _)
           have hle9 : wA.heap.size ≤ b10 := by rw [hb9]; exact kz3.out.size
           clear hW9 hb9)
        | (obtain ⟨b10, hb9⟩ : ∃ b10, b10 = wA.heap.size := ⟨_, rfl⟩
           obtain ⟨V9, hW9⟩ : ∃ V9, V9 = ((z4.setCell ⟨wA.heap.size, 0, none⟩ (.int .i64 r2)).setCell ⟨wA.heap.size, 1, none⟩ (.int .i64 c2)).setCell ⟨wA.heap.size, 2, none⟩ (.bool b2) := ⟨_, rfl⟩
           rw [← hW9, ← hb9]
           have hT9 : Three V9 b10 r2 c2 b2 := by rw [hW9, hb9]; exact Three.set ⟨a0, a1, a2, a3, a4, a5⟩ r2 c2 b2
           have k49 : Kept (· = b10) z4 V9 := by rw [hW9, hb9]; exact ((Kept.set1 z4 wA.heap.size 0 _).trans (Kept.set1 _ wA.heap.size 1 _)).trans (Kept.set1 _ wA.heap.size 2 _)
           have hle9 : wA.heap.size ≤ b10 := by rw [hb9]; exact Nat.le_refl _
           clear hW9 hb9)
      have hu13 : ¬ b13 = u := by omega
      have HF := Lib.hid ((HJ.out.onH kz4.out hG4).apart k49 (by have j1 := HJ.out.grid.lt; have j2 := HJ.out.copy.lt; have j3 := HJ.out.grid.row.lt; have j4 := HJ.out.row.lt; omega))
      have HF3 := Lib.hid ((HT13.out.kept kz4.out hu13).kept k49 (by omega))
      go_wp2_with fail
      go_meet
      exact ⟨b10, rfl, rfl, rfl, by omega, HF3.out, hT9, HF⟩
  case rest =>
  clear HJ HT2 HT13 hsl1
  obtain ⟨b16, rfl, rfl, rfl, hb16, HT13, HT16, HJ⟩ := hcut
  generalize wc = wB at *
  clear wc
  have lq := HJ.out.pen.lt
  have ldd : bd < wB.heap.size := World.block_lt_of_cell? wB _ HJ.out.dot.c0
  have l13 := HT13.out.lt
  have l16 := HT16.out.lt
  have u13 : ¬ b13 = u := by omega
  have u16 : ¬ b16 = u := by have := HJ.out.copy.row.lt; omega
  go_upto_region 11 with fail
  go_cut [19, 20, 21] from 84 to 96 (fun s19 s20 s21 wx => ∃ b19 : Nat, s19 = .pointer (some ⟨b19, 0, none⟩) ∧ s20 = .int .i64 y3 ∧ s21 = .int .i64 0 ∧ Hid (Three wx b13 r1 c1 b1) ∧ Hid (Three wx b19 r1 c1 b1) ∧ Hid (Js w wx (w.heap.size + 1) bd g t cap h u ch R C tc s.size r c b k s dt F1 F1))
  case first =>
    clear HC HAW
    obtain ⟨q0, q1, q2, q3, q4⟩ := HJ.out.pen
    obtain ⟨e0, e1, e2, e3⟩ := HJ.out.dot
    obtain ⟨h0, h1, h2, h3, h4, h5⟩ := HT16.out
    have n1 : ¬ w.heap.size + 1 = wB.heap.size := by omega
    have n2 : ¬ wB.heap.size = w.heap.size + 1 := by omega
    have n3 : ¬ bd = wB.heap.size := by omega
    have n4 : ¬ wB.heap.size = bd := by omega
    have n5 : ¬ b16 = wB.heap.size := by omega
    have n6 : ¬ wB.heap.size = b16 := by omega
    go_region_held3 (fun w' => w'.cell? ⟨w.heap.size + 1, 3, none⟩ = some (.int .i64 k) ∧ w'.cell? ⟨bd, 0, none⟩ = some (.int .i32 dt.g) ∧ w'.cell? ⟨bd, 1, none⟩ = some (.int .i64 dt.a) ∧ w'.cell? ⟨bd, 2, none⟩ = some (.bool dt.b) ∧ w'.cell? ⟨bd, 3, none⟩ = some (.int .i64 dt.m) ∧ w'.cell? ⟨b16, 0, none⟩ = some (.int .i64 r2) ∧ w'.cell? ⟨b16, 1, none⟩ = some (.int .i64 c2) ∧ w'.cell? ⟨b16, 2, none⟩ = some (.bool b2)) (go_keep)
      (first
        | (go_at_call 28
           refine (HT3.out _ (HJ.out.copy.kept (by first | exact (Kept.refl (fun _ => False) wB).drew | exact ((Kept.refl (fun _ => False) wB).alloc _).drew) (fun e => e) (fun e => e)) (HJ.out.row.kept (by first | exact (Kept.refl (fun _ => False) wB).drew | exact ((Kept.refl (fun _ => False) wB).alloc _).drew) (fun e => e))).mono ?_
           rintro e z4 ⟨rfl, hG4, hk4⟩
           have kz4 : Hid (Kept (· = u) wB z4) := (by first | exact (Kept0.to ((Kept.refl (fun _ => False) wB).drew)).trans hk4 | exact (Kept0.to (((Kept.refl (fun _ => False) wB).alloc _).drew)).trans hk4)
           have ls4 := kz4.out.size
           have lo := HJ.out.o3
           have x1 : ¬ w.heap.size + 1 = z4.heap.size := (by omega)
           have x2 : ¬ z4.heap.size = w.heap.size + 1 := (by omega)
           have x3 : ¬ bd = z4.heap.size := (by omega)
           have x4 : ¬ z4.heap.size = bd := (by omega)
           have x5 : ¬ b16 = z4.heap.size := (by omega)
           have x6 : ¬ z4.heap.size = b16 := (by omega)
           have v3 := (HJ.out.pen.kept kz4.out (by omega)).c3
           obtain ⟨t0, t1, t2, t3⟩ := HJ.out.dot.kept kz4.out (by omega)
           obtain ⟨p0, p1, p2, p3, p4, p5⟩ := HT16.out.kept kz4.out u16
           have lu9 := HJ.out.copy.row.lt
           try (have hn8 := (three_newD wB 39).kept hk4 (by omega); obtain ⟨a0, a1, a2, a3, a4, a5⟩ := hn8)))
    all_goals
      have lob := HJ.out.copy.row.lt
      have lo := HJ.out.o3
      have lq3 := HJ.out.o2
      first
        | (obtain ⟨b10, hb9⟩ : ∃ b10, b10 = z4.heap.size := ⟨_, rfl⟩
           obtain ⟨V9, hW9⟩ : ∃ V9, V9 = z4.alloc (.cells #[.int .i64 r1, .int .i64 c1, .bool b1] 39) := ⟨_, rfl⟩
           rw [← hW9, ← hb9]
           have hT9 : Three V9 b10 r1 c1 b1 := by rw [hW9, hb9]; exact Three.of (heap_new z4 _)
           have k49 : Kept (· = b10) z4 V9 := by rw [hW9, hb9]; exact (Kept.refl _ z4).alloc _
           have hle9 : wB.heap.size ≤ b10 := by rw [hb9]; exact kz4.out.size
           clear hW9 hb9)
        | (obtain ⟨b10, hb9⟩ : ∃ b10, b10 = wB.heap.size := ⟨_, rfl⟩
           obtain ⟨V9, hW9⟩ : ∃ V9, V9 = ((z4.setCell ⟨wB.heap.size, 0, none⟩ (.int .i64 r1)).setCell ⟨wB.heap.size, 1, none⟩ (.int .i64 c1)).setCell ⟨wB.heap.size, 2, none⟩ (.bool b1) := ⟨_, rfl⟩
           rw [← hW9, ← hb9]
           have hT9 : Three V9 b10 r1 c1 b1 := by rw [hW9, hb9]; exact Three.set ⟨a0, a1, a2, a3, a4, a5⟩ r1 c1 b1
           have k49 : Kept (· = b10) z4 V9 := by rw [hW9, hb9]; exact ((Kept.set1 z4 wB.heap.size 0 _).trans (Kept.set1 _ wB.heap.size 1 _)).trans (Kept.set1 _ wB.heap.size 2 _)
           have hle9 : wB.heap.size ≤ b10 := by rw [hb9]; exact Nat.le_refl _
           clear hW9 hb9)
      have HF := Lib.hid ((HJ.out.onH kz4.out hG4).apart k49 (by have j1 := HJ.out.grid.lt; have j2 := HJ.out.copy.lt; have j3 := HJ.out.grid.row.lt; have j4 := HJ.out.row.lt; omega))
      have HF3 := Lib.hid ((HT13.out.kept kz4.out u13).kept k49 (by omega))
      go_wp2_with fail
      go_meet
      exact ⟨b10, rfl, rfl, rfl, HF3.out, hT9, HF⟩
  case rest =>
  clear HJ HT3 HT13 HT16 hsl2
  obtain ⟨b19, rfl, rfl, rfl, HT13, HT19, HJ⟩ := hcut
  generalize wc = wD at *
  clear wc
  have lq := HJ.out.pen.lt
  have l13 := HT13.out.lt
  have l19 := HT19.out.lt
  obtain ⟨p0, p1, p2, p3, p4, p5⟩ := HT13.out
  obtain ⟨z0, z1, z2, z3, z4, z5⟩ := HT19.out
  have hsp := same_place r1 c1 b1
  have hwr := HWR.out
  go_wp2_with fail
  refine (sameG_any _ g t cap h u ch R C F1 HJ.out.grid HJ.out.copy).mono ?_
  rintro e wE ⟨rfl, hkE⟩
  have HJE := Lib.hid (HJ.out.keep hkE)
  have HTE := Lib.hid (HT13.out.kept0 hkE)
  clear HJ HT13 HT19 p0 p1 p2 p3 p4 p5 z0 z1 z2 z3 z4 z5 hkE hwr
  go_upto_region 14 with fail
  go_cut [151] from 125 to 151 (fun s151 wx => s151 = .bool false ∧ Hid (Kept0 wE wx))
  case first =>
    clear HC HAW HN1 HWR
    have cases3 : Hid ((k = 1 ∧ b = false ∧ y1 = 0) ∨ (k = 1 ∧ b = true) ∨ ¬ k = 1) := by
      show _ ∨ _
      by_cases hk : k = 1
      · cases b
        · exact .inl ⟨hk, rfl, HCL.out hk rfl⟩
        · exact .inr (.inl ⟨hk, rfl⟩)
      · exact .inr (.inr hk)
    clear HCL
    by_cases h0 : s.size = 0
    · obtain ⟨x1, x2, x3, x4⟩ := HZ.out h0
      rw [x1, x2, x3] at HTE
      subst x4
      clear x1 x2 x3 HZ
      rcases cases3.out with ⟨rfl, rfl, _⟩ | ⟨rfl, rfl⟩ | hk
      all_goals
        clear cases3
        obtain ⟨p0, p1, p2, _, _, _⟩ := HTE.out
        obtain ⟨q0, q1, q2, q3, q4⟩ := HJE.out.pen
      · refine wp_boxed (fun w' => Kept0 wE w') ((Kept.refl _ wE).drewN 1) (by kernel_rfl) (by kernel_rfl) ?_
        refine boxed_op (.pointer (some ⟨w.heap.size + 1, 3, none⟩)) (by kernel_rfl) (fun w' hw' => by go_simp) ?_
        simp only [Act.put, List.setIfInBounds_toArray, List.set_cons_zero, List.set_cons_succ]
        refine boxed_op (.int .i64 1) (by kernel_rfl) (fun w' hw' => by have y0 := kcell hw' q3; go_simp) ?_
        simp only [Act.put, List.setIfInBounds_toArray, List.set_cons_zero, List.set_cons_succ]
        refine boxed_op (.bool true) (by kernel_rfl) (fun w' hw' => by go_simp) ?_
        simp only [Act.put, List.setIfInBounds_toArray, List.set_cons_zero, List.set_cons_succ]
        refine boxed_op (.bool true) (by kernel_rfl) (fun w' hw' => by go_simp) ?_
        simp only [Act.put, List.setIfInBounds_toArray, List.set_cons_zero, List.set_cons_succ]
        refine boxed_op (.pointer (some ⟨w.heap.size + 1, 2, none⟩)) (by kernel_rfl) (fun w' hw' => by go_simp) ?_
        simp only [Act.put, List.setIfInBounds_toArray, List.set_cons_zero, List.set_cons_succ]
        refine boxed_op (.bool false) (by kernel_rfl) (fun w' hw' => by have y0 := kcell hw' q2; go_simp) ?_
        simp only [Act.put, List.setIfInBounds_toArray, List.set_cons_zero, List.set_cons_succ]
        refine boxed_op (.bool true) (by kernel_rfl) (fun w' hw' => by go_simp) ?_
        simp only [Act.put, List.setIfInBounds_toArray, List.set_cons_zero, List.set_cons_succ]
        refine boxed_op (.bool true) (by kernel_rfl) (fun w' hw' => by go_simp) ?_
        simp only [Act.put, List.setIfInBounds_toArray, List.set_cons_zero, List.set_cons_succ]
        refine boxed_op (.bool true) (by kernel_rfl) (fun w' hw' => by go_simp) ?_
        simp only [Act.put, List.setIfInBounds_toArray, List.set_cons_zero, List.set_cons_succ]
        refine boxed_op (.int .i64 0) (by kernel_rfl) (fun w' hw' => by go_simp) ?_
        simp only [Act.put, List.setIfInBounds_toArray, List.set_cons_zero, List.set_cons_succ]
        refine boxed_op (.bool false) (by kernel_rfl) (fun w' hw' => by go_simp) ?_
        simp only [Act.put, List.setIfInBounds_toArray, List.set_cons_zero, List.set_cons_succ]
        refine boxed_op (.bool false) (by kernel_rfl) (fun w' hw' => by go_simp) ?_
        simp only [Act.put, List.setIfInBounds_toArray, List.set_cons_zero, List.set_cons_succ]
        refine boxed_op (.bool false) (by kernel_rfl) (fun w' hw' => by go_simp) ?_
        simp only [Act.put, List.setIfInBounds_toArray, List.set_cons_zero, List.set_cons_succ]
        refine boxed_op (.slice al s.size cp) (by kernel_rfl) (fun w' hw' => by go_simp) ?_
        simp only [Act.put, List.setIfInBounds_toArray, List.set_cons_zero, List.set_cons_succ]
        refine boxed_op (.int .i64 (s.size : Int)) (by kernel_rfl) (fun w' hw' => by go_simp) ?_
        simp only [Act.put, List.setIfInBounds_toArray, List.set_cons_zero, List.set_cons_succ]
        refine boxed_op (.bool true) (by kernel_rfl) (fun w' hw' => by go_simp) ?_
        simp only [Act.put, List.setIfInBounds_toArray, List.set_cons_zero, List.set_cons_succ]
        refine boxed_op (.bool true) (by kernel_rfl) (fun w' hw' => by go_simp) ?_
        simp only [Act.put, List.setIfInBounds_toArray, List.set_cons_zero, List.set_cons_succ]
        refine boxed_op (place r c false) (by kernel_rfl) (fun w' hw' => by have y0 := kcell hw' p0; have y1 := kcell hw' p1; have y2 := kcell hw' p2; go_simp) ?_
        simp only [Act.put, List.setIfInBounds_toArray, List.set_cons_zero, List.set_cons_succ]
        refine boxed_op (penV r c false 1 s) (by kernel_rfl) (fun w' hw' => by have y0 := kcell hw' q0; have y1 := kcell hw' q1; have y2 := kcell hw' q2; have y3 := kcell hw' q3; have y4 := kcell hw' q4; go_simp) ?_
        simp only [Act.put, List.setIfInBounds_toArray, List.set_cons_zero, List.set_cons_succ]
        refine boxed_op (place r c false) (by kernel_rfl) (fun w' hw' => ?_) ?_
        · go_simp
          exact (HPL.out w').mono fun e w5 ⟨h1, h2⟩ => ⟨h1, hw'.trans h2⟩
        simp only [Act.put, List.setIfInBounds_toArray, List.set_cons_zero, List.set_cons_succ]
        refine boxed_op (.bool false) (by kernel_rfl) (fun w' hw' => by have y := same_place r c false w'; go_simp) ?_
        simp only [Act.put, List.setIfInBounds_toArray, List.set_cons_zero, List.set_cons_succ]
        refine boxed_op (.bool false) (by kernel_rfl) (fun w' hw' => by go_simp) ?_
        simp only [Act.put, List.setIfInBounds_toArray, List.set_cons_zero, List.set_cons_succ]
        refine boxed_op (.int .i64 0) (by kernel_rfl) (fun w' hw' => by go_simp) ?_
        simp only [Act.put, List.setIfInBounds_toArray, List.set_cons_zero, List.set_cons_succ]
        refine boxed_op (.bool false) (by kernel_rfl) (fun w' hw' => by go_simp) ?_
        simp only [Act.put, List.setIfInBounds_toArray, List.set_cons_zero, List.set_cons_succ]
        refine boxed_op (.bool false) (by kernel_rfl) (fun w' hw' => by go_simp) ?_
        simp only [Act.put, List.setIfInBounds_toArray, List.set_cons_zero, List.set_cons_succ]
        refine boxed_op (.bool false) (by kernel_rfl) (fun w' hw' => by go_simp) ?_
        simp only [Act.put, List.setIfInBounds_toArray, List.set_cons_zero, List.set_cons_succ]
        refine boxed_op (.bool false) (by kernel_rfl) (fun w' hw' => by go_simp) ?_
        simp only [Act.put, List.setIfInBounds_toArray, List.set_cons_zero, List.set_cons_succ]
        refine boxed_end ?_
        clear h0
        rintro w' hk'
        go_wp2_with fail
        go_meet
        exact ⟨rfl, hk'⟩
      · refine wp_boxed (fun w' => Kept0 wE w') ((Kept.refl _ wE).drewN 1) (by kernel_rfl) (by kernel_rfl) ?_
        refine boxed_op (.pointer (some ⟨w.heap.size + 1, 3, none⟩)) (by kernel_rfl) (fun w' hw' => by go_simp) ?_
        simp only [Act.put, List.setIfInBounds_toArray, List.set_cons_zero, List.set_cons_succ]
        refine boxed_op (.int .i64 1) (by kernel_rfl) (fun w' hw' => by have y0 := kcell hw' q3; go_simp) ?_
        simp only [Act.put, List.setIfInBounds_toArray, List.set_cons_zero, List.set_cons_succ]
        refine boxed_op (.bool true) (by kernel_rfl) (fun w' hw' => by go_simp) ?_
        simp only [Act.put, List.setIfInBounds_toArray, List.set_cons_zero, List.set_cons_succ]
        refine boxed_op (.bool true) (by kernel_rfl) (fun w' hw' => by go_simp) ?_
        simp only [Act.put, List.setIfInBounds_toArray, List.set_cons_zero, List.set_cons_succ]
        refine boxed_op (.pointer (some ⟨w.heap.size + 1, 2, none⟩)) (by kernel_rfl) (fun w' hw' => by go_simp) ?_
        simp only [Act.put, List.setIfInBounds_toArray, List.set_cons_zero, List.set_cons_succ]
        refine boxed_op (.bool true) (by kernel_rfl) (fun w' hw' => by have y0 := kcell hw' q2; go_simp) ?_
        simp only [Act.put, List.setIfInBounds_toArray, List.set_cons_zero, List.set_cons_succ]
        refine boxed_op (.bool false) (by kernel_rfl) (fun w' hw' => by go_simp) ?_
        simp only [Act.put, List.setIfInBounds_toArray, List.set_cons_zero, List.set_cons_succ]
        refine boxed_op (.bool false) (by kernel_rfl) (fun w' hw' => by go_simp) ?_
        simp only [Act.put, List.setIfInBounds_toArray, List.set_cons_zero, List.set_cons_succ]
        refine boxed_op (.bool false) (by kernel_rfl) (fun w' hw' => by go_simp) ?_
        simp only [Act.put, List.setIfInBounds_toArray, List.set_cons_zero, List.set_cons_succ]
        refine boxed_skip (by kernel_rfl) ?_
        simp only [Act.put, List.setIfInBounds_toArray, List.set_cons_zero, List.set_cons_succ]
        refine boxed_skip (by kernel_rfl) ?_
        simp only [Act.put, List.setIfInBounds_toArray, List.set_cons_zero, List.set_cons_succ]
        refine boxed_op (.bool false) (by kernel_rfl) (fun w' hw' => by go_simp) ?_
        simp only [Act.put, List.setIfInBounds_toArray, List.set_cons_zero, List.set_cons_succ]
        refine boxed_op (.bool false) (by kernel_rfl) (fun w' hw' => by go_simp) ?_
        simp only [Act.put, List.setIfInBounds_toArray, List.set_cons_zero, List.set_cons_succ]
        refine boxed_op (.slice al s.size cp) (by kernel_rfl) (fun w' hw' => by go_simp) ?_
        simp only [Act.put, List.setIfInBounds_toArray, List.set_cons_zero, List.set_cons_succ]
        refine boxed_op (.int .i64 (s.size : Int)) (by kernel_rfl) (fun w' hw' => by go_simp) ?_
        simp only [Act.put, List.setIfInBounds_toArray, List.set_cons_zero, List.set_cons_succ]
        refine boxed_op (.bool true) (by kernel_rfl) (fun w' hw' => by go_simp) ?_
        simp only [Act.put, List.setIfInBounds_toArray, List.set_cons_zero, List.set_cons_succ]
        refine boxed_op (.bool true) (by kernel_rfl) (fun w' hw' => by go_simp) ?_
        simp only [Act.put, List.setIfInBounds_toArray, List.set_cons_zero, List.set_cons_succ]
        refine boxed_op (place r c true) (by kernel_rfl) (fun w' hw' => by have y0 := kcell hw' p0; have y1 := kcell hw' p1; have y2 := kcell hw' p2; go_simp) ?_
        simp only [Act.put, List.setIfInBounds_toArray, List.set_cons_zero, List.set_cons_succ]
        refine boxed_op (penV r c true 1 s) (by kernel_rfl) (fun w' hw' => by have y0 := kcell hw' q0; have y1 := kcell hw' q1; have y2 := kcell hw' q2; have y3 := kcell hw' q3; have y4 := kcell hw' q4; go_simp) ?_
        simp only [Act.put, List.setIfInBounds_toArray, List.set_cons_zero, List.set_cons_succ]
        refine boxed_op (place r c true) (by kernel_rfl) (fun w' hw' => ?_) ?_
        · go_simp
          exact (HPL.out w').mono fun e w5 ⟨h1, h2⟩ => ⟨h1, hw'.trans h2⟩
        simp only [Act.put, List.setIfInBounds_toArray, List.set_cons_zero, List.set_cons_succ]
        refine boxed_op (.bool false) (by kernel_rfl) (fun w' hw' => by have y := same_place r c true w'; go_simp) ?_
        simp only [Act.put, List.setIfInBounds_toArray, List.set_cons_zero, List.set_cons_succ]
        refine boxed_op (.bool false) (by kernel_rfl) (fun w' hw' => by go_simp) ?_
        simp only [Act.put, List.setIfInBounds_toArray, List.set_cons_zero, List.set_cons_succ]
        refine boxed_op (.int .i64 0) (by kernel_rfl) (fun w' hw' => by go_simp) ?_
        simp only [Act.put, List.setIfInBounds_toArray, List.set_cons_zero, List.set_cons_succ]
        refine boxed_op (.bool false) (by kernel_rfl) (fun w' hw' => by go_simp) ?_
        simp only [Act.put, List.setIfInBounds_toArray, List.set_cons_zero, List.set_cons_succ]
        refine boxed_op (.bool false) (by kernel_rfl) (fun w' hw' => by go_simp) ?_
        simp only [Act.put, List.setIfInBounds_toArray, List.set_cons_zero, List.set_cons_succ]
        refine boxed_op (.bool false) (by kernel_rfl) (fun w' hw' => by go_simp) ?_
        simp only [Act.put, List.setIfInBounds_toArray, List.set_cons_zero, List.set_cons_succ]
        refine boxed_op (.bool false) (by kernel_rfl) (fun w' hw' => by go_simp) ?_
        simp only [Act.put, List.setIfInBounds_toArray, List.set_cons_zero, List.set_cons_succ]
        refine boxed_end ?_
        clear h0
        rintro w' hk'
        go_wp2_with fail
        go_meet
        exact ⟨rfl, hk'⟩
      · refine wp_boxed (fun w' => Kept0 wE w') ((Kept.refl _ wE).drewN 1) (by kernel_rfl) (by kernel_rfl) ?_
        refine boxed_op (.pointer (some ⟨w.heap.size + 1, 3, none⟩)) (by kernel_rfl) (fun w' hw' => by go_simp) ?_
        simp only [Act.put, List.setIfInBounds_toArray, List.set_cons_zero, List.set_cons_succ]
        refine boxed_op (.int .i64 k) (by kernel_rfl) (fun w' hw' => by have y0 := kcell hw' q3; go_simp) ?_
        simp only [Act.put, List.setIfInBounds_toArray, List.set_cons_zero, List.set_cons_succ]
        refine boxed_op (.bool false) (by kernel_rfl) (fun w' hw' => by go_simp) ?_
        simp only [Act.put, List.setIfInBounds_toArray, List.set_cons_zero, List.set_cons_succ]
        refine boxed_op (.bool false) (by kernel_rfl) (fun w' hw' => by go_simp) ?_
        simp only [Act.put, List.setIfInBounds_toArray, List.set_cons_zero, List.set_cons_succ]
        refine boxed_skip (by kernel_rfl) ?_
        simp only [Act.put, List.setIfInBounds_toArray, List.set_cons_zero, List.set_cons_succ]
        refine boxed_skip (by kernel_rfl) ?_
        simp only [Act.put, List.setIfInBounds_toArray, List.set_cons_zero, List.set_cons_succ]
        refine boxed_skip (by kernel_rfl) ?_
        simp only [Act.put, List.setIfInBounds_toArray, List.set_cons_zero, List.set_cons_succ]
        refine boxed_op (.bool false) (by kernel_rfl) (fun w' hw' => by go_simp) ?_
        simp only [Act.put, List.setIfInBounds_toArray, List.set_cons_zero, List.set_cons_succ]
        refine boxed_op (.bool false) (by kernel_rfl) (fun w' hw' => by go_simp) ?_
        simp only [Act.put, List.setIfInBounds_toArray, List.set_cons_zero, List.set_cons_succ]
        refine boxed_skip (by kernel_rfl) ?_
        simp only [Act.put, List.setIfInBounds_toArray, List.set_cons_zero, List.set_cons_succ]
        refine boxed_skip (by kernel_rfl) ?_
        simp only [Act.put, List.setIfInBounds_toArray, List.set_cons_zero, List.set_cons_succ]
        refine boxed_op (.bool false) (by kernel_rfl) (fun w' hw' => by go_simp) ?_
        simp only [Act.put, List.setIfInBounds_toArray, List.set_cons_zero, List.set_cons_succ]
        refine boxed_op (.bool false) (by kernel_rfl) (fun w' hw' => by go_simp) ?_
        simp only [Act.put, List.setIfInBounds_toArray, List.set_cons_zero, List.set_cons_succ]
        refine boxed_op (.slice al s.size cp) (by kernel_rfl) (fun w' hw' => by go_simp) ?_
        simp only [Act.put, List.setIfInBounds_toArray, List.set_cons_zero, List.set_cons_succ]
        refine boxed_op (.int .i64 (s.size : Int)) (by kernel_rfl) (fun w' hw' => by go_simp) ?_
        simp only [Act.put, List.setIfInBounds_toArray, List.set_cons_zero, List.set_cons_succ]
        refine boxed_op (.bool true) (by kernel_rfl) (fun w' hw' => by go_simp) ?_
        simp only [Act.put, List.setIfInBounds_toArray, List.set_cons_zero, List.set_cons_succ]
        refine boxed_op (.bool true) (by kernel_rfl) (fun w' hw' => by go_simp) ?_
        simp only [Act.put, List.setIfInBounds_toArray, List.set_cons_zero, List.set_cons_succ]
        refine boxed_op (place r c b) (by kernel_rfl) (fun w' hw' => by have y0 := kcell hw' p0; have y1 := kcell hw' p1; have y2 := kcell hw' p2; go_simp) ?_
        simp only [Act.put, List.setIfInBounds_toArray, List.set_cons_zero, List.set_cons_succ]
        refine boxed_op (penV r c b k s) (by kernel_rfl) (fun w' hw' => by have y0 := kcell hw' q0; have y1 := kcell hw' q1; have y2 := kcell hw' q2; have y3 := kcell hw' q3; have y4 := kcell hw' q4; go_simp) ?_
        simp only [Act.put, List.setIfInBounds_toArray, List.set_cons_zero, List.set_cons_succ]
        refine boxed_op (place r c b) (by kernel_rfl) (fun w' hw' => ?_) ?_
        · go_simp
          exact (HPL.out w').mono fun e w5 ⟨h1, h2⟩ => ⟨h1, hw'.trans h2⟩
        simp only [Act.put, List.setIfInBounds_toArray, List.set_cons_zero, List.set_cons_succ]
        refine boxed_op (.bool false) (by kernel_rfl) (fun w' hw' => by have y := same_place r c b w'; go_simp) ?_
        simp only [Act.put, List.setIfInBounds_toArray, List.set_cons_zero, List.set_cons_succ]
        refine boxed_op (.bool false) (by kernel_rfl) (fun w' hw' => by go_simp) ?_
        simp only [Act.put, List.setIfInBounds_toArray, List.set_cons_zero, List.set_cons_succ]
        refine boxed_op (.int .i64 0) (by kernel_rfl) (fun w' hw' => by go_simp) ?_
        simp only [Act.put, List.setIfInBounds_toArray, List.set_cons_zero, List.set_cons_succ]
        refine boxed_op (.bool false) (by kernel_rfl) (fun w' hw' => by go_simp) ?_
        simp only [Act.put, List.setIfInBounds_toArray, List.set_cons_zero, List.set_cons_succ]
        refine boxed_op (.bool false) (by kernel_rfl) (fun w' hw' => by go_simp) ?_
        simp only [Act.put, List.setIfInBounds_toArray, List.set_cons_zero, List.set_cons_succ]
        refine boxed_op (.bool false) (by kernel_rfl) (fun w' hw' => by go_simp) ?_
        simp only [Act.put, List.setIfInBounds_toArray, List.set_cons_zero, List.set_cons_succ]
        refine boxed_op (.bool false) (by kernel_rfl) (fun w' hw' => by go_simp) ?_
        simp only [Act.put, List.setIfInBounds_toArray, List.set_cons_zero, List.set_cons_succ]
        refine boxed_end ?_
        clear h0
        rintro w' hk'
        go_wp2_with fail
        go_meet
        exact ⟨rfl, hk'⟩
    · clear HZ
      rcases cases3.out with ⟨rfl, rfl, rfl⟩ | ⟨rfl, rfl⟩ | hk
      all_goals
        clear cases3
        obtain ⟨q0, q1, q2, q3, q4⟩ := HJE.out.pen
      · refine wp_boxed (fun w' => Kept0 wE w') ((Kept.refl _ wE).drewN 1) (by kernel_rfl) (by kernel_rfl) ?_
        refine boxed_op (.pointer (some ⟨w.heap.size + 1, 3, none⟩)) (by kernel_rfl) (fun w' hw' => by go_simp) ?_
        simp only [Act.put, List.setIfInBounds_toArray, List.set_cons_zero, List.set_cons_succ]
        refine boxed_op (.int .i64 1) (by kernel_rfl) (fun w' hw' => by have y0 := kcell hw' q3; go_simp) ?_
        simp only [Act.put, List.setIfInBounds_toArray, List.set_cons_zero, List.set_cons_succ]
        refine boxed_op (.bool true) (by kernel_rfl) (fun w' hw' => by go_simp) ?_
        simp only [Act.put, List.setIfInBounds_toArray, List.set_cons_zero, List.set_cons_succ]
        refine boxed_op (.bool true) (by kernel_rfl) (fun w' hw' => by go_simp) ?_
        simp only [Act.put, List.setIfInBounds_toArray, List.set_cons_zero, List.set_cons_succ]
        refine boxed_op (.pointer (some ⟨w.heap.size + 1, 2, none⟩)) (by kernel_rfl) (fun w' hw' => by go_simp) ?_
        simp only [Act.put, List.setIfInBounds_toArray, List.set_cons_zero, List.set_cons_succ]
        refine boxed_op (.bool false) (by kernel_rfl) (fun w' hw' => by have y0 := kcell hw' q2; go_simp) ?_
        simp only [Act.put, List.setIfInBounds_toArray, List.set_cons_zero, List.set_cons_succ]
        refine boxed_op (.bool true) (by kernel_rfl) (fun w' hw' => by go_simp) ?_
        simp only [Act.put, List.setIfInBounds_toArray, List.set_cons_zero, List.set_cons_succ]
        refine boxed_op (.bool true) (by kernel_rfl) (fun w' hw' => by go_simp) ?_
        simp only [Act.put, List.setIfInBounds_toArray, List.set_cons_zero, List.set_cons_succ]
        refine boxed_op (.bool true) (by kernel_rfl) (fun w' hw' => by go_simp) ?_
        simp only [Act.put, List.setIfInBounds_toArray, List.set_cons_zero, List.set_cons_succ]
        refine boxed_op (.int .i64 0) (by kernel_rfl) (fun w' hw' => by go_simp) ?_
        simp only [Act.put, List.setIfInBounds_toArray, List.set_cons_zero, List.set_cons_succ]
        refine boxed_op (.bool false) (by kernel_rfl) (fun w' hw' => by go_simp) ?_
        simp only [Act.put, List.setIfInBounds_toArray, List.set_cons_zero, List.set_cons_succ]
        refine boxed_op (.bool false) (by kernel_rfl) (fun w' hw' => by go_simp) ?_
        simp only [Act.put, List.setIfInBounds_toArray, List.set_cons_zero, List.set_cons_succ]
        refine boxed_op (.bool false) (by kernel_rfl) (fun w' hw' => by go_simp) ?_
        simp only [Act.put, List.setIfInBounds_toArray, List.set_cons_zero, List.set_cons_succ]
        refine boxed_op (.slice al s.size cp) (by kernel_rfl) (fun w' hw' => by go_simp) ?_
        simp only [Act.put, List.setIfInBounds_toArray, List.set_cons_zero, List.set_cons_succ]
        refine boxed_op (.int .i64 (s.size : Int)) (by kernel_rfl) (fun w' hw' => by go_simp) ?_
        simp only [Act.put, List.setIfInBounds_toArray, List.set_cons_zero, List.set_cons_succ]
        refine boxed_op (.bool false) (by kernel_rfl) (fun w' hw' => by go_simp) ?_
        simp only [Act.put, List.setIfInBounds_toArray, List.set_cons_zero, List.set_cons_succ]
        refine boxed_op (.bool false) (by kernel_rfl) (fun w' hw' => by go_simp) ?_
        simp only [Act.put, List.setIfInBounds_toArray, List.set_cons_zero, List.set_cons_succ]
        refine boxed_skip (by kernel_rfl) ?_
        simp only [Act.put, List.setIfInBounds_toArray, List.set_cons_zero, List.set_cons_succ]
        refine boxed_skip (by kernel_rfl) ?_
        simp only [Act.put, List.setIfInBounds_toArray, List.set_cons_zero, List.set_cons_succ]
        refine boxed_skip (by kernel_rfl) ?_
        simp only [Act.put, List.setIfInBounds_toArray, List.set_cons_zero, List.set_cons_succ]
        refine boxed_skip (by kernel_rfl) ?_
        simp only [Act.put, List.setIfInBounds_toArray, List.set_cons_zero, List.set_cons_succ]
        refine boxed_skip (by kernel_rfl) ?_
        simp only [Act.put, List.setIfInBounds_toArray, List.set_cons_zero, List.set_cons_succ]
        refine boxed_skip (by kernel_rfl) ?_
        simp only [Act.put, List.setIfInBounds_toArray, List.set_cons_zero, List.set_cons_succ]
        refine boxed_skip (by kernel_rfl) ?_
        simp only [Act.put, List.setIfInBounds_toArray, List.set_cons_zero, List.set_cons_succ]
        refine boxed_skip (by kernel_rfl) ?_
        simp only [Act.put, List.setIfInBounds_toArray, List.set_cons_zero, List.set_cons_succ]
        refine boxed_op (.bool false) (by kernel_rfl) (fun w' hw' => by go_simp) ?_
        simp only [Act.put, List.setIfInBounds_toArray, List.set_cons_zero, List.set_cons_succ]
        refine boxed_op (.bool false) (by kernel_rfl) (fun w' hw' => by go_simp) ?_
        simp only [Act.put, List.setIfInBounds_toArray, List.set_cons_zero, List.set_cons_succ]
        refine boxed_end ?_
        rintro w' hk'
        go_wp2_with fail
        go_meet
        exact ⟨rfl, hk'⟩
      · refine wp_boxed (fun w' => Kept0 wE w') ((Kept.refl _ wE).drewN 1) (by kernel_rfl) (by kernel_rfl) ?_
        refine boxed_op (.pointer (some ⟨w.heap.size + 1, 3, none⟩)) (by kernel_rfl) (fun w' hw' => by go_simp) ?_
        simp only [Act.put, List.setIfInBounds_toArray, List.set_cons_zero, List.set_cons_succ]
        refine boxed_op (.int .i64 1) (by kernel_rfl) (fun w' hw' => by have y0 := kcell hw' q3; go_simp) ?_
        simp only [Act.put, List.setIfInBounds_toArray, List.set_cons_zero, List.set_cons_succ]
        refine boxed_op (.bool true) (by kernel_rfl) (fun w' hw' => by go_simp) ?_
        simp only [Act.put, List.setIfInBounds_toArray, List.set_cons_zero, List.set_cons_succ]
        refine boxed_op (.bool true) (by kernel_rfl) (fun w' hw' => by go_simp) ?_
        simp only [Act.put, List.setIfInBounds_toArray, List.set_cons_zero, List.set_cons_succ]
        refine boxed_op (.pointer (some ⟨w.heap.size + 1, 2, none⟩)) (by kernel_rfl) (fun w' hw' => by go_simp) ?_
        simp only [Act.put, List.setIfInBounds_toArray, List.set_cons_zero, List.set_cons_succ]
        refine boxed_op (.bool true) (by kernel_rfl) (fun w' hw' => by have y0 := kcell hw' q2; go_simp) ?_
        simp only [Act.put, List.setIfInBounds_toArray, List.set_cons_zero, List.set_cons_succ]
        refine boxed_op (.bool false) (by kernel_rfl) (fun w' hw' => by go_simp) ?_
        simp only [Act.put, List.setIfInBounds_toArray, List.set_cons_zero, List.set_cons_succ]
        refine boxed_op (.bool false) (by kernel_rfl) (fun w' hw' => by go_simp) ?_
        simp only [Act.put, List.setIfInBounds_toArray, List.set_cons_zero, List.set_cons_succ]
        refine boxed_op (.bool false) (by kernel_rfl) (fun w' hw' => by go_simp) ?_
        simp only [Act.put, List.setIfInBounds_toArray, List.set_cons_zero, List.set_cons_succ]
        refine boxed_skip (by kernel_rfl) ?_
        simp only [Act.put, List.setIfInBounds_toArray, List.set_cons_zero, List.set_cons_succ]
        refine boxed_skip (by kernel_rfl) ?_
        simp only [Act.put, List.setIfInBounds_toArray, List.set_cons_zero, List.set_cons_succ]
        refine boxed_op (.bool false) (by kernel_rfl) (fun w' hw' => by go_simp) ?_
        simp only [Act.put, List.setIfInBounds_toArray, List.set_cons_zero, List.set_cons_succ]
        refine boxed_op (.bool false) (by kernel_rfl) (fun w' hw' => by go_simp) ?_
        simp only [Act.put, List.setIfInBounds_toArray, List.set_cons_zero, List.set_cons_succ]
        refine boxed_op (.slice al s.size cp) (by kernel_rfl) (fun w' hw' => by go_simp) ?_
        simp only [Act.put, List.setIfInBounds_toArray, List.set_cons_zero, List.set_cons_succ]
        refine boxed_op (.int .i64 (s.size : Int)) (by kernel_rfl) (fun w' hw' => by go_simp) ?_
        simp only [Act.put, List.setIfInBounds_toArray, List.set_cons_zero, List.set_cons_succ]
        refine boxed_op (.bool false) (by kernel_rfl) (fun w' hw' => by go_simp) ?_
        simp only [Act.put, List.setIfInBounds_toArray, List.set_cons_zero, List.set_cons_succ]
        refine boxed_op (.bool false) (by kernel_rfl) (fun w' hw' => by go_simp) ?_
        simp only [Act.put, List.setIfInBounds_toArray, List.set_cons_zero, List.set_cons_succ]
        refine boxed_skip (by kernel_rfl) ?_
        simp only [Act.put, List.setIfInBounds_toArray, List.set_cons_zero, List.set_cons_succ]
        refine boxed_skip (by kernel_rfl) ?_
        simp only [Act.put, List.setIfInBounds_toArray, List.set_cons_zero, List.set_cons_succ]
        refine boxed_skip (by kernel_rfl) ?_
        simp only [Act.put, List.setIfInBounds_toArray, List.set_cons_zero, List.set_cons_succ]
        refine boxed_skip (by kernel_rfl) ?_
        simp only [Act.put, List.setIfInBounds_toArray, List.set_cons_zero, List.set_cons_succ]
        refine boxed_skip (by kernel_rfl) ?_
        simp only [Act.put, List.setIfInBounds_toArray, List.set_cons_zero, List.set_cons_succ]
        refine boxed_skip (by kernel_rfl) ?_
        simp only [Act.put, List.setIfInBounds_toArray, List.set_cons_zero, List.set_cons_succ]
        refine boxed_skip (by kernel_rfl) ?_
        simp only [Act.put, List.setIfInBounds_toArray, List.set_cons_zero, List.set_cons_succ]
        refine boxed_skip (by kernel_rfl) ?_
        simp only [Act.put, List.setIfInBounds_toArray, List.set_cons_zero, List.set_cons_succ]
        refine boxed_op (.bool false) (by kernel_rfl) (fun w' hw' => by go_simp) ?_
        simp only [Act.put, List.setIfInBounds_toArray, List.set_cons_zero, List.set_cons_succ]
        refine boxed_op (.bool false) (by kernel_rfl) (fun w' hw' => by go_simp) ?_
        simp only [Act.put, List.setIfInBounds_toArray, List.set_cons_zero, List.set_cons_succ]
        refine boxed_end ?_
        rintro w' hk'
        go_wp2_with fail
        go_meet
        exact ⟨rfl, hk'⟩
      · refine wp_boxed (fun w' => Kept0 wE w') ((Kept.refl _ wE).drewN 1) (by kernel_rfl) (by kernel_rfl) ?_
        refine boxed_op (.pointer (some ⟨w.heap.size + 1, 3, none⟩)) (by kernel_rfl) (fun w' hw' => by go_simp) ?_
        simp only [Act.put, List.setIfInBounds_toArray, List.set_cons_zero, List.set_cons_succ]
        refine boxed_op (.int .i64 k) (by kernel_rfl) (fun w' hw' => by have y0 := kcell hw' q3; go_simp) ?_
        simp only [Act.put, List.setIfInBounds_toArray, List.set_cons_zero, List.set_cons_succ]
        refine boxed_op (.bool false) (by kernel_rfl) (fun w' hw' => by go_simp) ?_
        simp only [Act.put, List.setIfInBounds_toArray, List.set_cons_zero, List.set_cons_succ]
        refine boxed_op (.bool false) (by kernel_rfl) (fun w' hw' => by go_simp) ?_
        simp only [Act.put, List.setIfInBounds_toArray, List.set_cons_zero, List.set_cons_succ]
        refine boxed_skip (by kernel_rfl) ?_
        simp only [Act.put, List.setIfInBounds_toArray, List.set_cons_zero, List.set_cons_succ]
        refine boxed_skip (by kernel_rfl) ?_
        simp only [Act.put, List.setIfInBounds_toArray, List.set_cons_zero, List.set_cons_succ]
        refine boxed_skip (by kernel_rfl) ?_
        simp only [Act.put, List.setIfInBounds_toArray, List.set_cons_zero, List.set_cons_succ]
        refine boxed_op (.bool false) (by kernel_rfl) (fun w' hw' => by go_simp) ?_
        simp only [Act.put, List.setIfInBounds_toArray, List.set_cons_zero, List.set_cons_succ]
        refine boxed_op (.bool false) (by kernel_rfl) (fun w' hw' => by go_simp) ?_
        simp only [Act.put, List.setIfInBounds_toArray, List.set_cons_zero, List.set_cons_succ]
        refine boxed_skip (by kernel_rfl) ?_
        simp only [Act.put, List.setIfInBounds_toArray, List.set_cons_zero, List.set_cons_succ]
        refine boxed_skip (by kernel_rfl) ?_
        simp only [Act.put, List.setIfInBounds_toArray, List.set_cons_zero, List.set_cons_succ]
        refine boxed_op (.bool false) (by kernel_rfl) (fun w' hw' => by go_simp) ?_
        simp only [Act.put, List.setIfInBounds_toArray, List.set_cons_zero, List.set_cons_succ]
        refine boxed_op (.bool false) (by kernel_rfl) (fun w' hw' => by go_simp) ?_
        simp only [Act.put, List.setIfInBounds_toArray, List.set_cons_zero, List.set_cons_succ]
        refine boxed_op (.slice al s.size cp) (by kernel_rfl) (fun w' hw' => by go_simp) ?_
        simp only [Act.put, List.setIfInBounds_toArray, List.set_cons_zero, List.set_cons_succ]
        refine boxed_op (.int .i64 (s.size : Int)) (by kernel_rfl) (fun w' hw' => by go_simp) ?_
        simp only [Act.put, List.setIfInBounds_toArray, List.set_cons_zero, List.set_cons_succ]
        refine boxed_op (.bool false) (by kernel_rfl) (fun w' hw' => by go_simp) ?_
        simp only [Act.put, List.setIfInBounds_toArray, List.set_cons_zero, List.set_cons_succ]
        refine boxed_op (.bool false) (by kernel_rfl) (fun w' hw' => by go_simp) ?_
        simp only [Act.put, List.setIfInBounds_toArray, List.set_cons_zero, List.set_cons_succ]
        refine boxed_skip (by kernel_rfl) ?_
        simp only [Act.put, List.setIfInBounds_toArray, List.set_cons_zero, List.set_cons_succ]
        refine boxed_skip (by kernel_rfl) ?_
        simp only [Act.put, List.setIfInBounds_toArray, List.set_cons_zero, List.set_cons_succ]
        refine boxed_skip (by kernel_rfl) ?_
        simp only [Act.put, List.setIfInBounds_toArray, List.set_cons_zero, List.set_cons_succ]
        refine boxed_skip (by kernel_rfl) ?_
        simp only [Act.put, List.setIfInBounds_toArray, List.set_cons_zero, List.set_cons_succ]
        refine boxed_skip (by kernel_rfl) ?_
        simp only [Act.put, List.setIfInBounds_toArray, List.set_cons_zero, List.set_cons_succ]
        refine boxed_skip (by kernel_rfl) ?_
        simp only [Act.put, List.setIfInBounds_toArray, List.set_cons_zero, List.set_cons_succ]
        refine boxed_skip (by kernel_rfl) ?_
        simp only [Act.put, List.setIfInBounds_toArray, List.set_cons_zero, List.set_cons_succ]
        refine boxed_skip (by kernel_rfl) ?_
        simp only [Act.put, List.setIfInBounds_toArray, List.set_cons_zero, List.set_cons_succ]
        refine boxed_op (.bool false) (by kernel_rfl) (fun w' hw' => by go_simp) ?_
        simp only [Act.put, List.setIfInBounds_toArray, List.set_cons_zero, List.set_cons_succ]
        refine boxed_op (.bool false) (by kernel_rfl) (fun w' hw' => by go_simp) ?_
        simp only [Act.put, List.setIfInBounds_toArray, List.set_cons_zero, List.set_cons_succ]
        refine boxed_end ?_
        rintro w' hk'
        go_wp2_with fail
        go_meet
        exact ⟨rfl, hk'⟩
  case rest =>
  obtain ⟨rfl, hkF⟩ := hcut
  have HKF : Hid (Kept0 w wc) := HJE.out.kept.trans hkF.out
  have hn1 := HN1.out
  have hm : IntKind.i64.wrap (2 * (s.size : Int)) = 2 * (s.size : Int) := IntWalk.i64_in _ ⟨by omega, by omega⟩
  have hle : decide (y1 ≤ 2 * (s.size : Int)) = true := by simp; omega
  clear hkF HJE HTE HCL HZ HWR
  go_wp2_with fail
  refine (HAW.out _).mono ?_
  rintro e w9 ⟨rfl, hk9⟩
  go_wp2_with fail
  go_ret
  exact ⟨rfl, Kept0.below (HKF.out.trans hk9)⟩
end Go.Proofs.Ytkdnjkcebfckiaa
