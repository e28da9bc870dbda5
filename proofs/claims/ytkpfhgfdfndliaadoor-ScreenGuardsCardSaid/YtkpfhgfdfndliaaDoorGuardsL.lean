/-
  ScreenGuards: no cell that is guarded is turned by what draws with guard.
-/
import Derived.Test.YtkpfhgfdfndliaaDoorFewG
import Derived.Test.YtkpfhgfdfndliaaDoorAw
namespace Go.Proofs.YtkpfhgfdfndliaaDoor
open Go.RowKit

theorem eqv_cel (x : Cel) (w : World) : (Op.equalIn 10000 24 x.v x.v).run Tryd.prog w = .ok true w := by
  rw [run_equalIn_agg w 9999 24 _ _ (by kernel_rfl) (by kernel_rfl)]
  simp [go_sem]
theorem at_inS {B : Nat → Prop} {w : World} {s : Nat} {z : St} (h : Scr w B s z) (i j : Nat) (hi : i < z.R) (hj : j < z.C) :
    Calls Tryd.prog 13 #[ptr s, pos i j] w fun e w' => e = .returned (.tuple #[(z.F (i * z.C + j)).v, .int .i64 0]) ∧ Kept0 w w' := by
  have := at_scr (i : Int) (j : Int) h
  have e1 : atX z.R z.C z.F (i : Int) (j : Int) = z.F (i * z.C + j) := by
    unfold atX
    rw [if_pos (by omega)]
    simp [idx]
  have e2 : atE z.R z.C (i : Int) (j : Int) = 0 := by
    unfold atE
    rw [if_pos (by omega)]
  rwa [e1, e2] at this

/-- Behind calls that draw with guard: the sizes are the same, and what was guarded stays. -/
def Keeps (z y : St) : Prop := z.R = y.R ∧ z.C = y.C ∧ ∀ k, k < y.R * y.C → (y.F k).b = true → z.F k = y.F k
theorem Keeps.refl (z : St) : Keeps z z := ⟨rfl, rfl, fun _ _ _ => rfl⟩
theorem Keeps.draw {z y : St} (h : Keeps z y) (o : Op) : Keeps (drawF { o with gd := true } z) y := by
  obtain ⟨h1, h2, h3⟩ := h
  have hs := draw_size { o with gd := true } z
  refine ⟨hs.1.trans h1, hs.2.trans h2, fun k hk hb => ?_⟩
  have := h3 k hk hb
  rw [draw_keep o z k (by rw [h1, h2]; exact hk) (by rw [this]; exact hb), this]

set_option maxRecDepth 100000 in
set_option maxHeartbeats 8000000 in
theorem guards_calls (a1 : Option Addr) (cap1 : Nat) (l : List Op) (a2 : Option Addr) (cap2 : Nat) (m : List Op) (w : World) (hb : Blank w)
    (hl : OpsIn w a1 l) (hm : OpsIn w a2 m) (nl : l.length ≤ 9223372036854775807) (nm : m.length ≤ 9223372036854775807) :
    Calls Tryd.prog 4 #[.slice a1 l.length cap1, .slice a2 m.length cap2] w fun e w' => e = .returned (.bool true) ∧ Below w.heap.size w w' := by
  have HB := Lib.hid hb
  have h0 := hb.lt
  have HO := Lib.hid hm
  have HL : Hid (∀ i, i < m.length → ∃ o, m[i]? = some o) := fun i hi => ⟨_, List.getElem?_eq_getElem hi⟩
  have HF1 := Lib.hid (few_any a1 cap1 l w hl nl)
  have HF2 : Hid (∀ w', Kept0 w w' → _) := fun w' k => few_any a2 cap2 m w' (hm.kept0 k) nm
  have HG : Hid (∀ w', Kept0 w w' → _) := fun w' k => begun_any a1 cap1 l w w' k (hb.kept0 k) (hl.kept0 k) nl
  obtain ⟨M, hM⟩ : ∃ M, M = m.length := ⟨_, rfl⟩
  obtain ⟨L, hLl⟩ : ∃ L, L = l.length := ⟨_, rfl⟩
  obtain ⟨y, hy⟩ : ∃ y, y = runZ z59 l := ⟨_, rfl⟩
  rw [← hM] at HL HF2 nm ⊢
  rw [← hLl] at HF1 HG nl ⊢
  rw [← hy] at HG
  clear hb hl hm hM hLl hy
  go_enter Tryd.func4, Tryd.ntmps4
  go_wp2_with fail
  refine HF1.out.mono ?_
  rintro e w1 ⟨⟨t1, rfl⟩, k1⟩
  cases t1
  · go_wp2_with fail
    refine (awake_any _ (HB.out.kept0 k1)).mono ?_
    rintro e w2 ⟨rfl, k2⟩
    go_wp2_with fail
    go_ret
    exact ⟨rfl, Kept0.below (k1.trans k2)⟩
  go_wp2_with fail
  refine (HF2.out w1 k1).mono ?_
  rintro e w2 ⟨⟨t2, rfl⟩, k2⟩
  replace k2 := k1.trans k2
  clear k1
  cases t2
  · go_wp2_with fail
    refine (awake_any _ (HB.out.kept0 k2)).mono ?_
    rintro e w3 ⟨rfl, k3⟩
    go_wp2_with fail
    go_ret
    exact ⟨rfl, Kept0.below (k2.trans k3)⟩
  go_wp2_with fail
  refine (HG.out w2 k2).mono ?_
  rintro e w3 ⟨s, rfl, hu⟩
  clear k2 HF1 HF2 HG
  have HU := Lib.hid hu
  clear hu
  go_wp2_with fail
  refine (uno_copy HU.out).mono ?_
  rintro e w4 ⟨c, rfl, hd, _⟩
  have HD : Hid (Duo no w w4 s y c y) := hd
  clear hd HU
  go_wp2_with fail
  go_loopw [7] (fun s7 wr => ∃ (i : Nat) (z : St), i ≤ M ∧ s7 = .int .i64 (i : Int) ∧ Hid (Duo no w wr s z c y) ∧ Hid (Keeps z y)) (fun s7 _ => M - (intOf s7).toNat)
  case atStart => exact ⟨0, y, by omega, rfl, HD, Keeps.refl y⟩
  case round =>
    clear HD
    obtain ⟨i, z, hi, rfl, HD, HK⟩ := hrel
    by_cases hlt : i < M
    · have hdt : decide ((i : Int) < (M : Int)) = true := by simp; omega
      obtain ⟨o, hoi⟩ := HL.out i hlt
      obtain ⟨hok, b, off, rfl, hcs⟩ := HO.out i o hoi
      have HQ := Lib.hid hok
      have kk := HD.out.old
      have o0 := kcell kk (hcs 0 _ rfl)
      have o1 := kcell kk (hcs 1 _ rfl)
      have o2 := kcell kk (hcs 2 _ rfl)
      have o3 := kcell kk (hcs 3 _ rfl)
      have o4 := kcell kk (hcs 4 _ rfl)
      have o5 := kcell kk (hcs 5 _ rfl)
      have o6 := kcell kk (hcs 6 _ rfl)
      have o7 := kcell kk (hcs 7 _ rfl)
      have o8 := kcell kk (hcs 8 _ rfl)
      have o9 := kcell kk (hcs 9 _ rfl)
      have o10 := kcell kk (hcs 10 _ rfl)
      have o11 := kcell kk (hcs 11 _ rfl)
      clear hcs kk hoi hok
      simp only [Nat.add_zero] at o0
      go_wp2_with fail
      refine (duo_call (HD.out.keep ((Kept.refl _ wr).alloc _)) h0 (fun B hs hB0 => draws_any { o with gd := true } _ hs (HB.out.kept0 (HD.out.old.alloc _)) hB0 HQ.out)).mono ?_
      rintro e w5 ⟨rfl, hd5, _⟩
      have HD5 : Hid (Duo no w w5 s (drawF { o with gd := true } z) c y) := hd5
      have HK5 : Hid (Keeps (drawF { o with gd := true } z) y) := HK.out.draw o
      clear hd5 HD HK o0 o1 o2 o3 o4 o5 o6 o7 o8 o9 o10 o11
      go_wp2_with fail
      go_roundw
      case rel => exact ⟨i + 1, _, by omega, by go_num, HD5, HK5⟩
      case measure => simp [intOf]; omega
    · obtain rfl : i = M := by omega
      have hdt : decide ((i : Int) < (i : Int)) = false := by simp
      go_wp2_with fail
      refine (size_scr HD.out.one.scr.choose_spec).mono ?_
      rintro e w5 ⟨rfl, k5⟩
      have HD5 : Hid (Duo no w w5 s z c y) := HD.out.keep k5
      obtain ⟨hR, hC, hk⟩ := HK.out
      have HX : Hid (∀ w', Duo no w w' s z c y → ∀ i j : Nat, i < y.R → j < y.C → Calls Tryd.prog 13 #[ptr s, pos i j] w' fun e w'' => e = .returned (.tuple #[(z.F (i * y.C + j)).v, .int .i64 0]) ∧ Kept0 w' w'') := fun w' h i j a b => by
        have := at_inS h.one.scr.choose_spec i j (by omega) (by omega)
        rwa [hC] at this
      have HY : Hid (∀ w', Duo no w w' s z c y → ∀ i j : Nat, i < y.R → j < y.C → Calls Tryd.prog 13 #[ptr c, pos i j] w' fun e w'' => e = .returned (.tuple #[(y.F (i * y.C + j)).v, .int .i64 0]) ∧ Kept0 w' w'') := fun w' h i j a b =>
        at_inS h.swap.one.scr.choose_spec i j a b
      have HE : Hid (∀ i j : Nat, i < y.R → j < y.C → (y.F (i * y.C + j)).b = true → z.F (i * y.C + j) = y.F (i * y.C + j)) := fun i j a b h => hk _ (place_lt a b) h
      have hb5 := bounds_scr HD5.out.swap.one.scr.choose_spec
      obtain ⟨R, hRR⟩ : ∃ R, R = y.R := ⟨_, rfl⟩
      obtain ⟨C, hCC⟩ : ∃ C, C = y.C := ⟨_, rfl⟩
      rw [← hRR, ← hCC] at HX HY HE hb5
      obtain ⟨b1, b2, b3, b4, _⟩ := hb5
      rw [hR, hC, ← hRR, ← hCC]
      clear hR hC hk HD HK k5 hRR hCC
      obtain ⟨V, hV⟩ : ∃ V, V = w5.alloc (.cells #[.int .i64 (R : Int), .int .i64 (C : Int)] 39) := ⟨_, rfl⟩
      have hv0 : V.cell? ⟨w5.heap.size, 0, none⟩ = some (.int .i64 (R : Int)) := by rw [hV]; simp [go_sem]
      have hv1 : V.cell? ⟨w5.heap.size, 1, none⟩ = some (.int .i64 (C : Int)) := by rw [hV]; simp [go_sem]
      have HDV : Hid (Duo no w V s z c y) := by rw [hV]; exact HD5.out.keep ((Kept.refl _ _).alloc _)
      go_wp2_with fail
      rw [← hV]
      clear hV HD5
      go_loopw [10] (fun s10 wr => ∃ i : Nat, i ≤ R ∧ s10 = .int .i64 (i : Int) ∧ Kept0 V wr) (fun s10 _ => R - (intOf s10).toNat)
      case atStart => exact ⟨0, by omega, rfl, Kept.refl _ _⟩
      case round =>
        obtain ⟨i, hi, rfl, ki⟩ := hrel
        have g0 := kcell ki hv0
        by_cases hlt2 : i < R
        · have hdt2 : decide ((i : Int) < (R : Int)) = true := by simp; omega
          go_wp2_with fail
          go_loopw [11] (fun s11 wr => ∃ j : Nat, j ≤ C ∧ s11 = .int .i64 (j : Int) ∧ Kept0 V wr) (fun s11 _ => C - (intOf s11).toNat)
          case atStart => exact ⟨0, by omega, rfl, ki⟩
          case round =>
            clear g0 ki
            obtain ⟨j, hj, rfl, kj⟩ := hrel
            have g1 := kcell kj hv1
            by_cases hlt3 : j < C
            · have hdt3 : decide ((j : Int) < (C : Int)) = true := by simp; omega
              go_wp2_with fail
              have HC1 := HY.out wr (HDV.out.keep kj) i j hlt2 hlt3
              have HC2 : Hid (∀ w', Kept0 wr w' → _) := fun w' k => HX.out w' ((HDV.out.keep kj).keep k) i j hlt2 hlt3
              have hx := HE.out i j hlt2 hlt3
              obtain ⟨x, hxx⟩ : ∃ x, x = y.F (i * C + j) := ⟨_, rfl⟩
              obtain ⟨u, huu⟩ : ∃ u, u = z.F (i * C + j) := ⟨_, rfl⟩
              rw [← hxx] at HC1
              rw [← huu] at HC2
              rw [← hxx, ← huu] at hx
              clear hxx huu
              refine HC1.mono ?_
              rintro e w6 ⟨rfl, k6⟩
              obtain ⟨V6, hV6⟩ : ∃ V6, V6 = w6.alloc (.cells #[.int .i32 x.g, .int .i64 x.a, .bool x.b, .int .i64 x.m] 24) := ⟨_, rfl⟩
              have kV6 : Kept0 w6 V6 := by rw [hV6]; exact (Kept.refl _ _).alloc _
              have hc : CelAt V6 w6.heap.size x := by rw [hV6]; exact CelAt.new w6 x 24
              replace k6 := k6.trans kV6
              clear kV6 HC1 g1
              go_wp2_with fail
              rw [← hV6]
              clear hV6
              refine (HC2.out V6 k6).mono ?_
              rintro e w7 ⟨rfl, k7⟩
              obtain ⟨c0, c1, c2, c3⟩ := hc.kept k7 (fun e => e)
              replace k7 := k6.trans k7
              clear hc k6 HC2
              have l1 := World.block_lt_of_cell? _ _ c0
              have kE : Kept0 V (w7.alloc (.cells #[.int .i32 u.g, .int .i64 u.a, .bool u.b, .int .i64 u.m] 24)) := (kj.trans k7).alloc _
              have q1 : ∀ w, (Op.equalIn 10000 24 x.v x.v).run Tryd.prog w = .ok true w := fun w => eqv_cel x w
              cases hb : x.b
              · rw [hb] at c2
                go_wp2_with fail
                go_roundw
                case rel => exact ⟨j + 1, by omega, by go_num, kE⟩
                case measure => simp [intOf]; omega
              · obtain rfl := hx hb
                rw [hb] at c2 kE
                go_wp2_with fail
                go_roundw
                case rel => exact ⟨j + 1, by omega, by go_num, kE⟩
                case measure => simp [intOf]; omega
            · obtain rfl : j = C := by omega
              have hdt3 : decide ((j : Int) < (j : Int)) = false := by simp
              go_wp2_with fail
              go_roundw
              case rel => exact ⟨i + 1, by omega, by go_num, kj⟩
              case measure => simp [intOf]; omega
        · obtain rfl : i = R := by omega
          have hdt2 : decide ((i : Int) < (i : Int)) = false := by simp
          go_wp2_with fail
          have HD6 := HDV.out.keep ki
          refine (awake_any _ (HB.out.kept0 HD6.old)).mono ?_
          rintro e w6 ⟨rfl, k6⟩
          go_wp2_with fail
          go_ret
          exact ⟨rfl, Kept0.below (HD6.old.trans k6)⟩
end Go.Proofs.YtkpfhgfdfndliaaDoor
