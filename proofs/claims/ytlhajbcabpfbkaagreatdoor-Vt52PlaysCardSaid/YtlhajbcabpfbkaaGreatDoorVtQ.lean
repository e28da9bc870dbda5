/-
  What texts of plain glyphs come to, from the first place on.
-/
import Derived.Test.YtlhajbcabpfbkaaGreatDoorVtP
namespace Go.Proofs.YtlhajbcabpfbkaaGreatDoor
open Go.RowKit

theorem put_clamp (z : St) (x : Cel) (hb : z.b = false) (h : There z.R z.C z.r z.c) : putZ z x 1 false = { z with F := upd z.F (idx z.C z.r z.c) x, r := z.r, c := if z.c < (z.C : Int) - 1 then z.c + 1 else z.c, b := false } := by
  obtain ⟨R, C, F, S, r, c, b⟩ := z
  simp only at hb h
  subst hb
  obtain ⟨h1, h2, h3, h4⟩ := h
  have e1 : nr r R = r := nr_in _ _ h1 h2
  have e2 : nr c C = c := nr_in _ _ h3 h4
  unfold putZ sputF sputR sputC sputB putF putR putC putP aR aC aU bU bR bC bP liftF
  simp [e1, e2]

def isPlain (b : UInt8) : Prop := 32 ≤ b.toNat ∧ b.toNat ≤ 126
theorem doD_plain {b : UInt8} (h : isPlain b) : doD 0 b.toNat = .put := by
  obtain ⟨h1, h2⟩ := h
  unfold doD rowD outD
  rw [if_neg (by omega), if_pos rfl, if_neg (by omega), if_neg (by omega), if_neg (by omega), if_neg (by omega), if_pos ⟨h1, h2⟩]
theorem byte_plain {v : Vt} {b : UInt8} (h : isPlain b) (hp : v.pre = []) : byteV v b = { v with z := putZ v.z ⟨glyphV v.g b.toNat, 0, false, 0⟩ 1 false } := by
  obtain ⟨z, most, xs, over, g, k, hh, pre⟩ := v
  simp only at hp
  subst hp
  unfold byteV
  rw [show (List.length ([] : List UInt8)) = 0 from rfl, doD_plain h]
  rfl

/-- A text of plain glyphs in the first row. -/
theorem write_fact : ∀ (text : List UInt8) (v : Vt) (c0 : Nat), v.pre = [] → v.z.b = false → v.z.r = 0 → v.z.c = c0 → c0 + text.length < v.z.C → 1 ≤ v.z.R → (∀ b ∈ text, isPlain b) →
    (feedV text v).z.r = 0 ∧ (feedV text v).z.c = ((c0 + text.length : Nat) : Int) ∧ (feedV text v).z.R = v.z.R ∧ (feedV text v).z.C = v.z.C ∧ (feedV text v).g = v.g ∧ (feedV text v).pre = [] ∧
    (∀ i, i < text.length → (feedV text v).z.F (c0 + i) = ⟨glyphV v.g (text.getD i 0).toNat, 0, false, 0⟩) ∧ (∀ j, j < c0 → (feedV text v).z.F j = v.z.F j)
  | [], v, c0, hp, hb, hr, hc, hl, hR, ht => ⟨hr, by show v.z.c = _; simpa using hc, rfl, rfl, rfl, hp, fun i hi => absurd hi (Nat.not_lt_zero _), fun _ _ => rfl⟩
  | b :: t, v, c0, hp, hb, hr, hc, hl, hR, ht => by
    have hth : There v.z.R v.z.C v.z.r v.z.c := ⟨by omega, by omega, by omega, by rw [hc]; simp at hl; omega⟩
    have e := byte_plain (ht b (by simp)) hp
    rw [put_clamp _ _ hb hth] at e
    have hlc : v.z.c < (v.z.C : Int) - 1 := by rw [hc]; simp at hl; omega
    rw [if_pos hlc] at e
    have hi : idx v.z.C v.z.r v.z.c = c0 := by rw [hr, hc]; simp [idx]
    rw [hi] at e
    obtain ⟨v1, hv1⟩ : ∃ v1, v1 = byteV v b := ⟨_, rfl⟩
    rw [← hv1] at e
    have q1 : v1.pre = [] := by rw [e]; exact hp
    have q2 : v1.z.b = false := by rw [e]
    have q3 : v1.z.r = 0 := by rw [e]; exact hr
    have q4 : v1.z.c = ((c0 + 1 : Nat) : Int) := by rw [e]; show v.z.c + 1 = _; omega
    have q5 : v1.z.C = v.z.C := by rw [e]
    have q6 : v1.z.R = v.z.R := by rw [e]
    have q7 : v1.g = v.g := by rw [e]
    have q8 : v1.z.F = upd v.z.F c0 ⟨glyphV v.g b.toNat, 0, false, 0⟩ := by rw [e]
    have ih := write_fact t v1 (c0 + 1) q1 q2 q3 q4 (by rw [q5]; simp at hl; omega) (by rw [q6]; exact hR) (fun b' hb' => ht b' (by simp [hb']))
    show (feedV t (byteV v b)).z.r = 0 ∧ (feedV t (byteV v b)).z.c = _ ∧ (feedV t (byteV v b)).z.R = _ ∧ (feedV t (byteV v b)).z.C = _ ∧ (feedV t (byteV v b)).g = _ ∧ (feedV t (byteV v b)).pre = _ ∧ (∀ i, i < (b :: t).length → (feedV t (byteV v b)).z.F (c0 + i) = _) ∧ (∀ j, j < c0 → (feedV t (byteV v b)).z.F j = _)
    rw [← hv1]
    obtain ⟨i1, i2, i3, i4, i5, i6, i7, i8⟩ := ih
    refine ⟨i1, by rw [i2]; congr 1; simp; omega, i3.trans q6, i4.trans q5, i5.trans q7, i6, fun i hi' => ?_, fun j hj => ?_⟩
    · cases i with
      | zero =>
        rw [Nat.add_zero, i8 c0 (Nat.lt_succ_self _), q8]
        simp [upd]
      | succ i =>
        have := i7 i (by simpa using hi')
        rw [show c0 + (i + 1) = c0 + 1 + i by omega, this, q7]
        simp
    · rw [i8 j (by omega), q8]
      simp [upd, Nat.ne_of_lt hj]

theorem byte_begin (v : Vt) : byteV v 27 = { v with pre := [27] } := rfl
theorem pair_do {v : Vt} (x : UInt8) : feedV [27, x] v = actV (doD 1 x.toNat) [27, x] { v with pre := [] } := by
  show byteV (byteV v 27) x = _
  rw [byte_begin]
  rfl
theorem head_fact (v : Vt) : feedV [27, 71, 27, 72] v = { v with g := false, pre := [], z := moveZ v.z 0 0 } := by
  rw [show ([27, 71, 27, 72] : List UInt8) = [27, 71] ++ [27, 72] from rfl, feed_append, pair_do, pair_do]
  rfl
theorem act_dims (d : Dw) (s : List UInt8) (v : Vt) : (actV d s v).z.R = v.z.R ∧ (actV d s v).z.C = v.z.C := by cases d <;> exact ⟨rfl, rfl⟩
theorem byte_dims (v : Vt) (b : UInt8) : (byteV v b).z.R = v.z.R ∧ (byteV v b).z.C = v.z.C := act_dims _ _ _
theorem feed_dims (l : List UInt8) : ∀ v : Vt, (feedV l v).z.R = v.z.R ∧ (feedV l v).z.C = v.z.C := by
  induction l with
  | nil => exact fun _ => ⟨rfl, rfl⟩
  | cons b l ih =>
    intro v
    have h1 := ih (byteV v b)
    have h2 := byte_dims v b
    exact ⟨h1.1.trans h2.1, h1.2.trans h2.2⟩
theorem glyph_plain : ∀ b : Fin 256, 32 ≤ b.val → b.val ≤ 126 → Gl.refN 1 b.val = b.val := by decide +kernel
theorem glyphV_plain {b : UInt8} (h : isPlain b) : glyphV false b.toNat = (b.toNat : Int) := by
  unfold glyphV
  have := glyph_plain ⟨b.toNat, UInt8.toNat_lt b⟩ h.1 h.2
  simp only at this
  simp [this]
/-- What Vt52Writes asks. -/
theorem writes_fact (R C most : Nat) (ahead text : List UInt8) (hR : 1 ≤ R) (hl : text.length < C) (ht : ∀ b ∈ text, isPlain b) :
    let v := feedV ([27, 71, 27, 72] ++ text) (feedV ahead (newV R C most))
    v.z.R = R ∧ v.z.C = C ∧ v.z.r = 0 ∧ v.z.c = (text.length : Int) ∧ ∀ i, i < text.length → v.z.F i = ⟨((text.getD i 0).toNat : Int), 0, false, 0⟩ := by
  intro v
  obtain ⟨d1, d2⟩ := feed_dims ahead (newV R C most)
  obtain ⟨v0, hv0⟩ : ∃ v0, v0 = feedV ahead (newV R C most) := ⟨_, rfl⟩
  have ev : v = feedV text { v0 with g := false, pre := [], z := moveZ v0.z 0 0 } := by
    show feedV _ _ = _
    rw [feed_append, ← hv0, head_fact]
  rw [← hv0] at d1 d2
  have hR' : v0.z.R = R := d1
  have hC' : v0.z.C = C := d2
  have n1 : nr 0 (v0.z.R : Int) = 0 := by unfold nr; omega
  have n2 : nr 0 (v0.z.C : Int) = 0 := by unfold nr; omega
  have := write_fact text { v0 with g := false, pre := [], z := moveZ v0.z 0 0 } 0 rfl rfl n1 n2 (by show 0 + _ < v0.z.C; omega) (by show 1 ≤ v0.z.R; omega) ht
  rw [← ev] at this
  obtain ⟨i1, i2, i3, i4, i5, i6, i7, i8⟩ := this
  refine ⟨i3.trans hR', i4.trans hC', i1, by rw [i2]; simp, fun i hi => ?_⟩
  have h := i7 i hi
  rw [Nat.zero_add] at h
  rw [h]
  have hm : text.getD i 0 ∈ text := by
    rw [List.getD_eq_getElem?_getD, List.getElem?_eq_getElem hi]
    exact List.getElem_mem hi
  show (⟨glyphV false _, 0, false, 0⟩ : Cel) = _
  rw [glyphV_plain (ht _ hm)]
end Go.Proofs.YtlhajbcabpfbkaaGreatDoor
