/-
  What Text does; the place and the cells of a pen.
-/
import Derived.Test.YtkdnjkcebfckiaaPut
namespace Go.Proofs.Ytkdnjkcebfckiaa
open Go.RowKit

/-- Where the cursor is behind j of the cells, how often the lines went up, and what the cells are. -/
structure Cur where
  r : Int
  c : Int
  b : Bool
  n : Int
  f : Nat → Cel
def Cur.put (R C : Nat) (s : Cur) (x : Cel) (k : Int) (bl : Cel) : Cur :=
  ⟨putR R C s.r s.c s.b k, putC C s.c s.b k, putP C s.c s.b k, s.n + putN R C s.r s.c s.b k, putF R C s.f s.r s.c s.b x k bl⟩
/-- The cells o, o + 1 .. of h, m of them, are put. -/
def putsN (R C : Nat) (k : Int) (bl : Cel) (h : Nat → Cel) (o : Nat) : Nat → Cur → Cur
  | 0, s => s
  | m + 1, s => (putsN R C k bl h o m s).put R C (h (o + m)) k bl
theorem putsN_n (R C : Nat) (k : Int) (bl : Cel) (h : Nat → Cel) (o : Nat) (s : Cur) : ∀ m : Nat, s.n ≤ (putsN R C k bl h o m s).n ∧ (putsN R C k bl h o m s).n ≤ s.n + 2 * m
  | 0 => ⟨Int.le_refl _, by simp [putsN]⟩
  | m + 1 => by
    have h1 := putsN_n R C k bl h o s m
    have h2 := putN_in R C (putsN R C k bl h o m s).r (putsN R C k bl h o m s).c (putsN R C k bl h o m s).b k
    simp only [putsN, Cur.put]
    omega
theorem putsN_add (R C : Nat) (k : Int) (bl : Cel) (h : Nat → Cel) (o a : Nat) (s : Cur) : ∀ m : Nat, putsN R C k bl h o (a + m) s = putsN R C k bl h (o + a) m (putsN R C k bl h o a s)
  | 0 => rfl
  | m + 1 => by
    rw [← Nat.add_assoc]
    simp only [putsN]
    rw [putsN_add R C k bl h o a s m, Nat.add_assoc]

set_option maxHeartbeats 2000000 in
theorem text_any (g t cap R C : Nat) (f : Nat → Cel) (r c k : Int) (b : Bool) (a : Option Addr) (tc o M cp : Nat) (h : Nat → Cel) (bl : Cel) (w : World) (hg : GridAt w g t cap R C f) (hM : M ≤ 70000)
    (ha : M = 0 ∨ a = some ⟨tc, o * 4, none⟩) (hrow : CellsAt w tc (o + M) h) (htc : tc ≠ t) :
    Calls Try.prog 28 #[.pointer (some ⟨g, 0, none⟩), place r c b, .slice a M cp, .int .i64 k, bl.v] w fun e w' => e = .returned (.tuple #[place (putsN R C k bl h o M ⟨r, c, b, 0, f⟩).r (putsN R C k bl h o M ⟨r, c, b, 0, f⟩).c (putsN R C k bl h o M ⟨r, c, b, 0, f⟩).b, .int .i64 (putsN R C k bl h o M ⟨r, c, b, 0, f⟩).n, .int .i64 0]) ∧ GridAt w' g t cap R C (putsN R C k bl h o M ⟨r, c, b, 0, f⟩).f ∧ Kept (· = t) w w' := by
  have hgl := hg.lt
  have htl := hg.row.lt
  have hcl := hrow.lt
  obtain ⟨s, hs⟩ : ∃ s : Nat → Cur, s = fun m => putsN R C k bl h o m ⟨r, c, b, 0, f⟩ := ⟨_, rfl⟩
  have hs0 : s 0 = ⟨r, c, b, 0, f⟩ := by rw [hs]; rfl
  have hsn : ∀ m, s (m + 1) = (s m).put R C (h (o + m)) k bl := fun m => by rw [hs]; rfl
  have hsb : ∀ m, 0 ≤ (s m).n ∧ (s m).n ≤ 2 * m := fun m => by
    have := putsN_n R C k bl h o ⟨r, c, b, 0, f⟩ m
    rw [hs]; simp only at this ⊢; omega
  have hsM : putsN R C k bl h o M ⟨r, c, b, 0, f⟩ = s M := by rw [hs]
  rw [hsM]
  clear hs hsM
  have HS0 := Lib.hid hs0
  have HSN := Lib.hid hsn
  have HSB := Lib.hid hsb
  have HG := Lib.hid hg
  have HR := Lib.hid hrow
  have HA := Lib.hid ha
  clear hg hrow hs0 hsn hsb ha
  go_enter Try.func28, Try.ntmps28
  go_wp2_with fail
  obtain ⟨W, hW⟩ : ∃ W, W = ((w.alloc (.cells #[.int .i64 r, .int .i64 c, .bool b] 39)).alloc (.cells #[.int .i32 bl.g, .int .i64 bl.a, .bool bl.b, .int .i64 bl.m] 36)).alloc (.cells #[.int .i64 0, .int .i64 0, .bool false] 39) := ⟨_, rfl⟩
  have k0 : Kept0 w W := by rw [hW]; exact (((Kept.refl _ w).alloc _).alloc _).alloc _
  have hp : Three W w.heap.size r c b := by rw [hW]; exact Three.of (heap_old _ _ (heap_old _ _ (heap_new _ _)))
  have hx : CelAt W (w.heap.size + 1) bl := by rw [hW]; constructor <;> simp [go_sem]
  have ho : Three W (w.heap.size + 1 + 1) 0 0 false := by rw [hW]; exact Three.of (heap_newC _ _ _ _)
  rw [← hW]
  clear hW
  have HGW : Hid (GridAt W g t cap R C f) := HG.out.kept k0 (fun e => e) (fun e => e)
  have HRW : Hid (CellsAt W tc (o + M) h) := HR.out.kept k0 (fun e => e)
  have lo := ho.lt
  have KW := Lib.hid k0
  clear HG HR k0
  go_loopw [13, 24] (fun s13 s24 wr => ∃ j : Nat, j ≤ M ∧ s24 = .int .i64 (j : Int) ∧ s13 = .int .i64 (s j).n ∧ Three wr w.heap.size (s j).r (s j).c (s j).b ∧ CelAt wr (w.heap.size + 1) bl ∧ Three wr (w.heap.size + 1 + 1) 0 0 false ∧ Hid (GridAt wr g t cap R C (s j).f) ∧ Hid (CellsAt wr tc (o + M) h) ∧ Hid (Kept (· = t) w wr)) (fun _ s24 _ => ((M : Int) - intOf s24).toNat)
  case atStart => exact ⟨0, by omega, rfl, by rw [HS0.out], by rw [HS0.out]; exact hp, hx, ho, by rw [HS0.out]; exact HGW, HRW, Kept0.to KW.out⟩
  case round =>
    clear hp hx ho HGW HRW KW
    obtain ⟨j, hj, rfl, rfl, hp, hx, ho, hG, hR, hK⟩ := hrel
    by_cases hlt : j < M
    · have ha : a = some ⟨tc, o * 4, none⟩ := HA.out.resolve_left (by omega)
      subst ha
      have d1 : decide ((j : Int) < (M : Int)) = true := by simp; omega
      have dM : decide (M ≤ j) = false := by simp; omega
      obtain ⟨x, hxe⟩ : ∃ x, x = h (o + j) := ⟨_, rfl⟩
      obtain ⟨e0, e1, e2, e3⟩ := hR.out.cell (k := o + j) (by omega)
      rw [← hxe, Nat.add_mul] at e0 e1 e2 e3
      have HSN1 := HSN.out j
      rw [← hxe] at HSN1
      have HSJ := Lib.hid HSN1
      have HB1 := Lib.hid (HSB.out j)
      obtain ⟨q, hq⟩ : ∃ q, q = s j := ⟨_, rfl⟩
      rw [← hq] at hp hG HSJ HB1 ⊢
      clear hxe HSN1 hq
      have lt1 := hp.lt
      have lt2 := ho.lt
      have lt3 := World.block_lt_of_cell? wr _ hx.c0
      have lt4 := World.block_lt_of_cell? wr _ e0
      have HP := Lib.hid hp
      have HX := Lib.hid hx
      have HO := Lib.hid ho
      clear ho
      obtain ⟨p0, p1, p2, p3, p4, p5⟩ := hp
      obtain ⟨x0, x1, x2, x3⟩ := hx
      go_wp2_with fail
      have k1 : Kept0 wr (wr.alloc (.cells #[.int .i32 x.g, .int .i64 x.a, .bool x.b, .int .i64 x.m] 36)) := (Kept.refl _ wr).alloc _
      refine (put_any g t cap R C q.f q.r q.c k q.b x bl _ (hG.out.kept k1 (fun e => e) (fun e => e))).mono ?_
      rintro e w3 ⟨rfl, hG3, hk3⟩
      have hP3 := (HP.out.kept0 k1).kept hk3 (by omega)
      have hX3 := Lib.hid ((HX.out.kept k1 (fun e => e)).kept hk3 (by omega))
      have hO3 := Lib.hid ((HO.out.kept0 k1).kept hk3 (by omega))
      have hR3 := Lib.hid ((hR.out.kept k1 (fun e => e)).kept hk3 htc)
      have hK3 : Hid (Kept (· = t) w w3) := (hK.out.trans (Kept0.to k1)).trans hk3
      have HG3 := Lib.hid hG3
      have HP3 := Lib.hid hP3
      have hb1 := HB1.out
      have hb2 := putN_in R C q.r q.c q.b k
      have e9 : IntKind.i64.wrap (q.n + putN R C q.r q.c q.b k) = q.n + putN R C q.r q.c q.b k := IntWalk.i64_in _ ⟨by omega, by omega⟩
      unfold Cur.put at HSJ
      generalize putN R C q.r q.c q.b k = n' at *
      generalize putR R C q.r q.c q.b k = r' at *
      generalize putC C q.c q.b k = c' at *
      generalize putP C q.c q.b k = b' at *
      generalize putF R C q.f q.r q.c q.b x k bl = f' at *
      have l3 := hP3.lt
      have l4 := hO3.out.lt
      clear HP HX HO hR hK hG hG3 hk3 k1 p0 p1 p2 p3 p4 p5 x0 x1 x2 x3 e0 e1 e2 e3 hb1 hb2 HB1 lt1 lt2 lt3 lt4
      obtain ⟨p0, p1, p2, p3, p4, p5⟩ := hP3
      have e2 : IntKind.i64.wrap ((j : Int) + 1) = (j : Int) + 1 := IntWalk.i64_in _ ⟨by omega, by omega⟩
      go_wp2_with fail
      obtain ⟨V, hV⟩ : ∃ V, V = ((((w3.setCell ⟨w.heap.size, 0, none⟩ (.int .i64 r')).setCell ⟨w.heap.size, 1, none⟩ (.int .i64 c')).setCell ⟨w.heap.size, 2, none⟩ (.bool b')).alloc (.cells #[.int .i64 r', .int .i64 c', .bool b'] 39)) := ⟨_, rfl⟩
      have hT : Three V w.heap.size r' c' b' := by rw [hV]; exact (HP3.out.set r' c' b').kept0 ((Kept.refl _ _).alloc _)
      have kV : Kept (· = w.heap.size) w3 V := by rw [hV]; exact ((((Kept.refl (· = w.heap.size) w3).setCell ⟨w.heap.size, 0, none⟩ (Or.inr rfl) _).setCell ⟨w.heap.size, 1, none⟩ (Or.inr rfl) _).setCell ⟨w.heap.size, 2, none⟩ (Or.inr rfl) _).alloc _
      rw [← hV]
      clear hV
      refine ⟨⟨j + 1, by omega, by simp, by rw [HSJ.out], by rw [HSJ.out]; exact hT, hX3.out.kept kV (by omega), hO3.out.kept kV (by omega), by rw [HSJ.out]; exact HG3.out.kept kV (by omega) (by omega), hR3.out.kept kV (by omega), hK3.out.later kV (fun i hi e => by omega)⟩, ?_⟩
      simp [intOf]
      omega
    · obtain rfl : j = M := by omega
      have d1 : decide ((j : Int) < (j : Int)) = false := by simp
      have l1 := hp.lt
      have l2 := ho.lt
      obtain ⟨p0, p1, p2, p3, p4, p5⟩ := hp
      obtain ⟨o0, o1, o2, o3, o4, o5⟩ := ho
      go_wp2_with fail
      have q2 : w.heap.size ≤ w.heap.size + 1 + 1 := by omega
      have kend : Kept (· = w.heap.size + 1 + 1) wr _ := (((Kept.refl (· = w.heap.size + 1 + 1) wr).setCell ⟨w.heap.size + 1 + 1, 0, none⟩ (Or.inr rfl) (.int .i64 (s j).r)).setCell ⟨w.heap.size + 1 + 1, 1, none⟩ (Or.inr rfl) (.int .i64 (s j).c)).setCell ⟨w.heap.size + 1 + 1, 2, none⟩ (Or.inr rfl) (.bool (s j).b)
      exact bodyPost_ret (v := .tuple #[place (s j).r (s j).c (s j).b, .int .i64 (s j).n, .int .i64 0]) (by simp [results, Try.results28, go_sem, o0, o1, o2]) rfl ⟨rfl, hG.out.kept kend (by omega) (by omega), ((hK.out.setCell _ (Or.inl q2) _).setCell _ (Or.inl q2) _).setCell _ (Or.inl q2) _⟩

set_option maxHeartbeats 400000 in
theorem text_nil (r c k : Int) (b : Bool) (l : Value) (bl : Cel) (w : World) :
    Calls Try.prog 28 #[.pointer none, place r c b, l, .int .i64 k, bl.v] w fun e w' => e = .returned (.tuple #[place 0 0 false, .int .i64 0, .int .i64 2]) ∧ Kept0 w w' := by
  go_enter Try.func28, Try.ntmps28
  go_wp2_with fail
  exact bodyPost_ret (v := .tuple #[place 0 0 false, .int .i64 0, .int .i64 2]) (by simp [results, Try.results28, go_sem]) rfl ⟨rfl, (((Kept.refl _ w).alloc _).alloc _).alloc _⟩

end Go.Proofs.Ytkdnjkcebfckiaa
