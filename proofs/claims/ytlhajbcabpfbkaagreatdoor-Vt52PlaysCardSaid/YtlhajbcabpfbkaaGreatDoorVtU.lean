/-
  What stays so whatever is fed: the cursor is on the screen, cells are plain.
-/
import Derived.Test.YtlhajbcabpfbkaaGreatDoorVtQ
namespace Go.Proofs.YtlhajbcabpfbkaaGreatDoor
open Go.RowKit

def CleanC (x : Cel) : Prop := x.a = 0 ∧ x.b = false ∧ x.m = 0
def Clean (F : Nat → Cel) : Prop := ∀ i, CleanC (F i)
theorem clean_blk : CleanC blk := ⟨rfl, rfl, rfl⟩
theorem clean_new (g : Int) : CleanC ⟨g, 0, false, 0⟩ := ⟨rfl, rfl, rfl⟩
theorem clean_move {F : Nat → Cel} (h : Clean F) (o L : Nat) (n : Int) : Clean (moveF F o L n blk) := fun k => by
  unfold moveF
  split
  · split
    · exact h _
    · exact clean_blk
  · exact h _
theorem clean_up {F : Nat → Cel} (h : Clean F) (R C : Nat) (n : Int) : Clean (upF R C F n blk) := clean_move h _ _ _
theorem clean_upd {F : Nat → Cel} (h : Clean F) (i : Nat) {x : Cel} (hx : CleanC x) : Clean (upd F i x) := fun k => by
  unfold upd
  split
  · exact hx
  · exact h _
theorem clean_part {F : Nat → Cel} (h : Clean F) (i n : Nat) : Clean (Wp.partT F (Wp.one false (fun _ => blk)) i n) := fun k => by
  unfold Wp.partT
  split
  · unfold Wp.one
    simp [clean_blk]
  · exact h _
theorem clean_wipe {F : Nat → Cel} (h : Clean F) (R C : Nat) (p q p' q' : Int) : Clean (swipeF R C F p q p' q' blk false) := by
  unfold swipeF Wp.wipeF
  split
  · exact clean_part h _ _
  · exact h

structure Flat (v : Vt) : Prop where
  R1 : 1 ≤ v.z.R
  C1 : 1 ≤ v.z.C
  at' : There v.z.R v.z.C v.z.r v.z.c
  nb : v.z.b = false
  cl : Clean v.z.F
  pre : v.pre.length ≤ 3

structure FlatZ (z : St) : Prop where
  R1 : 1 ≤ z.R
  C1 : 1 ≤ z.C
  at' : There z.R z.C z.r z.c
  nb : z.b = false
  cl : Clean z.F
theorem Flat.z {v : Vt} (h : Flat v) : FlatZ v.z := ⟨h.R1, h.C1, h.at', h.nb, h.cl⟩
theorem FlatZ.move {z : St} (h : FlatZ z) (p q : Int) : FlatZ (moveZ z p q) := by
  have h1 := h.R1
  have h2 := h.C1
  exact ⟨h.R1, h.C1, ⟨nr_lo _ _, nr_hi _ _ (by omega), nr_lo _ _, nr_hi _ _ (by omega)⟩, rfl, h.cl⟩
theorem FlatZ.step {z : St} (h : FlatZ z) (p q : Int) : FlatZ (stepZ z p q) := by
  have h1 := h.R1
  have h2 := h.C1
  exact ⟨h.R1, h.C1, ⟨nr_lo _ _, nr_hi _ _ (by omega), nr_lo _ _, nr_hi _ _ (by omega)⟩, rfl, h.cl⟩
theorem FlatZ.feed {z : St} (h : FlatZ z) (n : Int) : FlatZ (feedZ z n) := by
  have h1 := h.R1
  exact ⟨h.R1, h.C1, ⟨nr_lo _ _, nr_hi _ _ (by omega), h.at'.2.2.1, h.at'.2.2.2⟩, rfl, clean_up h.cl _ _ _⟩
theorem FlatZ.wipe {z : St} (h : FlatZ z) (p q p' q' : Int) : FlatZ (wipeZ z p q p' q') := ⟨h.R1, h.C1, h.at', h.nb, clean_wipe h.cl _ _ _ _ _ _⟩
theorem FlatZ.put {z : St} (h : FlatZ z) (g : Int) : FlatZ (putZ z ⟨g, 0, false, 0⟩ 1 false) := by
  rw [put_clamp z _ h.nb h.at']
  obtain ⟨h1, h2, h3, h4⟩ := h.at'
  refine ⟨h.R1, h.C1, ⟨h1, h2, ?_, ?_⟩, rfl, clean_upd h.cl _ (clean_new _)⟩
  · show 0 ≤ (if z.c < (z.C : Int) - 1 then z.c + 1 else z.c)
    split <;> omega
  · show (if z.c < (z.C : Int) - 1 then z.c + 1 else z.c) < (z.C : Int)
    split <;> omega

theorem flat_act {d : Dw} {s : List UInt8} {v : Vt} (hl : LenOk d s) (h : Flat v) (hv : v.pre = []) : Flat (actV d s v) := by
  have hp := act_pre hl hv
  have mk : ∀ {v' : Vt}, FlatZ v'.z → v'.pre.length ≤ 3 → Flat v' := fun a b => ⟨a.R1, a.C1, a.at', a.nb, a.cl, b⟩
  cases d <;> refine mk ?_ hp
  case step => exact h.z.step _ _
  case tab => exact h.z.move _ _
  case feed => exact h.z.feed _
  case first => exact h.z.move _ _
  case put => exact h.z.put _
  case home => exact h.z.move _ _
  case goTo => exact h.z.move _ _
  case wipeS => exact h.z.wipe _ _ _ _
  case wipeR => exact h.z.wipe _ _ _ _
  all_goals exact h.z
theorem flat_pre {v : Vt} (h : Flat v) {l : List UInt8} (hl : l.length ≤ 3) : Flat { v with pre := l } := ⟨h.R1, h.C1, h.at', h.nb, h.cl, hl⟩
theorem flat_byte {v : Vt} (h : Flat v) (b : UInt8) : Flat (byteV v b) := flat_act (doD_len h.pre b) (flat_pre h (by simp)) rfl
theorem flat_feed {l : List UInt8} : ∀ {v : Vt}, Flat v → Flat (feedV l v) := by
  induction l with
  | nil => exact fun h => h
  | cons b l ih => intro v h; exact ih (flat_byte h b)
theorem flat_new {R C : Nat} (most : Nat) (hR : 1 ≤ R) (hC : 1 ≤ C) : Flat (newV R C most) := ⟨hR, hC, ⟨by show (0 : Int) ≤ 0; omega, by show (0 : Int) < R; omega, by show (0 : Int) ≤ 0; omega, by show (0 : Int) < C; omega⟩, rfl, fun _ => clean_blk, by show 0 ≤ 3; omega⟩
theorem flat_reset {v : Vt} (h : Flat v) : Flat (resetV v) := by
  have := (h.z.move 0 0).wipe (moveZ v.z 0 0).r (moveZ v.z 0 0).c ((v.z.R : Int) - 1) ((v.z.C : Int) - 1)
  exact ⟨this.R1, this.C1, this.at', this.nb, this.cl, by show 0 ≤ 3; omega⟩

/-- A glyph is put where the cursor is, whatever was pending. -/
theorem tilde_fact {v : Vt} (h : Flat v) : (feedV [27, 71, 126] { v with pre := [] }).z.F (idx v.z.C v.z.r v.z.c) = ⟨126, 0, false, 0⟩ := by
  have e : feedV [27, 71, 126] { v with pre := [] } = byteV { v with g := false, pre := [] } 126 := by
    rw [show ([27, 71, 126] : List UInt8) = [27, 71] ++ [126] from rfl, feed_append, pair_do]
    rfl
  have hp : isPlain 126 := by unfold isPlain; decide
  rw [e, byte_plain hp rfl, put_clamp _ _ h.nb h.at']
  show upd v.z.F (idx v.z.C v.z.r v.z.c) _ (idx v.z.C v.z.r v.z.c) = _
  rw [show glyphV false ((126 : UInt8).toNat) = 126 from glyphV_plain hp]
  simp [upd]

/-- What Vt52Graphs asks. -/
theorem glyphG_back : ∀ b : Fin 256, 32 ≤ b.val → b.val ≤ 126 → ∃ n : Nat, Gl.bk 3 (Gl.refN 3 b.val : Int) = some n := by
  have : ∀ b : Fin 256, 32 ≤ b.val → b.val ≤ 126 → (Gl.bk 3 (Gl.refN 3 b.val : Int)).isSome = true := by decide +kernel
  exact fun b h1 h2 => Option.isSome_iff_exists.1 (this b h1 h2)
theorem graphs_fact (R C most : Nat) (text : List UInt8) (hR : 1 ≤ R) (hl : text.length < C) (ht : ∀ b ∈ text, isPlain b) :
    let v1 := feedV ([27, 70] ++ text) (newV R C most)
    let v2 := feedV ([27, 70, 27, 71] ++ text) (newV R C most)
    (v1.z.R = R ∧ v1.z.C = C ∧ v1.g = true ∧ ∀ i, i < text.length → v1.z.F i = ⟨(Gl.refN 3 (text.getD i 0).toNat : Int), 0, false, 0⟩) ∧
    (v2.z.R = R ∧ v2.z.C = C ∧ v2.g = false ∧ ∀ i, i < text.length → v2.z.F i = ⟨((text.getD i 0).toNat : Int), 0, false, 0⟩) := by
  intro v1 v2
  have e1 : v1 = feedV text { newV R C most with g := true } := by
    show feedV _ _ = _
    rw [feed_append, pair_do]
    rfl
  have e2 : v2 = feedV text (newV R C most) := by
    show feedV _ _ = _
    rw [feed_append, show ([27, 70, 27, 71] : List UInt8) = [27, 70] ++ [27, 71] from rfl, feed_append, pair_do, pair_do]
    rfl
  have w1 := write_fact text { newV R C most with g := true } 0 rfl rfl rfl rfl (by show 0 + _ < C; omega) (by show 1 ≤ R; omega) ht
  have w2 := write_fact text (newV R C most) 0 rfl rfl rfl rfl (by show 0 + _ < C; omega) (by show 1 ≤ R; omega) ht
  rw [← e1] at w1
  rw [← e2] at w2
  obtain ⟨i1, i2, i3, i4, i5, i6, i7, i8⟩ := w1
  obtain ⟨j1, j2, j3, j4, j5, j6, j7, j8⟩ := w2
  refine ⟨⟨i3, i4, i5, fun i hi => ?_⟩, ⟨j3, j4, j5, fun i hi => ?_⟩⟩
  · have h := i7 i hi
    rw [Nat.zero_add] at h
    rw [h]
    rfl
  · have h := j7 i hi
    rw [Nat.zero_add] at h
    rw [h]
    have hm : text.getD i 0 ∈ text := by
      rw [List.getD_eq_getElem?_getD, List.getElem?_eq_getElem hi]
      exact List.getElem_mem hi
    show (⟨glyphV false _, 0, false, 0⟩ : Cel) = _
    rw [glyphV_plain (ht _ hm)]
end Go.Proofs.YtlhajbcabpfbkaaGreatDoor
