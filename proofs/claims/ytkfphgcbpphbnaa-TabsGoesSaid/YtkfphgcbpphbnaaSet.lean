/-
  A set of columns that stands in a map; tabs, and the document's answer's, in memory; clear. Of the program the types alone.
-/
import Derived.Test.YtkfphgcbpphbnaaProg
import Derived.Test.YtkfphgcbpphbnaaNums
import Derived.Maps.OwnSet
import Derived.Maps.RangeWalk
import Derived.Lib.SlKeysI
import Derived.Deep.QuietTactic
import Derived.BigQuiet
namespace Go.Proofs.Ytkfphgcbpphbnaa
open Go.RowKit Go.Maps Go.ChangeMaps Go.MapKept

/-- A number out of a value. -/
def num : Value → Int
  | .int _ a => a
  | _ => 0

/-- How an element struct{} reads. -/
abbrev uE : Value → Option (DataW Unit × List MemPlace) := unitElem (H := Unit)
theorem law : Keyed Try.prog 3 := int_keyed Try.underlying3
theorem wf_nat {c : Nat} (h : c < 1000) : (Lit.int .i64 (c : Int)).wf = true := WalkArith.wf_i64 (by omega)
theorem key_nat {c : Nat} (h : c < 1000) : keyOf Try.prog 3 (.int .i64 (c : Int)) = some (.int .i64 (c : Int)) := keyOf_int_mk Try.underlying3 (wf_nat h)
theorem zero62 (w : World) : (zeroValue 62).run Try.prog w = .ok (.agg #[]) w := by kernel_rfl

/-- A map's keys are just the stops. -/
def SetIs (D : DataW Unit) (N : Nat) (f : Nat → Bool) : Prop := ∀ k, Maps.has D k = true ↔ ∃ c : Nat, c < N ∧ f c = true ∧ k = .int .i64 (c : Int)

theorem lit_inj {a b : Int} (h : Lit.int .i64 a = Lit.int .i64 b) : a = b := by cases h; rfl
theorem SetIs.at {D : DataW Unit} {N : Nat} {f : Nat → Bool} (h : SetIs D N f) {c : Nat} (hc : c < N) : Maps.has D (.int .i64 (c : Int)) = f c := by
  rw [Bool.eq_iff_iff, h]
  constructor
  · rintro ⟨c', h1, h2, h3⟩
    have := lit_inj h3
    obtain rfl : c = c' := by omega
    exact h2
  · intro hf; exact ⟨c, hc, hf, rfl⟩
theorem SetIs.empty (N : Nat) : SetIs (.map []) N (fun _ => false) := fun k => by simp [Maps.has]
theorem SetIs.put {D : DataW Unit} {N : Nat} {f : Nat → Bool} (h : SetIs D N f) (hm : IsMap D) {c : Nat} (hc : c < N) (d : DataW Unit) : SetIs (D.put (.int .i64 (c : Int)) d) N (upd f c true) := fun k => by
  by_cases e : k = .int .i64 (c : Int)
  · subst e
    rw [has_put_same hm (show WideAt.IsKeyLit (.int .i64 (c : Int)) from trivial)]
    simp only [true_iff]
    exact ⟨c, hc, by simp [upd], rfl⟩
  · rw [has_put_other e, h]
    constructor
    · rintro ⟨c', h1, h2, rfl⟩
      exact ⟨c', h1, by unfold upd; split <;> simp_all, rfl⟩
    · rintro ⟨c', h1, h2, rfl⟩
      refine ⟨c', h1, ?_, rfl⟩
      unfold upd at h2
      rw [if_neg (fun e' => e (by rw [e']))] at h2
      exact h2
theorem SetIs.del {D : DataW Unit} {N : Nat} {f : Nat → Bool} (h : SetIs D N f) (c : Nat) : SetIs (D.del (.int .i64 (c : Int))) N (upd f c false) := fun k => by
  by_cases e : k = .int .i64 (c : Int)
  · subst e
    rw [has_del_same]
    simp only [Bool.false_eq_true, false_iff]
    rintro ⟨c', h1, h2, h3⟩
    have := lit_inj h3
    obtain rfl : c = c' := by omega
    simp [upd] at h2
  · rw [has_del_other e, h]
    constructor
    · rintro ⟨c', h1, h2, rfl⟩
      refine ⟨c', h1, ?_, rfl⟩
      unfold upd
      rw [if_neg (fun e' => e (by rw [e']))]
      exact h2
    · rintro ⟨c', h1, h2, rfl⟩
      refine ⟨c', h1, ?_, rfl⟩
      unfold upd at h2
      rw [if_neg (fun e' => e (by rw [e']))] at h2
      exact h2
theorem SetIs.congr {D : DataW Unit} {N : Nat} {f g : Nat → Bool} (h : SetIs D N f) (e : ∀ c, c < N → f c = g c) : SetIs D N g := fun k => by
  rw [h]
  constructor
  · rintro ⟨c, h1, h2, h3⟩; exact ⟨c, h1, (e c h1) ▸ h2, h3⟩
  · rintro ⟨c, h1, h2, h3⟩; exact ⟨c, h1, (e c h1).symm ▸ h2, h3⟩
/-- The keys are the list of the stops, in some order. -/
theorem SetIs.perm {D : DataW Unit} {N : Nat} {f : Nat → Bool} (h : SetIs D N f) {w : World} {b n : Nat} (hown : w.ownsMap Try.prog 3 uE b n D) : (listN N f).Perm (intKeys D) := by
  obtain ⟨es, rfl, hp, _⟩ := hown.entries law
  obtain ⟨es', he, hk⟩ := hown.keysOf
  cases he
  refine perm_intKeys hp (fun p hp' => ?_) (listN_nodup N f) (fun x => ?_)
  · have h1 : Maps.has (.map es) p.1 = true := by
      rw [has_eq, List.any_eq_true]
      obtain ⟨v, hv⟩ := hk p hp'
      obtain ⟨x, _, h2, _⟩ := Maps.keyOf_i64 Try.underlying3 hv
      exact ⟨p, hp', by rw [h2]; simp [Lit.sameKey]⟩
    obtain ⟨c, _, _, h3⟩ := (h p.1).1 h1
    exact ⟨_, h3⟩
  · rw [mem_listN, h]
    constructor
    · rintro ⟨c, h1, h2, rfl⟩; exact ⟨c, h1, h2, rfl⟩
    · rintro ⟨c, h1, h2, h3⟩; exact ⟨c, h1, h2, lit_inj h3⟩
theorem SetIs.size {D : DataW Unit} {N : Nat} {f : Nat → Bool} (h : SetIs D N f) {w : World} {b n : Nat} (hown : w.ownsMap Try.prog 3 uE b n D) : Maps.size D ≤ N := by
  have hp := (h.perm hown).length_eq
  have hl := listN_len N f
  obtain ⟨es, rfl, _⟩ := hown.entries law
  simp [intKeys] at hp
  simp [Maps.size]
  omega
theorem owns_few {D : DataW Unit} {w : World} {b n m : Nat} (hown : w.ownsMap Try.prog 3 uE b n D) (h : Maps.size D ≤ m) : w.ownsMap Try.prog 3 uE b m D := by
  obtain ⟨es, clock, hb, F, hs, rfl⟩ := hown
  exact ⟨es, clock, hb, F, by simpa [Maps.size, length_sorted] using h, rfl⟩

/-- A map in block m has just the stops. -/
def SetAt (w : World) (m N : Nat) (f : Nat → Bool) : Prop := ∃ D, w.ownsMap Try.prog 3 uE m N D ∧ SetIs D N f
theorem SetAt.of {w : World} {m n N : Nat} {f : Nat → Bool} {D : DataW Unit} (h : w.ownsMap Try.prog 3 uE m n D) (k : SetIs D N f) : SetAt w m N f := ⟨D, owns_few h (k.size h), k⟩
theorem SetAt.lt {w : World} {m N : Nat} {f : Nat → Bool} (h : SetAt w m N f) : m < w.heap.size := by obtain ⟨D, h1, _⟩ := h; exact h1.lt
theorem owns_kept {D : DataW Unit} {S : Nat → Prop} {w w' : World} {b n : Nat} (h : w.ownsMap Try.prog 3 uE b n D) (k : Kept S w w') (hs : ¬ S b) : w'.ownsMap Try.prog 3 uE b n D := by
  have hlt := h.lt
  obtain ⟨es, clock, hb, F, h1, h2⟩ := h
  exact ⟨es, clock, (k.block b hlt hs).trans hb, F, h1, h2⟩
theorem SetAt.kept {w w' : World} {m N : Nat} {f : Nat → Bool} (h : SetAt w m N f) {S : Nat → Prop} (k : Kept S w w') (hs : ¬ S m) : SetAt w' m N f := by
  obtain ⟨D, h1, h2⟩ := h
  exact ⟨D, owns_kept h1 k hs, h2⟩
theorem SetAt.congr {w : World} {m N : Nat} {f g : Nat → Bool} (h : SetAt w m N f) (e : ∀ c, c < N → f c = g c) : SetAt w m N g := by
  obtain ⟨D, h1, h2⟩ := h
  exact ⟨D, h1, h2.congr e⟩
theorem SetAt.block {w : World} {m N : Nat} {f : Nat → Bool} (h : SetAt w m N f) : ∃ es clock, w.heap[m]? = some (.map es clock) := by
  obtain ⟨D, ⟨es, clock, hb, _⟩, _⟩ := h
  exact ⟨es, clock, hb⟩
theorem SetAt.ne {w : World} {m N b o : Nat} {f : Nat → Bool} (h : SetAt w m N f) {v : Value} (hc : w.cell? ⟨b, o, none⟩ = some v) : b ≠ m := by
  rintro rfl
  obtain ⟨es, clock, hb⟩ := h.block
  simp [World.cell?, hb] at hc
theorem turned_kept {w w' : World} {b : Nat} (h : w.mapTurned w' b) : Kept (· = b) w w' := (Kept.ofGrown h.grown).mono (fun k _ e => by cases e; rfl)

/-- Tabs in block t, their stops in the map of block m. -/
structure TabsAt (w : World) (t m N : Nat) (f : Nat → Bool) : Prop where
  head : w.heap[t]? = some (.cells #[.int .i64 (N : Int), .map (some m)] 56 (0, 0))
  set : SetAt w m N f
  N1 : 1 ≤ N
  N2 : N ≤ 255
namespace TabsAt
variable {w w' : World} {t m N : Nat} {f : Nat → Bool}
theorem lt (h : TabsAt w t m N f) : t < w.heap.size := (Array.getElem?_eq_some_iff.1 h.head).1
theorem c0 (h : TabsAt w t m N f) : w.cell? ⟨t, 0, none⟩ = some (.int .i64 (N : Int)) := by simp [World.cell?, h.head]
theorem c1 (h : TabsAt w t m N f) : w.cell? ⟨t, 1, none⟩ = some (.map (some m)) := by simp [World.cell?, h.head]
theorem fz (h : TabsAt w t m N f) (k : Nat) : w.frozen? ⟨t, k, none⟩ = false := by simp [World.frozen?, h.head]
theorem ne (h : TabsAt w t m N f) : t ≠ m := h.set.ne h.c0
theorem kept (h : TabsAt w t m N f) {S : Nat → Prop} (k : Kept S w w') (ht : ¬ S t) (hm : ¬ S m) : TabsAt w' t m N f :=
  ⟨(k.block t h.lt ht).trans h.head, h.set.kept k hm, h.N1, h.N2⟩
theorem kept0 (h : TabsAt w t m N f) (k : Kept0 w w') : TabsAt w' t m N f := h.kept k (fun e => e) (fun e => e)
theorem withSet (h : TabsAt w t m N f) {g : Nat → Bool} (k : Kept (· = m) w w') (hs : SetAt w' m N g) : TabsAt w' t m N g :=
  ⟨(k.block t h.lt h.ne).trans h.head, hs, h.N1, h.N2⟩
theorem congr (h : TabsAt w t m N f) {g : Nat → Bool} (e : ∀ c, c < N → f c = g c) : TabsAt w t m N g := ⟨h.head, h.set.congr e, h.N1, h.N2⟩
end TabsAt

/-- The document's answer's tabs in block r, its truths in block b. -/
structure RefAt (w : World) (r b N : Nat) (f : Nat → Bool) : Prop where
  head : w.heap[r]? = some (.cells #[.slice (some ⟨b, 0, none⟩) N N] 41 (0, 0))
  row : ∃ cur : Array Value, w.heap[b]? = some (.cells cur 4 (0, 0)) ∧ ∀ k, k < N → cur[k]? = some (.bool (f k))
  N1 : 1 ≤ N
  N2 : N ≤ 255
namespace RefAt
variable {w w' : World} {r b N : Nat} {f : Nat → Bool}
theorem lt (h : RefAt w r b N f) : r < w.heap.size := (Array.getElem?_eq_some_iff.1 h.head).1
theorem ltb (h : RefAt w r b N f) : b < w.heap.size := by obtain ⟨cur, h1, _⟩ := h.row; exact (Array.getElem?_eq_some_iff.1 h1).1
theorem c0 (h : RefAt w r b N f) : w.cell? ⟨r, 0, none⟩ = some (.slice (some ⟨b, 0, none⟩) N N) := by simp [World.cell?, h.head]
theorem cell (h : RefAt w r b N f) {k : Nat} (hk : k < N) : w.cell? ⟨b, k, none⟩ = some (.bool (f k)) := by
  obtain ⟨cur, h1, h2⟩ := h.row
  simp [World.cell?, h1, h2 k hk]
theorem frozen (h : RefAt w r b N f) (k : Nat) : w.frozen? ⟨b, k, none⟩ = false := by
  obtain ⟨cur, h1, h2⟩ := h.row
  simp [World.frozen?, h1]
theorem ne (h : RefAt w r b N f) : r ≠ b := by
  rintro rfl
  obtain ⟨cur, h1, _⟩ := h.row
  have := h.head.symm.trans h1
  simp at this
theorem kept (h : RefAt w r b N f) {S : Nat → Prop} (k : Kept S w w') (hr : ¬ S r) (hb : ¬ S b) : RefAt w' r b N f := by
  refine ⟨(k.block r h.lt hr).trans h.head, ?_, h.N1, h.N2⟩
  have hl := h.ltb
  obtain ⟨cur, h1, h2⟩ := h.row
  exact ⟨cur, (k.block b hl hb).trans h1, h2⟩
theorem kept0 (h : RefAt w r b N f) (k : Kept0 w w') : RefAt w' r b N f := h.kept k (fun e => e) (fun e => e)
theorem congr (h : RefAt w r b N f) {g : Nat → Bool} (e : ∀ c, c < N → f c = g c) : RefAt w r b N g := by
  refine ⟨h.head, ?_, h.N1, h.N2⟩
  obtain ⟨cur, h1, h2⟩ := h.row
  exact ⟨cur, h1, fun k hk => by rw [h2 k hk, e k hk]⟩
theorem set (h : RefAt w r b N f) (i : Nat) (x : Bool) : RefAt (w.setCell ⟨b, i, none⟩ (.bool x)) r b N (upd f i x) := by
  refine ⟨((Kept.set1 w b i (.bool x)).block r h.lt h.ne).trans h.head, ?_, h.N1, h.N2⟩
  obtain ⟨cur, h1, h2⟩ := h.row
  refine ⟨cur.setIfInBounds i (.bool x), ?_, fun k hk => ?_⟩
  · simp [World.setCell, Array.getElem?_modify, h1]
  · have := h2 k hk
    have hlt : k < cur.size := (Array.getElem?_eq_some_iff.1 this).1
    unfold upd
    by_cases e : k = i
    · subst e; simp [hlt]
    · rw [if_neg e, Array.getElem?_setIfInBounds_ne (by omega), this]
end RefAt

/-- Numbers that a slice leads to. -/
def IntsIn (w : World) (a : Option Addr) (l : List Int) : Prop := ∀ (k : Nat) (x : Int), l[k]? = some x → ∃ b off, a = some ⟨b, off, none⟩ ∧ w.cell? ⟨b, off + k, none⟩ = some (.int .i64 x)
theorem IntsIn.kept0 {w w' : World} {a : Option Addr} {l : List Int} (h : IntsIn w a l) (k : Kept0 w w') : IntsIn w' a l := fun i x hx => by
  obtain ⟨b, off, ha, hc⟩ := h i x hx
  exact ⟨b, off, ha, kcell k hc⟩
theorem IntsIn.kept {w w' : World} {a : Option Addr} {l : List Int} (h : IntsIn w a l) {S : Nat → Prop} (k : Kept S w w') (hs : ∀ b off, a = some ⟨b, off, none⟩ → ∀ v o, w.cell? ⟨b, o, none⟩ = some v → ¬ S b) : IntsIn w' a l := fun i x hx => by
  obtain ⟨b, off, ha, hc⟩ := h i x hx
  exact ⟨b, off, ha, (k.cell (World.block_lt_of_cell? w _ hc) (hs b off ha _ _ hc)).trans hc⟩
/-- A slice's numbers are not where a map is. -/
theorem IntsIn.keptM {w w' : World} {a : Option Addr} {l : List Int} (h : IntsIn w a l) {m N : Nat} {f : Nat → Bool} (hm : SetAt w m N f) (k : Kept (· = m) w w') : IntsIn w' a l :=
  h.kept k (fun _ _ _ _ _ hc => hm.ne hc)

section
variable {H : Type} {P : Program} (w : World) {ops : Array Oper} {rest : List Oper} {o : Oper} {a : Act} {Q : Exit → Act → World → Prop}
/-- 'clear(m)'. -/
theorem wpList_wiped (hg : o.guard = none) (m : Operand) (t : TypeId) (hop : o.op = Op.call { callee := Callee.builtin Builtin.clear, args := #[m], argTypes := #[t] })
    (k e : TypeId) (ht : P.underlying t = some (.map k e)) (R : Value → Option (DataW H × List MemPlace)) (b n : Nat) (D : DataW H) (hm : a.eval m = .map (some b)) (hown : w.ownsMap P k R b n D)
    (hK : ∀ w', w'.ownsMap P k R b 0 (.map []) → w.mapTurned w' b → wpList P ops Q rest (a.put o.dst (.tuple #[])) w') :
    wpList P ops Q (o :: rest) a w := by
  obtain ⟨es, clock, hb, F, hs, hD⟩ := hown
  refine wpList_plain hg fun K' hK' => ?_
  have hrun : (Builtin.clear_ #[t] o.type #[.map (some b)]).run P w = .ok (.tuple #[]) (setBlock w b (.map #[] clock)) := by
    simp [Builtin.clear_, run_underlying ht, MapKept.run_getObj_map hb, MapKept.run_setObj_map _ hb, Result.andThen, setBlock]
  unfold Oper.wp
  simp [execOp, hop, resolve, invoke, builtin, hm, hrun, Result.andThen]
  exact hK' _ _ (hK _ ⟨#[], clock, heap_setBlock_same hb _, ⟨by simp, MapKept.stamped_empty clock, by simp⟩, Nat.le_refl _, rfl⟩ ⟨es, clock, #[], clock, hb, rfl⟩)
end
end Go.Proofs.Ytkfphgcbpphbnaa
