/-
  What begun, Few and Copy do.
-/
import Derived.Test.YtekjjnfbahmjcaaDoesB
namespace Go.Proofs.Ytekjjnfbahmjcaa
open Go.RowKit

theorem OpAt.kept {w w' : World} {b p : Nat} {o : OpV} (h : OpAt w b p o) (k : Kept0 w w') : OpAt w' b p o :=
  ⟨kcell k h.ask, kcell k h.ar, kcell k h.ac, kcell k h.br, kcell k h.bc, kcell k h.n, kcell k h.x⟩
theorem OpsAt.kept {w w' : World} {b p : Nat} {l : List OpV} (h : OpsAt w b p l) (k : Kept0 w w') : OpsAt w' b p l := fun i o ho => (h i o ho).kept k

/-- The calls are numbers of the kind int. -/
def OpsOk (l : List OpV) : Prop := ∀ (i : Nat) (o : OpV), l[i]? = some o → -9223372036854775808 ≤ o.n ∧ o.n ≤ 9223372036854775807

/-- A grid and the document's answer's that are new since B. -/
def NewPair (B : Nat) (w : World) (g r : Nat) : Prop := ∃ tg tr R C f, Pair w g tg r tr R C f ∧ B ≤ g ∧ B ≤ tg ∧ B ≤ r ∧ B ≤ tr

set_option maxHeartbeats 2000000 in
theorem begun_any (b off cap : Nat) (l : List OpV) (w : World) (hl : OpsAt w b off l) (hok : OpsOk l) (hn : l.length ≤ 9223372036854775807) :
    Calls Try.prog 18 #[.slice (some ⟨b, off, none⟩) l.length cap] w fun e w' => ∃ g r, e = .returned (.tuple #[.pointer (some ⟨g, 0, none⟩), .pointer (some ⟨r, 0, none⟩)]) ∧ NewPair w.heap.size w' g r ∧ Kept0 w w' := by
  obtain ⟨n, hnl⟩ : ∃ n, n = l.length := ⟨_, rfl⟩
  rw [← hnl] at hn ⊢
  have HN := Lib.hid hnl
  have HOK := Lib.hid hok
  clear hnl hok
  go_enter Try.func18, Try.ntmps18
  go_wp2_with fail
  refine (new_int _ _ _ _ (by omega)).mono ?_
  rintro e w1 ⟨g, t, rfl, hg1, ht1, hG, hk1⟩
  change GridAt w1 g t 54 6 9 (fun _ => 0) at hG
  go_wp2_with fail
  refine (newR 6 9 0 _ (by omega) (by omega) (by omega) (by omega)).mono ?_
  rintro e w2 ⟨r, tr, capr, rfl, hr2, htr2, hR, hk2⟩
  have hgl := hG.lt
  have htl := hG.row.lt
  have hP : Pair w2 g t r tr 6 9 (fun _ => 0) := ⟨⟨_, hG.kept hk2 (fun e => e) (fun e => e)⟩, ⟨_, hR⟩, by omega, by omega, by omega, by omega⟩
  have hs1 := hk1.size
  have hNP : NewPair w.heap.size w2 g r := ⟨t, tr, 6, 9, _, hP, hg1, ht1, by omega, by omega⟩
  have kk : Kept0 w w2 := hk1.trans hk2
  clear hG hR hP hk1 hk2 hr2 htr2 hg1 ht1 hgl htl hs1
  go_wp2_with fail
  go_loopw [6, 7, 8, 9] (fun s6 i s8 s9 wr => ∃ k r : Nat, k ≤ n ∧ i = .int .i64 k ∧ s6 = .pointer (some ⟨r, 0, none⟩) ∧ NewPair w.heap.size wr g r ∧ Kept0 w wr) (fun _ i _ _ _ => n - (intOf i).toNat)
  case atStart => exact ⟨0, r, by omega, rfl, rfl, hNP, kk⟩
  case round =>
    clear hNP kk
    obtain ⟨k, r9, hk, rfl, rfl, ⟨tg, tr9, R, C, f, hP, b1, b2, b3, b4⟩, hkr⟩ := hrel
    by_cases hlt : k < n
    · obtain ⟨o, ho⟩ : ∃ o, l[k]? = some o := ⟨_, List.getElem?_eq_getElem (by rw [← HN.out]; exact hlt)⟩
      have hO := (hl k o ho).kept hkr
      have hon := HOK.out k o ho
      have HON := Lib.hid hon
      clear ho hon
      have c0 := hO.ask
      have c1 := hO.ar
      have c2 := hO.ac
      have c3 := hO.br
      have c4 := hO.bc
      have c5 := hO.n
      have c6 := hO.x
      go_wp2_with fail
      refine (does_any wr g tg r9 tr9 R C f o hP HON.out).mono ?_
      rintro e w5 ⟨r', tg', tr', R', C', f', rfl, hP5, hk5, q1, q2, q3⟩
      have hsz := hkr.size
      have hk05 : Kept0 w w5 := hkr.later hk5 (fun i hi e => by omega)
      have hNP5 : NewPair w.heap.size w5 g r' := ⟨tg', tr', R', C', f', hP5, b1, by omega, by omega, by omega⟩
      clear c0 c1 c2 c3 c4 c5 c6 hP5 hk5 q1 q2 q3 hP
      go_wp2_with fail
      go_roundw
      case rel => exact ⟨k + 1, r', by omega, by go_num, rfl, hNP5, hk05⟩
      case measure => simp [intOf]; omega
    · go_wp2_with fail
      go_ret2
      exact ⟨g, r9, rfl, ⟨tg, tr9, R, C, f, hP, b1, b2, b3, b4⟩, hkr⟩

set_option maxHeartbeats 2000000 in
theorem begun_zero (a : Option Addr) (cap : Nat) (w : World) :
    Calls Try.prog 18 #[.slice a 0 cap] w fun e w' => ∃ g r, e = .returned (.tuple #[.pointer (some ⟨g, 0, none⟩), .pointer (some ⟨r, 0, none⟩)]) ∧ NewPair w.heap.size w' g r ∧ Kept0 w w' := by
  go_enter Try.func18, Try.ntmps18
  go_wp2_with fail
  refine (new_int _ _ _ _ (by omega)).mono ?_
  rintro e w1 ⟨g, t, rfl, hg1, ht1, hG, hk1⟩
  change GridAt w1 g t 54 6 9 (fun _ => 0) at hG
  go_wp2_with fail
  refine (newR 6 9 0 _ (by omega) (by omega) (by omega) (by omega)).mono ?_
  rintro e w2 ⟨r, tr, capr, rfl, hr2, htr2, hR, hk2⟩
  have hgl := hG.lt
  have htl := hG.row.lt
  have hP : Pair w2 g t r tr 6 9 (fun _ => 0) := ⟨⟨_, hG.kept hk2 (fun e => e) (fun e => e)⟩, ⟨_, hR⟩, by omega, by omega, by omega, by omega⟩
  have hs1 := hk1.size
  have hNP : NewPair w.heap.size w2 g r := ⟨t, tr, 6, 9, _, hP, hg1, ht1, by omega, by omega⟩
  have kk : Kept0 w w2 := hk1.trans hk2
  clear hG hR hP hk1 hk2 hr2 htr2 hg1 ht1 hgl htl hs1
  go_wp2_with fail
  refine wp_loop_rounds 1 ?_
  rw [rounds_succ]
  go_wp2_with fail
  go_ret2
  exact ⟨g, r, rfl, hNP, kk⟩

theorem few_zero (a : Option Addr) (cap : Nat) (w : World) : Calls Try.prog 11 #[.slice a 0 cap] w fun e w' => e = .returned (.bool true) ∧ Kept0 w w' := by
  go_enter Try.func11, Try.ntmps11
  go_wp2_with fail
  refine wp_loop_rounds 1 ?_
  rw [rounds_succ]
  go_wp2_with fail
  go_ret
  exact ⟨rfl, Kept.refl _ _⟩

/-- A list of calls, wherever it lies. -/
def OpsIn (w : World) (a : Option Addr) (l : List OpV) : Prop := ∀ (i : Nat) (o : OpV), l[i]? = some o → ∃ b off, a = some ⟨b, off, none⟩ ∧ OpAt w b (off + i * 7) o
theorem OpsIn.at {w : World} {a : Option Addr} {l : List OpV} (h : OpsIn w a l) : l = [] ∨ ∃ b off, a = some ⟨b, off, none⟩ ∧ OpsAt w b off l := by
  cases l with
  | nil => exact Or.inl rfl
  | cons o l =>
    obtain ⟨b, off, ha, _⟩ := h 0 o rfl
    refine Or.inr ⟨b, off, ha, fun i o' ho => ?_⟩
    obtain ⟨b', off', ha', hO⟩ := h i o' ho
    rw [ha] at ha'
    simp only [Option.some.injEq, Addr.mk.injEq] at ha'
    obtain ⟨rfl, rfl, _⟩ := ha'
    exact hO
theorem OpsIn.kept {w w' : World} {a : Option Addr} {l : List OpV} (h : OpsIn w a l) (k : Kept0 w w') : OpsIn w' a l := fun i o ho => by
  obtain ⟨b, off, h1, h2⟩ := h i o ho
  exact ⟨b, off, h1, h2.kept k⟩

theorem few_opt (a : Option Addr) (cap : Nat) (l : List OpV) (w : World) (h : OpsIn w a l) (hn : l.length ≤ 9223372036854775807) :
    Calls Try.prog 11 #[.slice a l.length cap] w fun e w' => e = .returned (.bool (fewB l)) ∧ Kept0 w w' := by
  rcases h.at with rfl | ⟨b, off, rfl, hO⟩
  · exact few_zero a cap w
  · exact few_any b off cap l w hO hn

theorem begun_opt (a : Option Addr) (cap : Nat) (l : List OpV) (w : World) (h : OpsIn w a l) (hok : OpsOk l) (hn : l.length ≤ 9223372036854775807) :
    Calls Try.prog 18 #[.slice a l.length cap] w fun e w' => ∃ g r, e = .returned (.tuple #[.pointer (some ⟨g, 0, none⟩), .pointer (some ⟨r, 0, none⟩)]) ∧ NewPair w.heap.size w' g r ∧ Kept0 w w' := by
  rcases h.at with rfl | ⟨b, off, rfl, hO⟩
  · exact begun_zero a cap w
  · exact begun_any b off cap l w hO hok hn

set_option maxHeartbeats 1000000 in
theorem copy_any (g t cap R C : Nat) (f : Nat → Int) (w : World) (hg : GridAt w g t cap R C f) :
    Calls Try.prog 19 #[.pointer (some ⟨g, 0, none⟩)] w fun e w' => ∃ g' t' cap', e = .returned (.pointer (some ⟨g', 0, none⟩)) ∧ w.heap.size ≤ g' ∧ w.heap.size ≤ t' ∧ GridAt w' g' t' cap' R C f ∧ Kept0 w w' := by
  have hRC : R * C ≤ 65025 := Nat.mul_le_mul hg.R2 hg.C2
  have hN1 : 1 ≤ R * C := Nat.mul_pos hg.R1 hg.C1
  have hrow := hg.row
  have c0 := hg.c0
  have c1 := hg.c1
  have c2 := hg.c2
  obtain ⟨N, hN⟩ : ∃ N, N = R * C := ⟨_, rfl⟩
  rw [← hN] at c2 hRC hN1 hrow
  have HN := Lib.hid hN
  clear hN
  go_enter Try.func19, Try.ntmps19
  go_wp2_with fail
  go_region_held3 (fun w' => Kept0 w w' ∧ w'.cell? ⟨g, 0, none⟩ = some (.int .i64 R) ∧ w'.cell? ⟨g, 1, none⟩ = some (.int .i64 C) ∧ w'.cell? ⟨g, 2, none⟩ = some (.slice (some ⟨t, 0, none⟩) N cap))
    (first | exact ⟨(Kept.refl _ w).drew, c0, c1, c2⟩ | exact ⟨kx, kcell kx c0, kcell kx c1, kcell kx c2⟩ | exact ⟨kx.alloc _, kcell (kx.alloc _) c0, kcell (kx.alloc _) c1, kcell (kx.alloc _) c2⟩)
    (first
      | (go_at_call 41; refine (clone_any t 0 N _ N f _ (hrow.kept (Kept.refl (fun _ => False) w).drew (fun e => e)) (by omega) hN1 (by omega)).mono ?_; rintro e w2 ⟨t2, cap2, rfl, q1, q2, q3, q4⟩; have kx : Kept0 w w2 := (Kept.refl _ w).drew.trans q4))
  go_wp2_with fail
  go_ret
  have hs := kx.size
  have q1' : w.heap.size ≤ t2 := q1
  obtain rfl := HN.out
  exact ⟨w2.heap.size, t2, cap2, rfl, hs, q1', ⟨heap_new w2 _, (q3.congr (fun k _ => by rw [Nat.zero_add])).alloc _, q2, hg.R1, hg.R2, hg.C1, hg.C2⟩, kx.alloc _⟩
end Go.Proofs.Ytekjjnfbahmjcaa
