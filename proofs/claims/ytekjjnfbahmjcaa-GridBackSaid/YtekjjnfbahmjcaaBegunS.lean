/-
  What begun does, and of which size the grid is.
-/
import Derived.Test.YtekjjnfbahmjcaaDoesD
import Derived.Test.YtekjjnfbahmjcaaBegun
namespace Go.Proofs.Ytekjjnfbahmjcaa
open Go.RowKit

/-- A grid and the document's answer's that are new since B, up to 12 rows and 20 columns. -/
def NewSized (B : Nat) (w : World) (g r : Nat) : Prop := ∃ tg tr R C f, Pair w g tg r tr R C f ∧ B ≤ g ∧ B ≤ tg ∧ B ≤ r ∧ B ≤ tr ∧ R ≤ 12 ∧ C ≤ 20

theorem few_big {l : List OpV} {k : Nat} {o : OpV} (h : fewB l = true) (ho : l[k]? = some o) : bigB o = false := by
  unfold fewB at h
  have h1 := ((Bool.and_eq_true _ _).mp h).1
  have := List.all_eq_true.1 h1 o (List.mem_of_getElem? ho)
  simpa using this

theorem few_sized {w : World} {g tg r tr R C R' C' : Nat} {f : Nat → Int} {o : OpV} (hR : R ≤ 12) (hC : C ≤ 20) (h : SizeRel o R C R' C') (hb : bigB o = false) (hp : Pair w g tg r tr R' C' f) : R' ≤ 12 ∧ C' ≤ 20 := by
  rcases h with ⟨rfl, rfl⟩ | ⟨h4, h1, h2⟩
  · exact ⟨hR, hC⟩
  · obtain ⟨⟨cap, hG⟩, _⟩ := hp
    have a1 := hG.R1
    have a2 := hG.R2
    have a3 := hG.C1
    have a4 := hG.C2
    have hm : mayB o.br o.bc = true := by unfold mayB; exact decide_eq_true ⟨by omega, by omega, by omega, by omega⟩
    unfold bigB at hb
    rw [h4, hm] at hb
    simp at hb
    omega

set_option maxHeartbeats 2000000 in
theorem begunS_any (b off cap : Nat) (l : List OpV) (w : World) (hl : OpsAt w b off l) (hok : OpsOk l) (hfew : fewB l = true) (hn : l.length ≤ 9223372036854775807) :
    Calls Try.prog 18 #[.slice (some ⟨b, off, none⟩) l.length cap] w fun e w' => ∃ g r, e = .returned (.tuple #[.pointer (some ⟨g, 0, none⟩), .pointer (some ⟨r, 0, none⟩)]) ∧ NewSized w.heap.size w' g r ∧ Kept0 w w' := by
  obtain ⟨n, hnl⟩ : ∃ n, n = l.length := ⟨_, rfl⟩
  rw [← hnl] at hn ⊢
  have HN := Lib.hid hnl
  have HOK := Lib.hid hok
  have HF := Lib.hid hfew
  clear hnl hok hfew
  go_enter Try.func18, Try.ntmps18
  go_wp2_with fail
  refine (new_int _ _ _ _ (by omega)).mono ?_
  rintro e w1 ⟨g, t, rfl, hg1, ht1, hG, hk1⟩
  change GridAt w1 g t 54 6 9 (fun _ => 0) at hG
  go_wp2_with fail
  refine (newR 6 9 0 _ (by omega) (by omega) (by omega) (by omega)).mono ?_
  rintro e w2 ⟨r, tr, capr, rfl, hr2, htr2, hR, hk2⟩
  have hgl := hG.lt
  have htl := hG.row.lt
  have hP : Pair w2 g t r tr 6 9 (fun _ => 0) := ⟨⟨_, hG.kept hk2 (fun e => e) (fun e => e)⟩, ⟨_, hR⟩, by omega, by omega, by omega, by omega⟩
  have hs1 := hk1.size
  have hNP : NewSized w.heap.size w2 g r := ⟨t, tr, 6, 9, _, hP, hg1, ht1, by omega, by omega, by omega, by omega⟩
  have kk : Kept0 w w2 := hk1.trans hk2
  clear hG hR hP hk1 hk2 hr2 htr2 hg1 ht1 hgl htl hs1
  go_wp2_with fail
  go_loopw [6, 7, 8, 9] (fun s6 i s8 s9 wr => ∃ k r : Nat, k ≤ n ∧ i = .int .i64 k ∧ s6 = .pointer (some ⟨r, 0, none⟩) ∧ NewSized w.heap.size wr g r ∧ Kept0 w wr) (fun _ i _ _ _ => n - (intOf i).toNat)
  case atStart => exact ⟨0, r, by omega, rfl, rfl, hNP, kk⟩
  case round =>
    clear hNP kk
    obtain ⟨k, r9, hk, rfl, rfl, ⟨tg, tr9, R, C, f, hP, b1, b2, b3, b4, z1, z2⟩, hkr⟩ := hrel
    by_cases hlt : k < n
    · obtain ⟨o, ho⟩ : ∃ o, l[k]? = some o := ⟨_, List.getElem?_eq_getElem (by rw [← HN.out]; exact hlt)⟩
      have hO := (hl k o ho).kept hkr
      have hon := HOK.out k o ho
      have HBG : Hid (bigB o = false) := few_big HF.out ho
      have HON := Lib.hid hon
      clear ho hon
      have c0 := hO.ask
      have c1 := hO.ar
      have c2 := hO.ac
      have c3 := hO.br
      have c4 := hO.bc
      have c5 := hO.n
      have c6 := hO.x
      go_wp2_with fail
      refine (sized_any wr g tg r9 tr9 R C f o hP HON.out).mono ?_
      rintro e w5 ⟨r', tg', tr', R', C', f', rfl, hP5, hk5, q1, q2, q3, q4⟩
      have hsz := hkr.size
      have hz5 := few_sized z1 z2 q4 HBG.out hP5
      have hk05 : Kept0 w w5 := hkr.later hk5 (fun i hi e => by omega)
      have hNP5 : NewSized w.heap.size w5 g r' := ⟨tg', tr', R', C', f', hP5, b1, by omega, by omega, by omega, hz5.1, hz5.2⟩
      clear c0 c1 c2 c3 c4 c5 c6 hP5 hk5 q1 q2 q3 hP
      go_wp2_with fail
      go_roundw
      case rel => exact ⟨k + 1, r', by omega, by go_num, rfl, hNP5, hk05⟩
      case measure => simp [intOf]; omega
    · go_wp2_with fail
      go_ret2
      exact ⟨g, r9, rfl, ⟨tg, tr9, R, C, f, hP, b1, b2, b3, b4, z1, z2⟩, hkr⟩

set_option maxHeartbeats 2000000 in
theorem begunS_zero (a : Option Addr) (cap : Nat) (w : World) :
    Calls Try.prog 18 #[.slice a 0 cap] w fun e w' => ∃ g r, e = .returned (.tuple #[.pointer (some ⟨g, 0, none⟩), .pointer (some ⟨r, 0, none⟩)]) ∧ NewSized w.heap.size w' g r ∧ Kept0 w w' := by
  go_enter Try.func18, Try.ntmps18
  go_wp2_with fail
  refine (new_int _ _ _ _ (by omega)).mono ?_
  rintro e w1 ⟨g, t, rfl, hg1, ht1, hG, hk1⟩
  change GridAt w1 g t 54 6 9 (fun _ => 0) at hG
  go_wp2_with fail
  refine (newR 6 9 0 _ (by omega) (by omega) (by omega) (by omega)).mono ?_
  rintro e w2 ⟨r, tr, capr, rfl, hr2, htr2, hR, hk2⟩
  have hgl := hG.lt
  have htl := hG.row.lt
  have hP : Pair w2 g t r tr 6 9 (fun _ => 0) := ⟨⟨_, hG.kept hk2 (fun e => e) (fun e => e)⟩, ⟨_, hR⟩, by omega, by omega, by omega, by omega⟩
  have hs1 := hk1.size
  have hNP : NewSized w.heap.size w2 g r := ⟨t, tr, 6, 9, _, hP, hg1, ht1, by omega, by omega, by omega, by omega⟩
  have kk : Kept0 w w2 := hk1.trans hk2
  clear hG hR hP hk1 hk2 hr2 htr2 hg1 ht1 hgl htl hs1
  go_wp2_with fail
  refine wp_loop_rounds 1 ?_
  rw [rounds_succ]
  go_wp2_with fail
  go_ret2
  exact ⟨g, r, rfl, hNP, kk⟩

theorem begunS_opt (a : Option Addr) (cap : Nat) (l : List OpV) (w : World) (h : OpsIn w a l) (hok : OpsOk l) (hfew : fewB l = true) (hn : l.length ≤ 9223372036854775807) :
    Calls Try.prog 18 #[.slice a l.length cap] w fun e w' => ∃ g r, e = .returned (.tuple #[.pointer (some ⟨g, 0, none⟩), .pointer (some ⟨r, 0, none⟩)]) ∧ NewSized w.heap.size w' g r ∧ Kept0 w w' := by
  rcases h.at with rfl | ⟨b, off, rfl, hO⟩
  · exact begunS_zero a cap w
  · exact begunS_any b off cap l w hO hok hfew hn

end Go.Proofs.Ytekjjnfbahmjcaa
