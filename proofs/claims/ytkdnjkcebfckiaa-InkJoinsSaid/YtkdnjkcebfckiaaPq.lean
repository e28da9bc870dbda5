/-
  All that is known of a world while a grid and the document's are drawn side by side.
-/
import Derived.Test.YtkdnjkcebfckiaaAwake
import Derived.Test.YtkdnjkcebfckiaaRefP
namespace Go.Proofs.Ytkdnjkcebfckiaa
open Go.RowKit

structure Pq (w wx : World) (L M bp b8 b9 g t cap g' t' cap' R C : Nat) (r0 c0 : Int) (b0 : Bool) (k : Int) (s : ByteArray) (FG FR : Nat → Cel) (r c : Int) (b : Bool) (r' c' : Int) (b' : Bool) : Prop where
  pen : PenAt wx bp r0 c0 b0 k s
  at8 : Three wx b8 r c b
  at9 : Three wx b9 r' c' b'
  grid : GridAt wx g t cap R C FG
  ref : RefAt wx g' t' cap' R C FR
  kept : Kept0 w wx
  o1 : w.heap.size ≤ bp ∧ bp < L ∧ L ≤ g ∧ L ≤ t ∧ L ≤ g' ∧ L ≤ t'
  o2 : g < M ∧ t < M ∧ g' < M ∧ t' < M ∧ M ≤ b8 ∧ b8 < b9
  o3 : g ≠ g' ∧ g ≠ t' ∧ t ≠ g' ∧ t ≠ t'

section
variable {w wx wy : World} {L M bp b8 b9 g t cap g' t' cap' R C : Nat} {r0 c0 : Int} {b0 : Bool} {k : Int} {s : ByteArray} {FG FR : Nat → Cel} {r c : Int} {b : Bool} {r' c' : Int} {b' : Bool}
theorem Pq.keep (h : Pq w wx L M bp b8 b9 g t cap g' t' cap' R C r0 c0 b0 k s FG FR r c b r' c' b') (kk : Kept0 wx wy) : Pq w wy L M bp b8 b9 g t cap g' t' cap' R C r0 c0 b0 k s FG FR r c b r' c' b' :=
  ⟨h.pen.kept kk (fun e => e), h.at8.kept0 kk, h.at9.kept0 kk, h.grid.kept kk (fun e => e) (fun e => e), h.ref.kept kk (fun e => e) (fun e => e), h.kept.trans kk, h.o1, h.o2, h.o3⟩
theorem Pq.onG {F : Nat → Cel} (h : Pq w wx L M bp b8 b9 g t cap g' t' cap' R C r0 c0 b0 k s FG FR r c b r' c' b') (kk : Kept (· = t) wx wy) (hg : GridAt wy g t cap R C F) : Pq w wy L M bp b8 b9 g t cap g' t' cap' R C r0 c0 b0 k s F FR r c b r' c' b' := by
  obtain ⟨p1, p2, p3, p4, p5, p6⟩ := h.o1
  obtain ⟨q1, q2, q3, q4, q5, q6⟩ := h.o2
  obtain ⟨s1, s2, s3, s4⟩ := h.o3
  exact ⟨h.pen.kept kk (by omega), h.at8.kept kk (by omega), h.at9.kept kk (by omega), hg, h.ref.kept kk (by omega) (by omega), h.kept.later kk (fun i hi e => by omega), h.o1, h.o2, h.o3⟩
theorem Pq.onR {F : Nat → Cel} (h : Pq w wx L M bp b8 b9 g t cap g' t' cap' R C r0 c0 b0 k s FG FR r c b r' c' b') (kk : Kept (· = t') wx wy) (hg : RefAt wy g' t' cap' R C F) : Pq w wy L M bp b8 b9 g t cap g' t' cap' R C r0 c0 b0 k s FG F r c b r' c' b' := by
  obtain ⟨p1, p2, p3, p4, p5, p6⟩ := h.o1
  obtain ⟨q1, q2, q3, q4, q5, q6⟩ := h.o2
  obtain ⟨s1, s2, s3, s4⟩ := h.o3
  exact ⟨h.pen.kept kk (by omega), h.at8.kept kk (by omega), h.at9.kept kk (by omega), h.grid.kept kk (by omega) (by omega), hg, h.kept.later kk (fun i hi e => by omega), h.o1, h.o2, h.o3⟩
theorem Pq.on8 {x y : Int} {v : Bool} (h : Pq w wx L M bp b8 b9 g t cap g' t' cap' R C r0 c0 b0 k s FG FR r c b r' c' b') (kk : Kept (· = b8) wx wy) (ht : Three wy b8 x y v) : Pq w wy L M bp b8 b9 g t cap g' t' cap' R C r0 c0 b0 k s FG FR x y v r' c' b' := by
  obtain ⟨p1, p2, p3, p4, p5, p6⟩ := h.o1
  obtain ⟨q1, q2, q3, q4, q5, q6⟩ := h.o2
  exact ⟨h.pen.kept kk (by omega), ht, h.at9.kept kk (by omega), h.grid.kept kk (by omega) (by omega), h.ref.kept kk (by omega) (by omega), h.kept.later kk (fun i hi e => by omega), h.o1, h.o2, h.o3⟩
theorem Pq.on9 {x y : Int} {v : Bool} (h : Pq w wx L M bp b8 b9 g t cap g' t' cap' R C r0 c0 b0 k s FG FR r c b r' c' b') (kk : Kept (· = b9) wx wy) (ht : Three wy b9 x y v) : Pq w wy L M bp b8 b9 g t cap g' t' cap' R C r0 c0 b0 k s FG FR r c b x y v := by
  obtain ⟨p1, p2, p3, p4, p5, p6⟩ := h.o1
  obtain ⟨q1, q2, q3, q4, q5, q6⟩ := h.o2
  exact ⟨h.pen.kept kk (by omega), h.at8.kept kk (by omega), ht, h.grid.kept kk (by omega) (by omega), h.ref.kept kk (by omega) (by omega), h.kept.later kk (fun i hi e => by omega), h.o1, h.o2, h.o3⟩
theorem Pq.apart {q : Nat} (h : Pq w wx L M bp b8 b9 g t cap g' t' cap' R C r0 c0 b0 k s FG FR r c b r' c' b') (kk : Kept (· = q) wx wy) (hq : b9 < q) : Pq w wy L M bp b8 b9 g t cap g' t' cap' R C r0 c0 b0 k s FG FR r c b r' c' b' := by
  obtain ⟨p1, p2, p3, p4, p5, p6⟩ := h.o1
  obtain ⟨q1, q2, q3, q4, q5, q6⟩ := h.o2
  exact ⟨h.pen.kept kk (by omega), h.at8.kept kk (by omega), h.at9.kept kk (by omega), h.grid.kept kk (by omega) (by omega), h.ref.kept kk (by omega) (by omega), h.kept.later kk (fun i hi e => by omega), h.o1, h.o2, h.o3⟩
end

/-- A board that is not too great. -/
theorem few_yes {L : Nat} {C : Int} {n : Nat} (h : fewP L C n = true) : 1 ≤ L ∧ L ≤ 8 ∧ 1 ≤ C ∧ C ≤ 12 ∧ n ≤ 60 := by
  unfold fewP fewB at h
  simp only [Bool.and_eq_true, decide_eq_true_eq] at h
  omega

end Go.Proofs.Ytkdnjkcebfckiaa
