/-
  The five sets as plain lists of numbers: what each text's runes are, and which glyph a byte is. No program.
-/
import Derived.WalkKit
import Derived.Laws.RangeAny
import Derived.Lib.RuneBytes
namespace Go.Proofs.YtlhajbcabpfbkaaGreatDoor.Gl
open Go.RowKit

set_option maxRecDepth 100000 in
def tx1 : ByteArray := ⟨#[32, 33, 34, 35, 36, 37, 38, 39, 40, 41, 42, 43, 44, 45, 46, 47, 48, 49, 50, 51, 52, 53, 54, 55, 56, 57, 58, 59, 60, 61, 62, 63, 64, 65, 66, 67, 68, 69, 70, 71,
  72, 73, 74, 75, 76, 77, 78, 79, 80, 81, 82, 83, 84, 85, 86, 87, 88, 89, 90, 91, 92, 93, 94, 95, 96, 97, 98, 99, 100, 101, 102, 103, 104, 105, 106, 107, 108, 109, 110, 111,
  112, 113, 114, 115, 116, 117, 118, 119, 120, 121, 122, 123, 124, 125, 126]⟩
set_option maxRecDepth 100000 in
def rs1 : List Nat := [32, 33, 34, 35, 36, 37, 38, 39, 40, 41, 42, 43, 44, 45, 46, 47, 48, 49, 50, 51, 52, 53, 54, 55, 56, 57, 58, 59, 60, 61, 62, 63, 64, 65, 66, 67, 68, 69, 70, 71,
  72, 73, 74, 75, 76, 77, 78, 79, 80, 81, 82, 83, 84, 85, 86, 87, 88, 89, 90, 91, 92, 93, 94, 95, 96, 97, 98, 99, 100, 101, 102, 103, 104, 105, 106, 107, 108, 109, 110, 111,
  112, 113, 114, 115, 116, 117, 118, 119, 120, 121, 122, 123, 124, 125, 126]
set_option maxRecDepth 100000 in
def tx2 : ByteArray := ⟨#[32, 226, 152, 186, 226, 152, 187, 226, 153, 165, 226, 153, 166, 226, 153, 163, 226, 153, 160, 226, 128, 162, 226, 151, 152, 226, 151, 139, 226, 151, 153, 226, 153, 130, 226, 153, 128, 226, 153, 170,
  226, 153, 171, 226, 152, 188, 226, 150, 186, 226, 151, 132, 226, 134, 149, 226, 128, 188, 194, 182, 194, 167, 226, 150, 172, 226, 134, 168, 226, 134, 145, 226, 134, 147, 226, 134, 146, 226, 134, 144,
  226, 136, 159, 226, 134, 148, 226, 150, 178, 226, 150, 188, 32, 33, 34, 35, 36, 37, 38, 39, 40, 41, 42, 43, 44, 45, 46, 47, 48, 49, 50, 51, 52, 53, 54, 55, 56, 57, 58, 59,
  60, 61, 62, 63, 64, 65, 66, 67, 68, 69, 70, 71, 72, 73, 74, 75, 76, 77, 78, 79, 80, 81, 82, 83, 84, 85, 86, 87, 88, 89, 90, 91, 92, 93, 94, 95, 96, 97, 98, 99,
  100, 101, 102, 103, 104, 105, 106, 107, 108, 109, 110, 111, 112, 113, 114, 115, 116, 117, 118, 119, 120, 121, 122, 123, 124, 125, 126, 226, 140, 130, 195, 135, 195, 188, 195, 169, 195, 162, 195, 164,
  195, 160, 195, 165, 195, 167, 195, 170, 195, 171, 195, 168, 195, 175, 195, 174, 195, 172, 195, 132, 195, 133, 195, 137, 195, 166, 195, 134, 195, 180, 195, 182, 195, 178, 195, 187, 195, 185, 195, 191,
  195, 150, 195, 156, 194, 162, 194, 163, 194, 165, 226, 130, 167, 198, 146, 195, 161, 195, 173, 195, 179, 195, 186, 195, 177, 195, 145, 194, 170, 194, 186, 194, 191, 226, 140, 144, 194, 172, 194, 189,
  194, 188, 194, 161, 194, 171, 194, 187, 226, 150, 145, 226, 150, 146, 226, 150, 147, 226, 148, 130, 226, 148, 164, 226, 149, 161, 226, 149, 162, 226, 149, 150, 226, 149, 149, 226, 149, 163, 226, 149,
  145, 226, 149, 151, 226, 149, 157, 226, 149, 156, 226, 149, 155, 226, 148, 144, 226, 148, 148, 226, 148, 180, 226, 148, 172, 226, 148, 156, 226, 148, 128, 226, 148, 188, 226, 149, 158, 226, 149, 159,
  226, 149, 154, 226, 149, 148, 226, 149, 169, 226, 149, 166, 226, 149, 160, 226, 149, 144, 226, 149, 172, 226, 149, 167, 226, 149, 168, 226, 149, 164, 226, 149, 165, 226, 149, 153, 226, 149, 152, 226,
  149, 146, 226, 149, 147, 226, 149, 171, 226, 149, 170, 226, 148, 152, 226, 148, 140, 226, 150, 136, 226, 150, 132, 226, 150, 140, 226, 150, 144, 226, 150, 128, 206, 177, 195, 159, 206, 147, 207, 128,
  206, 163, 207, 131, 194, 181, 207, 132, 206, 166, 206, 152, 206, 169, 206, 180, 226, 136, 158, 207, 134, 206, 181, 226, 136, 169, 226, 137, 161, 194, 177, 226, 137, 165, 226, 137, 164, 226, 140, 160,
  226, 140, 161, 195, 183, 226, 137, 136, 194, 176, 226, 136, 153, 194, 183, 226, 136, 154, 226, 129, 191, 194, 178, 226, 150, 160, 194, 160]⟩
set_option maxRecDepth 100000 in
def rs2 : List Nat := [32, 9786, 9787, 9829, 9830, 9827, 9824, 8226, 9688, 9675, 9689, 9794, 9792, 9834, 9835, 9788, 9658, 9668, 8597, 8252, 182, 167, 9644, 8616, 8593, 8595, 8594, 8592, 8735, 8596, 9650, 9660, 32, 33, 34, 35, 36, 37, 38, 39,
  40, 41, 42, 43, 44, 45, 46, 47, 48, 49, 50, 51, 52, 53, 54, 55, 56, 57, 58, 59, 60, 61, 62, 63, 64, 65, 66, 67, 68, 69, 70, 71, 72, 73, 74, 75, 76, 77, 78, 79,
  80, 81, 82, 83, 84, 85, 86, 87, 88, 89, 90, 91, 92, 93, 94, 95, 96, 97, 98, 99, 100, 101, 102, 103, 104, 105, 106, 107, 108, 109, 110, 111, 112, 113, 114, 115, 116, 117, 118, 119,
  120, 121, 122, 123, 124, 125, 126, 8962, 199, 252, 233, 226, 228, 224, 229, 231, 234, 235, 232, 239, 238, 236, 196, 197, 201, 230, 198, 244, 246, 242, 251, 249, 255, 214, 220, 162, 163, 165, 8359, 402,
  225, 237, 243, 250, 241, 209, 170, 186, 191, 8976, 172, 189, 188, 161, 171, 187, 9617, 9618, 9619, 9474, 9508, 9569, 9570, 9558, 9557, 9571, 9553, 9559, 9565, 9564, 9563, 9488, 9492, 9524, 9516, 9500, 9472, 9532, 9566, 9567,
  9562, 9556, 9577, 9574, 9568, 9552, 9580, 9575, 9576, 9572, 9573, 9561, 9560, 9554, 9555, 9579, 9578, 9496, 9484, 9608, 9604, 9612, 9616, 9600, 945, 223, 915, 960, 931, 963, 181, 964, 934, 920, 937, 948, 8734, 966, 949, 8745,
  8801, 177, 8805, 8804, 8992, 8993, 247, 8776, 176, 8729, 183, 8730, 8319, 178, 9632, 160]
set_option maxRecDepth 100000 in
def tx3 : ByteArray := ⟨#[32, 33, 34, 35, 36, 37, 38, 39, 40, 41, 42, 43, 44, 45, 46, 47, 48, 49, 50, 51, 52, 53, 54, 55, 56, 57, 58, 59, 60, 61, 62, 63, 64, 65, 66, 67, 68, 69, 70, 71,
  72, 73, 74, 75, 76, 77, 78, 79, 80, 81, 82, 83, 84, 85, 86, 87, 88, 89, 90, 91, 92, 93, 32, 32, 32, 226, 150, 136, 226, 133, 159, 194, 179, 226, 129, 181, 226, 129, 183, 194,
  176, 194, 177, 226, 134, 146, 226, 128, 166, 195, 183, 226, 134, 147, 226, 150, 148, 226, 142, 186, 226, 142, 187, 226, 148, 129, 226, 148, 128, 226, 148, 132, 226, 142, 188, 226, 142, 189, 226, 130,
  128, 226, 130, 129, 226, 130, 130, 226, 130, 131, 226, 130, 132, 226, 130, 133, 226, 130, 134, 226, 130, 135, 226, 130, 136, 226, 130, 137, 194, 182]⟩
set_option maxRecDepth 100000 in
def rs3 : List Nat := [32, 33, 34, 35, 36, 37, 38, 39, 40, 41, 42, 43, 44, 45, 46, 47, 48, 49, 50, 51, 52, 53, 54, 55, 56, 57, 58, 59, 60, 61, 62, 63, 64, 65, 66, 67, 68, 69, 70, 71,
  72, 73, 74, 75, 76, 77, 78, 79, 80, 81, 82, 83, 84, 85, 86, 87, 88, 89, 90, 91, 92, 93, 32, 32, 32, 9608, 8543, 179, 8309, 8311, 176, 177, 8594, 8230, 247, 8595, 9620, 9146, 9147, 9473,
  9472, 9476, 9148, 9149, 8320, 8321, 8322, 8323, 8324, 8325, 8326, 8327, 8328, 8329, 182]
set_option maxRecDepth 100000 in
def tx4 : ByteArray := ⟨#[32, 33, 34, 35, 36, 37, 38, 39, 40, 41, 42, 43, 44, 45, 46, 47, 226, 148, 172, 226, 148, 148, 226, 148, 140, 226, 148, 144, 226, 148, 156, 226, 148, 152, 226, 148, 130, 226, 150, 136,
  226, 148, 188, 226, 148, 164, 226, 148, 128, 226, 150, 146, 226, 149, 144, 226, 148, 180, 226, 149, 145, 226, 150, 145, 64, 65, 66, 67, 68, 69, 70, 71, 72, 73, 74, 75, 76, 77, 78, 79,
  80, 81, 82, 83, 84, 85, 86, 87, 88, 89, 90, 91, 92, 93, 94, 95, 96, 97, 98, 99, 100, 101, 102, 103, 104, 105, 106, 107, 108, 109, 110, 111, 112, 113, 114, 115, 116, 117, 118, 119,
  120, 121, 122, 123, 124, 125, 126]⟩
set_option maxRecDepth 100000 in
def rs4 : List Nat := [32, 33, 34, 35, 36, 37, 38, 39, 40, 41, 42, 43, 44, 45, 46, 47, 9516, 9492, 9484, 9488, 9500, 9496, 9474, 9608, 9532, 9508, 9472, 9618, 9552, 9524, 9553, 9617, 64, 65, 66, 67, 68, 69, 70, 71,
  72, 73, 74, 75, 76, 77, 78, 79, 80, 81, 82, 83, 84, 85, 86, 87, 88, 89, 90, 91, 92, 93, 94, 95, 96, 97, 98, 99, 100, 101, 102, 103, 104, 105, 106, 107, 108, 109, 110, 111,
  112, 113, 114, 115, 116, 117, 118, 119, 120, 121, 122, 123, 124, 125, 126]
set_option maxRecDepth 100000 in
def tx5 : ByteArray := ⟨#[32, 33, 34, 35, 36, 37, 38, 39, 40, 41, 42, 43, 44, 45, 46, 47, 48, 49, 50, 51, 52, 53, 54, 55, 56, 57, 58, 59, 60, 61, 62, 63, 64, 65, 66, 67, 68, 69, 70, 71,
  72, 73, 74, 75, 76, 77, 78, 79, 80, 81, 82, 83, 84, 85, 86, 87, 88, 89, 90, 91, 92, 93, 94, 95, 96, 65, 66, 67, 68, 69, 70, 71, 72, 73, 74, 75, 76, 77, 78, 79,
  80, 81, 82, 83, 84, 85, 86, 87, 88, 89, 90, 123, 124, 125, 126]⟩
set_option maxRecDepth 100000 in
def rs5 : List Nat := [32, 33, 34, 35, 36, 37, 38, 39, 40, 41, 42, 43, 44, 45, 46, 47, 48, 49, 50, 51, 52, 53, 54, 55, 56, 57, 58, 59, 60, 61, 62, 63, 64, 65, 66, 67, 68, 69, 70, 71,
  72, 73, 74, 75, 76, 77, 78, 79, 80, 81, 82, 83, 84, 85, 86, 87, 88, 89, 90, 91, 92, 93, 94, 95, 96, 65, 66, 67, 68, 69, 70, 71, 72, 73, 74, 75, 76, 77, 78, 79,
  80, 81, 82, 83, 84, 85, 86, 87, 88, 89, 90, 123, 124, 125, 126]
def lowL : List Nat := [9786, 9787, 9829, 9830, 9827, 9824, 8226, 9688, 9675, 9689, 9794, 9792, 9834, 9835, 9788, 9658, 9668, 8597, 8252, 182, 167, 9644, 8616, 8593, 8595, 8594, 8592, 8735, 8596, 9650, 9660]
def highL : List Nat := [199, 252, 233, 226, 228, 224, 229, 231, 234, 235, 232, 239, 238, 236, 196, 197, 201, 230, 198, 244, 246, 242, 251, 249, 255, 214, 220, 162, 163, 165, 8359, 402, 225, 237, 243, 250, 241, 209, 170, 186,
  191, 8976, 172, 189, 188, 161, 171, 187, 9617, 9618, 9619, 9474, 9508, 9569, 9570, 9558, 9557, 9571, 9553, 9559, 9565, 9564, 9563, 9488, 9492, 9524, 9516, 9500, 9472, 9532, 9566, 9567, 9562, 9556, 9577, 9574, 9568, 9552, 9580, 9575,
  9576, 9572, 9573, 9561, 9560, 9554, 9555, 9579, 9578, 9496, 9484, 9608, 9604, 9612, 9616, 9600, 945, 223, 915, 960, 931, 963, 181, 964, 934, 920, 937, 948, 8734, 966, 949, 8745, 8801, 177, 8805, 8804, 8992, 8993, 247, 8776,
  176, 8729, 183, 8730, 8319, 178, 9632]
def graphL : List Nat := [9608, 8543, 179, 8309, 8311, 176, 177, 8594, 8230, 247, 8595, 9620, 9146, 9147, 9473, 9472, 9476, 9148, 9149, 8320, 8321, 8322, 8323, 8324, 8325, 8326, 8327, 8328, 8329, 182]
def linesL : List Nat := [9516, 9492, 9484, 9488, 9500, 9496, 9474, 9608, 9532, 9508, 9472, 9618, 9552, 9524, 9553, 9617]

def runesOf (set : Int) : List Nat := if set = 1 then rs1 else if set = 2 then rs2 else if set = 3 then rs3 else if set = 4 then rs4 else if set = 5 then rs5 else []
def textOf (set : Int) : ByteArray := if set = 1 then tx1 else if set = 2 then tx2 else if set = 3 then tx3 else if set = 4 then tx4 else if set = 5 then tx5 else ⟨#[]⟩
def firstOf (set : Int) : Nat := if set = 1 then 32 else if set = 2 then 0 else if set = 3 then 32 else if set = 4 then 32 else if set = 5 then 32 else 0

/-- From place pos on a text's runes are these, and no others. -/
def Decodes (s : ByteArray) : Nat → List Nat → Prop
  | pos, [] => ¬ pos < s.size
  | pos, r :: l => pos < s.size ∧ (Utf8.decode s pos).1 = r ∧ Decodes s (pos + (Utf8.decode s pos).2) l
def decodesB (s : ByteArray) : Nat → List Nat → Bool
  | pos, [] => !decide (pos < s.size)
  | pos, r :: l => decide (pos < s.size) && ((Utf8.decode s pos).1 == r && decodesB s (pos + (Utf8.decode s pos).2) l)
theorem decodes_of {s : ByteArray} : ∀ {l : List Nat} {pos : Nat}, decodesB s pos l = true → Decodes s pos l
  | [], pos, h => by simpa [decodesB, Decodes] using h
  | r :: l, pos, h => by
    simp only [decodesB, Bool.and_eq_true, decide_eq_true_eq, beq_iff_eq] at h
    exact ⟨h.1, h.2.1, decodes_of h.2.2⟩
theorem decodes_text (set : Int) : Decodes (textOf set) 0 (runesOf set) := by
  unfold textOf runesOf
  refine decodes_of ?_
  split
  · decide +kernel
  split
  · decide +kernel
  split
  · decide +kernel
  split
  · decide +kernel
  split
  · decide +kernel
  · decide +kernel

theorem width_pos (s : ByteArray) (pos : Nat) (h : pos < s.size) : 1 ≤ (Utf8.decode s pos).2 := by
  by_cases ha : (s[pos]'h).toNat < 128
  · rw [decode_ascii s pos h ha]
    exact Nat.le_refl _
  · exact (decode_high s pos h (by omega)).2

/-- The rune of a byte's number among those that begin at one. -/
def seek (at' b : Nat) : List Nat → Nat
  | [] => 65533
  | r :: l => if at' = b then r else seek ((at' + 1) % 256) b l
def foldB (set : Int) (b : Nat) : Nat := if set = 5 ∧ 128 ≤ b then b - 128 else b
def ofN (set : Int) (b : Nat) : Nat := seek (firstOf set) (foldB set b) (runesOf set)

def plainN (n : Nat) : Nat := if 32 ≤ n ∧ n ≤ 126 then n else 65533
/-- The document's glyph of a byte in a set. -/
def refN (set : Int) (b : Nat) : Nat :=
  if set = 1 then plainN b
  else if set = 2 then (if b = 0 then 32 else if b < 32 then lowL.getD (b - 1) 0 else if b = 127 then 8962 else if b = 255 then 160 else if 128 ≤ b then highL.getD (b - 128) 0 else plainN b)
  else if set = 3 then (if 94 ≤ b ∧ b ≤ 96 then 32 else if 97 ≤ b ∧ b ≤ 126 then graphL.getD (b - 97) 0 else plainN b)
  else if set = 4 then (if 48 ≤ b ∧ b ≤ 63 then linesL.getD (b - 48) 0 else plainN b)
  else if set = 5 then (if 97 ≤ foldB 5 b ∧ foldB 5 b ≤ 122 then foldB 5 b - 32 else plainN (foldB 5 b))
  else 65533

theorem set_cases {Q : Int → Prop} (h1 : Q 1) (h2 : Q 2) (h3 : Q 3) (h4 : Q 4) (h5 : Q 5) (h : ∀ set, ¬ set = 1 → ¬ set = 2 → ¬ set = 3 → ¬ set = 4 → ¬ set = 5 → Q set) (set : Int) : Q set := by
  by_cases e1 : set = 1
  · exact e1 ▸ h1
  by_cases e2 : set = 2
  · exact e2 ▸ h2
  by_cases e3 : set = 3
  · exact e3 ▸ h3
  by_cases e4 : set = 4
  · exact e4 ▸ h4
  by_cases e5 : set = 5
  · exact e5 ▸ h5
  exact h set e1 e2 e3 e4 e5

theorem of_ref1 : ∀ b : Fin 256, ofN 1 b = refN 1 b := by decide +kernel
theorem of_ref2 : ∀ b : Fin 256, ofN 2 b = refN 2 b := by decide +kernel
theorem of_ref3 : ∀ b : Fin 256, ofN 3 b = refN 3 b := by decide +kernel
theorem of_ref4 : ∀ b : Fin 256, ofN 4 b = refN 4 b := by decide +kernel
theorem of_ref5 : ∀ b : Fin 256, ofN 5 b = refN 5 b := by decide +kernel
theorem of_ref (set : Int) {b : Nat} (hb : b < 256) : ofN set b = refN set b :=
  set_cases (Q := fun set => ofN set b = refN set b) (of_ref1 ⟨b, hb⟩) (of_ref2 ⟨b, hb⟩) (of_ref3 ⟨b, hb⟩) (of_ref4 ⟨b, hb⟩) (of_ref5 ⟨b, hb⟩)
    (fun set h1 h2 h3 h4 h5 => by simp [ofN, refN, runesOf, seek, h1, h2, h3, h4, h5]) set
theorem refN_other {set : Int} (b : Nat) (h1 : ¬ set = 1) (h2 : ¬ set = 2) (h3 : ¬ set = 3) (h4 : ¬ set = 4) (h5 : ¬ set = 5) : refN set b = 65533 := by simp [refN, h1, h2, h3, h4, h5]

/-- Runes with their bytes, from one on. -/
def pairs (at' : Nat) : List Nat → List (Nat × Nat)
  | [] => []
  | r :: l => (at', r) :: pairs ((at' + 1) % 256) l
theorem pairs_length : ∀ (at' : Nat) (l : List Nat), (pairs at' l).length = l.length
  | _, [] => rfl
  | at', _ :: l => by simp [pairs, pairs_length _ l]
/-- What All of a set comes to. -/
def allL (set : Int) : List (Nat × Nat) := pairs (firstOf set) (runesOf set) ++ (if set = 5 then pairs 160 (runesOf set) else [])
def told (set : Int) (b : Nat) : Bool := !(refN set b == 65533)
def refAll (set : Int) : List (Nat × Nat) := ((List.range 256).filter (told set)).map fun b => (b, refN set b)
theorem all_ref1 : allL 1 = refAll 1 := by decide +kernel
theorem all_ref2 : allL 2 = refAll 2 := by decide +kernel
theorem all_ref3 : allL 3 = refAll 3 := by decide +kernel
theorem all_ref4 : allL 4 = refAll 4 := by decide +kernel
theorem all_ref5 : allL 5 = refAll 5 := by decide +kernel
theorem all_ref (set : Int) : allL set = refAll set :=
  set_cases (Q := fun set => allL set = refAll set) all_ref1 all_ref2 all_ref3 all_ref4 all_ref5
    (fun set h1 h2 h3 h4 h5 => by simp [allL, refAll, runesOf, pairs, told, refN, h1, h2, h3, h4, h5]) set

/-- The smallest byte of a glyph. -/
def bk (set r : Int) : Option Nat := if r = 65533 then none else (List.range 256).find? fun b => decide ((refN set b : Int) = r)

theorem bk_some {set r : Int} {b : Nat} (h : bk set r = some b) : r ≠ 65533 ∧ b < 256 ∧ (refN set b : Int) = r ∧ ∀ j, j < b → (refN set j : Int) ≠ r := by
  unfold bk at h
  split at h
  · cases h
  · rename_i hr
    have h1 := List.find?_some h
    have h2 := List.mem_range.1 (List.mem_of_find?_eq_some h)
    refine ⟨hr, h2, by simpa using h1, fun j hj hc => ?_⟩
    obtain ⟨-, i, hi, he, hall⟩ := List.find?_eq_some_iff_getElem.1 h
    simp at he
    subst he
    have := hall j hj
    simp [hc] at this
theorem bk_none {set r : Int} (h : bk set r = none) (hr : r ≠ 65533) {j : Nat} (hj : j < 256) : (refN set j : Int) ≠ r := by
  unfold bk at h
  rw [if_neg hr] at h
  have := List.find?_eq_none.1 h j (List.mem_range.2 hj)
  simpa using this
theorem bk_of {set r : Int} {b : Nat} (hr : r ≠ 65533) (hb : b < 256) (h : (refN set b : Int) = r) (hl : ∀ j, j < b → (refN set j : Int) ≠ r) : bk set r = some b := by
  cases hk : bk set r with
  | none => exact absurd h (bk_none hk hr hb)
  | some c =>
    obtain ⟨_, _, h3, h4⟩ := bk_some hk
    by_cases h5 : c < b
    · exact absurd h3 (hl c h5)
    by_cases h6 : b < c
    · exact absurd h (h4 b h6)
    have : c = b := by omega
    rw [this]

/-- The first pair of All's with a glyph tells the smallest byte. -/
theorem bk_find (set r : Int) : bk set r = ((allL set).find? fun p => decide ((p.2 : Int) = r)).map Prod.fst := by
  rw [all_ref, refAll, List.find?_map, Option.map_map]
  have e : ((fun p : Nat × Nat => decide ((p.2 : Int) = r)) ∘ fun b => (b, refN set b)) = fun b => decide ((refN set b : Int) = r) := rfl
  rw [e, List.find?_filter]
  have e2 : (Prod.fst ∘ fun b => (b, refN set b)) = id := rfl
  rw [e2, Option.map_id, id_eq]
  unfold bk
  split
  · rename_i hr
    symm
    rw [List.find?_eq_none]
    intro b _
    simp [told, hr]
    omega
  · rename_i hr
    congr 1
    funext b
    by_cases hb : (refN set b : Int) = r
    · simp [told, hb]
      omega
    · simp [hb]

theorem bk_hit {set r : Int} {k : Nat} {p : Nat × Nat} (hk : (allL set)[k]? = some p) (hp : (p.2 : Int) = r) (hl : ∀ j q, j < k → (allL set)[j]? = some q → (q.2 : Int) ≠ r) : bk set r = some p.1 := by
  rw [bk_find]
  have : (allL set).find? (fun p => decide ((p.2 : Int) = r)) = some p := by
    obtain ⟨h1, h2⟩ := List.getElem?_eq_some_iff.1 hk
    refine List.find?_eq_some_iff_getElem.2 ⟨by simpa using hp, k, h1, h2, fun j hj => ?_⟩
    have := hl j _ hj (List.getElem?_eq_getElem (by omega))
    simpa using this
  rw [this]; rfl
theorem bk_miss {set r : Int} (hl : ∀ (j : Nat) (q : Nat × Nat), (allL set)[j]? = some q → (q.2 : Int) ≠ r) : bk set r = none := by
  rw [bk_find]
  have : (allL set).find? (fun p => decide ((p.2 : Int) = r)) = none := by
    refine List.find?_eq_none.2 fun q hq => ?_
    obtain ⟨j, hj⟩ := List.getElem?_of_mem hq
    simpa using hl j q hj
  rw [this]; rfl

theorem allL_mem {set : Int} {k : Nat} {p : Nat × Nat} (h : (allL set)[k]? = some p) : p.1 < 256 ∧ p.2 = refN set p.1 ∧ p.2 ≠ 65533 := by
  rw [all_ref] at h
  have hm := List.mem_of_getElem? h
  simp only [refAll, List.mem_map, List.mem_filter, List.mem_range, told] at hm
  obtain ⟨b, ⟨h1, h2⟩, rfl⟩ := hm
  exact ⟨h1, rfl, by simpa using h2⟩
theorem allL_rise {set : Int} {j k : Nat} {p q : Nat × Nat} (hj : (allL set)[j]? = some p) (hk : (allL set)[k]? = some q) (h : j < k) : p.1 < q.1 := by
  rw [all_ref] at hj hk
  have hp : (refAll set).Pairwise (fun a b => a.1 < b.1) := by
    unfold refAll
    rw [List.pairwise_map]
    exact List.Pairwise.filter _ List.pairwise_lt_range
  obtain ⟨a1, a2⟩ := List.getElem?_eq_some_iff.1 hj
  obtain ⟨b1, b2⟩ := List.getElem?_eq_some_iff.1 hk
  have := List.pairwise_iff_getElem.1 hp j k a1 b1 h
  rw [a2, b2] at this
  exact this
theorem allL_length (set : Int) : (allL set).length = ((List.range 256).filter (told set)).length := by rw [all_ref]; simp [refAll]
theorem allL_le (set : Int) : (allL set).length ≤ 256 := by
  rw [allL_length]
  exact Nat.le_trans (List.length_filter_le _ _) (by simp)

theorem refN_lt1 : ∀ b : Fin 256, refN 1 b < 65534 := by decide +kernel
theorem refN_lt2 : ∀ b : Fin 256, refN 2 b < 65534 := by decide +kernel
theorem refN_lt3 : ∀ b : Fin 256, refN 3 b < 65534 := by decide +kernel
theorem refN_lt4 : ∀ b : Fin 256, refN 4 b < 65534 := by decide +kernel
theorem refN_lt5 : ∀ b : Fin 256, refN 5 b < 65534 := by decide +kernel
theorem refN_lt (set : Int) {b : Nat} (hb : b < 256) : refN set b < 65534 :=
  set_cases (Q := fun set => refN set b < 65534) (refN_lt1 ⟨b, hb⟩) (refN_lt2 ⟨b, hb⟩) (refN_lt3 ⟨b, hb⟩) (refN_lt4 ⟨b, hb⟩) (refN_lt5 ⟨b, hb⟩)
    (fun set h1 h2 h3 h4 h5 => by rw [refN_other b h1 h2 h3 h4 h5]; omega) set

#print axioms of_ref
#print axioms bk_find
#print axioms decodes_text
end Go.Proofs.YtlhajbcabpfbkaaGreatDoor.Gl

