/-
  Bits of numbers of 64 bits. No program.
-/
import Derived.Laws.Entries
import Derived.Laws.Bits64
import Derived.WalkKit
namespace Go.Proofs.YtacnoakgfkcfbaaDoor

theorem wrap_i64 (n : Nat) : IntKind.i64.wrap (n : Int) = (BitVec.ofNat 64 n).toInt := by
  rw [BitVec.toInt_eq_toNat_cond, BitVec.toNat_ofNat]
  simp [IntKind.wrap, IntKind.bits, IntKind.signed]
  omega

theorem i64_bv (op : BinOp) (x y : Int) : BitVec.ofInt 64 (bits op .i64 x y) = (match op with | .and => BitVec.ofInt 64 x &&& BitVec.ofInt 64 y | .or => BitVec.ofInt 64 x ||| BitVec.ofInt 64 y | .xor => BitVec.ofInt 64 x ^^^ BitVec.ofInt 64 y | _ => BitVec.ofInt 64 x &&& ~~~BitVec.ofInt 64 y) := by
  cases op <;> (unfold bits; simp only [IntKind.bits]; rw [wrap_i64 _, BitVec.ofNat_toNat, BitVec.setWidth_eq, BitVec.ofInt_toInt]; rfl)

theorem i64_nat (a : Nat) (ha : a < 9223372036854775808) : (BitVec.ofInt 64 (a : Int)).toNat = a := by
  rw [BitVec.ofInt_natCast, BitVec.toNat_ofNat]; exact Nat.mod_eq_of_lt (by omega)
theorem i64_and (a b : Nat) (ha : a < 9223372036854775808) (hb : b < 9223372036854775808) : bits .and .i64 (a : Int) (b : Int) = ((a &&& b : Nat) : Int) := by
  have hx : a &&& b < 2 ^ 63 := Nat.and_lt_two_pow _ (by omega)
  show IntKind.i64.wrap ((BitVec.ofInt 64 (a : Int) &&& BitVec.ofInt 64 (b : Int)).toNat : Int) = _
  rw [BitVec.toNat_and, i64_nat a ha, i64_nat b hb]
  simp [IntKind.wrap, IntKind.bits, IntKind.signed]
  omega
theorem i64_or (a b : Nat) (ha : a < 9223372036854775808) (hb : b < 9223372036854775808) : bits .or .i64 (a : Int) (b : Int) = ((a ||| b : Nat) : Int) := by
  have hx : a ||| b < 2 ^ 63 := Nat.or_lt_two_pow (by omega) (by omega)
  show IntKind.i64.wrap ((BitVec.ofInt 64 (a : Int) ||| BitVec.ofInt 64 (b : Int)).toNat : Int) = _
  rw [BitVec.toNat_or, i64_nat a ha, i64_nat b hb]
  simp [IntKind.wrap, IntKind.bits, IntKind.signed]
  omega
theorem i64_andNot (a b : Nat) (ha : a < 9223372036854775808) (hb : b < 9223372036854775808) : bits .andNot .i64 (a : Int) (b : Int) = ((a &&& (18446744073709551615 - b) : Nat) : Int) := by
  have hx : a &&& (18446744073709551615 - b) < 2 ^ 63 := Nat.lt_of_le_of_lt Nat.and_le_left (by omega)
  show IntKind.i64.wrap ((BitVec.ofInt 64 (a : Int) &&& ~~~BitVec.ofInt 64 (b : Int)).toNat : Int) = _
  rw [BitVec.toNat_and, BitVec.toNat_not, i64_nat a ha, i64_nat b hb]
  have e : 2 ^ 64 - 1 - b = 18446744073709551615 - b := by omega
  rw [e]
  simp [IntKind.wrap, IntKind.bits, IntKind.signed]
  omega

/-- The bits from the fourteenth on. -/
def high (x : Int) : BitVec 64 := BitVec.ofInt 64 x >>> 14
theorem high_andNot (x : Int) (m : Nat) (hm : m < 16384) : high (bits .andNot .i64 x m) = high x := by
  unfold high
  rw [i64_bv]
  show (BitVec.ofInt 64 x &&& ~~~BitVec.ofInt 64 (m : Int)) >>> 14 = _
  apply BitVec.eq_of_getLsbD_eq
  intro i hi
  rw [BitVec.getLsbD_ushiftRight, BitVec.getLsbD_ushiftRight, BitVec.getLsbD_and, BitVec.getLsbD_not]
  have : (BitVec.ofInt 64 (m : Int)).getLsbD (14 + i) = false := by
    rw [BitVec.getLsbD, i64_nat m (by omega)]
    exact Nat.testBit_lt_two_pow (Nat.lt_of_lt_of_le hm (by have := Nat.pow_le_pow_right (n := 2) (by omega) (show 14 ≤ 14 + i by omega); simpa using this))
  rw [this]
  by_cases h : 14 + i < 64
  · simp [h]
  · simp [h, BitVec.getLsbD_of_ge _ _ (by omega : 64 ≤ 14 + i)]
theorem high_zero {x : Int} (h : high x = 0) (h0 : -9223372036854775808 ≤ x) (h1 : x ≤ 9223372036854775807) : 0 ≤ x ∧ x < 16384 := by
  have h2 : (BitVec.ofInt 64 x >>> 14).toNat = 0 := by rw [show BitVec.ofInt 64 x >>> 14 = 0 from h]; rfl
  rw [BitVec.toNat_ushiftRight, BitVec.toNat_ofInt, Nat.shiftRight_eq_div_pow] at h2
  have : (x % 2^64).toNat < 16384 := by omega
  omega
end Go.Proofs.YtacnoakgfkcfbaaDoor
