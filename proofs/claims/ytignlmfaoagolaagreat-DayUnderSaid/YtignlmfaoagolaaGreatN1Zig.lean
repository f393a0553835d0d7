/-
  Texts of a proof over the translated program: N1Zig.
-/
import Derived.Test.YtignlmfaoagolaaGreatLib8
set_option linter.unusedVariables false
namespace Sp
open Go Go.AbsM
def zig (a : Int) : Int := if a < 0 then -2 * a - 1 else 2 * a
def zag (u : Int) : Int := if u % 2 = 1 then -(u / 2) - 1 else u / 2
theorem xor_zero_u64 (x : Int) (h0 : 0 ≤ x) (h1 : x < 18446744073709551616) : ((BitVec.ofInt 64 x ^^^ BitVec.ofInt 64 0).toNat : Int) = x := by
  have : BitVec.ofInt 64 0 = 0#64 := rfl
  rw [this, BitVec.xor_zero, BitVec.toNat_ofInt]
  omega
theorem xor_ones_u64 (x : Int) (h0 : 0 ≤ x) (h1 : x < 18446744073709551616) : ((BitVec.ofInt 64 x ^^^ BitVec.ofInt 64 18446744073709551615).toNat : Int) = 18446744073709551615 - x := by
  have : BitVec.ofInt 64 18446744073709551615 = BitVec.allOnes 64 := by decide
  rw [this, BitVec.xor_allOnes, BitVec.toNat_not, BitVec.toNat_ofInt]
  omega
/-- Zigzag, as the program reckons it. -/
theorem zig_eq (a : Int) (h1 : -9223372036854775808 ≤ a) (h2 : a < 9223372036854775808) :
    IntKind.u64.wrap (BitVec.ofInt IntKind.u64.bits (IntKind.u64.wrap (IntKind.u64.wrap a * 2 ^ 1)) ^^^ BitVec.ofInt IntKind.u64.bits (IntKind.u64.wrap (a.fdiv (2 ^ 63)))).toNat = if a < 0 then -2 * a - 1 else 2 * a := by
  have e1 : IntKind.u64.wrap (IntKind.u64.wrap a * 2 ^ 1) = (2 * a) % 18446744073709551616 := by
    rw [wrap_u64, wrap_u64]; omega
  have e2 : IntKind.u64.bits = 64 := rfl
  have e3 : (2 : Int) ^ 63 = 9223372036854775808 := by decide
  rw [e1, e2, e3, Int.fdiv_eq_ediv_of_nonneg _ (by omega)]
  by_cases h : a < 0
  · rw [if_pos h]
    have e4 : a / 9223372036854775808 = -1 := by omega
    have e5 : IntKind.u64.wrap (-1) = 18446744073709551615 := by decide
    rw [e4, e5, xor_ones_u64 _ (by omega) (by omega), wrap_u64]
    omega
  · rw [if_neg h]
    have e4 : a / 9223372036854775808 = 0 := by omega
    have e5 : IntKind.u64.wrap 0 = 0 := by decide
    rw [e4, e5, xor_zero_u64 _ (by omega) (by omega), wrap_u64]
    omega
theorem and_one (u : Int) (h1 : 0 ≤ u) (h2 : u < 18446744073709551616) : ((BitVec.ofInt 64 u &&& BitVec.ofInt 64 1).toNat : Int) = u % 2 := by
  have : BitVec.ofInt 64 1 = 1#64 := rfl
  rw [this, BitVec.toNat_and, BitVec.toNat_ofInt]
  have : (1#64).toNat = 1 := rfl
  rw [this, Nat.and_one_is_mod]
  omega
/-- Zigzag back. -/
theorem zag_eq (u : Int) (h1 : 0 ≤ u) (h2 : u < 18446744073709551616) :
    IntKind.i64.wrap (BitVec.ofInt IntKind.i64.bits (IntKind.i64.wrap (u.fdiv (2 ^ 1))) ^^^ BitVec.ofInt IntKind.i64.bits (IntKind.i64.wrap (0 - IntKind.i64.wrap (IntKind.u64.wrap (BitVec.ofInt IntKind.u64.bits u &&& BitVec.ofInt IntKind.u64.bits 1).toNat)))).toNat
      = if u % 2 = 1 then -(u / 2) - 1 else u / 2 := by
  have e2 : IntKind.u64.bits = 64 := rfl
  have e2' : IntKind.i64.bits = 64 := rfl
  have e3 : (2 : Int) ^ 1 = 2 := by decide
  have e4 : IntKind.u64.wrap ((BitVec.ofInt 64 u &&& BitVec.ofInt 64 1).toNat : Int) = u % 2 := by rw [and_one u h1 h2, wrap_u64]; omega
  have e5 : IntKind.i64.wrap (u.fdiv 2) = u / 2 := by rw [Int.fdiv_eq_ediv_of_nonneg _ (by omega), wrap_i64]; omega
  rw [e2, e2', e3, e4, e5]
  by_cases h : u % 2 = 1
  · rw [if_pos h, h]
    have e6 : IntKind.i64.wrap (0 - IntKind.i64.wrap 1) = -1 := by decide
    have e7 : BitVec.ofInt 64 (-1) = BitVec.ofInt 64 18446744073709551615 := by decide
    rw [e6, e7, xor_ones_u64 _ (by omega) (by omega), wrap_i64]
    omega
  · have h0 : u % 2 = 0 := by omega
    rw [if_neg h, h0]
    have e6 : IntKind.i64.wrap (0 - IntKind.i64.wrap 0) = 0 := by decide
    rw [e6, xor_zero_u64 _ (by omega) (by omega), wrap_i64]
    omega

theorem zig16 {a : Int} (h1 : -9223372036854775808 ≤ a) (h2 : a < 9223372036854775808) : W.xor .u64 (W.shl .u64 (W.wrap .u64 a) 1) (W.wrap .u64 (W.shr .i64 a 63)) = zig a := zig_eq a h1 h2
theorem zag18 {u : Int} (h1 : 0 ≤ u) (h2 : u < 18446744073709551616) : W.xor .i64 (W.wrap .i64 (W.shr .u64 u 1)) (W.neg .i64 (W.wrap .i64 (W.and .u64 u 1))) = zag u := by
  have h := zag_eq u h1 h2
  have e : W.wrap .i64 (W.and .u64 u 1) = IntKind.i64.wrap (IntKind.u64.wrap (BitVec.ofInt IntKind.u64.bits u &&& BitVec.ofInt IntKind.u64.bits 1).toNat) := rfl
  exact h
theorem inv_u64 {a : Int} (h0 : 0 ≤ a) (h1 : a < 18446744073709551616) : W.inv .u64 a = 18446744073709551615 - a := by
  show IntKind.u64.wrap (BitVec.ofInt 64 18446744073709551615 ^^^ BitVec.ofInt 64 a).toNat = _
  rw [BitVec.xor_comm, wrap_u64]
  rw [xor_ones_u64 a h0 h1]; omega
theorem shl1 {a : Int} : W.shl .u64 a 1 = 2 * a % 18446744073709551616 := by
  show IntKind.u64.wrap (a * 2 ^ 1) = _
  rw [wrap_u64]; omega
theorem zig17a {a : Int} (h1 : -9223372036854775808 ≤ a) (h : a < 0) : W.inv .u64 (W.shl .u64 (W.wrap .u64 a) 1) = zig a := by
  rw [shl1, W.wu64, inv_u64 (by omega) (by omega), zig, if_pos h]; omega
theorem zig17b {a : Int} (h1 : a < 9223372036854775808) (h : 0 ≤ a) : W.shl .u64 (W.wrap .u64 a) 1 = zig a := by
  rw [shl1, W.wu64, zig, if_neg (by omega)]; omega
theorem and1 {u : Int} (h1 : 0 ≤ u) (h2 : u < 18446744073709551616) : W.and .u64 u 1 = u % 2 := by
  show IntKind.u64.wrap (BitVec.ofInt 64 u &&& BitVec.ofInt 64 1).toNat = _
  rw [and_one u h1 h2, wrap_u64]; omega
theorem shr1 {u : Int} : W.shr .u64 u 1 = u / 2 := W.shr_lit (k := .u64) (a := u) 1 (by decide)
theorem shr63 {u : Int} : W.shr .u64 u 63 = u / 9223372036854775808 := W.shr_lit (k := .u64) (a := u) 63 (by decide)
theorem zag19a {u : Int} (h1 : 0 ≤ u) (h2 : u < 18446744073709551616) (h : u % 2 = 1) : W.wrap .i64 (W.inv .u64 (W.shr .u64 u 1)) = zag u := by
  rw [shr1, inv_u64 (by omega) (by omega), W.wi64, zag, if_pos h]; omega
theorem zag19b {u : Int} (h1 : 0 ≤ u) (h2 : u < 18446744073709551616) (h : u % 2 ≠ 1) : W.wrap .i64 (W.shr .u64 u 1) = zag u := by
  rw [shr1, W.wi64, zag, if_neg h]; omega
theorem zig_in {a : Int} (h1 : -9223372036854775808 ≤ a) (h2 : a < 9223372036854775808) : 0 ≤ zig a ∧ zig a < 18446744073709551616 := by
  unfold zig; split <;> omega
theorem zag_in {u : Int} (h1 : 0 ≤ u) (h2 : u < 18446744073709551616) : -9223372036854775808 ≤ zag u ∧ zag u < 9223372036854775808 := by
  unfold zag; split <;> omega
theorem zag_zig (a : Int) : zag (zig a) = a := by
  unfold zag zig; split <;> split <;> omega
theorem zig_zag {u : Int} (h : 0 ≤ u) : zig (zag u) = u := by
  unfold zag zig; split <;> split <;> omega
theorem zig_par {a : Int} (h1 : -9223372036854775808 ≤ a) (h2 : a < 9223372036854775808) : zig a % 2 = a % 18446744073709551616 / 9223372036854775808 := by
  unfold zig; split <;> omega
end Sp
