/-
  Texts of a proof over the translated program: N4Sp2.
-/
import Derived.Test.YtijahjkcbphmcaaN4Sp
set_option linter.unusedVariables false
namespace Sp
open Go Go.AbsM
theorem shr_nat {k : IntKind} {U s : Nat} (h : s ≤ k.bits) : W.shr k (U : Int) (s : Int) = ((U >>> s : Nat) : Int) := by
  unfold W.shr
  have e : min (s : Int).toNat k.bits = s := by rw [Int.toNat_natCast]; omega
  rw [e, Nat.shiftRight_eq_div_pow, Int.fdiv_eq_ediv_of_nonneg _ (by exact_mod_cast Nat.zero_le _)]
  push_cast; rfl
theorem shl_u64 {U s : Nat} (h : s ≤ 64) : W.shl .u64 (U : Int) (s : Int) = ((U <<< s % 18446744073709551616 : Nat) : Int) := by
  unfold W.shl
  have e : min (s : Int).toNat IntKind.u64.bits = s := by rw [Int.toNat_natCast]; show min s 64 = s; omega
  rw [e, wrap_u64, Nat.shiftLeft_eq, Int.natCast_emod, Int.natCast_mul, Int.natCast_pow]; rfl
theorem shl_u8 {U s : Nat} (h : s ≤ 8) : W.shl .u8 (U : Int) (s : Int) = ((U <<< s % 256 : Nat) : Int) := by
  unfold W.shl
  have e : min (s : Int).toNat IntKind.u8.bits = s := by rw [Int.toNat_natCast]; show min s 8 = s; omega
  rw [e, wrap_u8, Nat.shiftLeft_eq, Int.natCast_emod, Int.natCast_mul, Int.natCast_pow]; rfl
theorem or_u8n {x y : Nat} (hx : x < 256) (hy : y < 256) : W.or .u8 (x : Int) (y : Int) = ((x ||| y : Nat) : Int) := by
  have := W.or_pos (k := .u8) (a := (x : Int)) (b := (y : Int)) rfl (by omega) (by show (x : Int) < 256; omega) (by omega) (by show (y : Int) < 256; omega)
  simpa using this
theorem or_u64 {x y : Nat} (hx : x < 18446744073709551616) (hy : y < 18446744073709551616) : W.or .u64 (x : Int) (y : Int) = ((x ||| y : Nat) : Int) := by
  have := W.or_pos (k := .u64) (a := (x : Int)) (b := (y : Int)) rfl (by omega) (by show (x : Int) < 18446744073709551616; omega) (by omega) (by show (y : Int) < 18446744073709551616; omega)
  simpa using this
theorem and_u8 {x y : Nat} (hx : x < 256) (hy : y < 256) : W.and .u8 (x : Int) (y : Int) = ((x &&& y : Nat) : Int) := by
  have := W.and_pos (k := .u8) (a := (x : Int)) (b := (y : Int)) rfl (by omega) (by show (x : Int) < 256; omega) (by omega) (by show (y : Int) < 256; omega)
  simpa using this
theorem and_u64 {x y : Nat} (hx : x < 18446744073709551616) (hy : y < 18446744073709551616) : W.and .u64 (x : Int) (y : Int) = ((x &&& y : Nat) : Int) := by
  have := W.and_pos (k := .u64) (a := (x : Int)) (b := (y : Int)) rfl (by omega) (by show (x : Int) < 18446744073709551616; omega) (by omega) (by show (y : Int) < 18446744073709551616; omega)
  simpa using this
theorem byte_shl {U r : Nat} (h : r < 8) : W.wrap .u8 (W.shl .u64 (U : Int) (r : Int)) = (((U <<< r) % 256 : Nat) : Int) := by
  rw [shl_u64 (by omega), W.wu8]
  have : (((U <<< r % 18446744073709551616 : Nat) : Int)) % 256 = ((U <<< r % 18446744073709551616 % 256 : Nat) : Int) := by rw [Int.natCast_emod]; rfl
  rw [this]; congr 1; omega
theorem quo8 {A : Nat} (h : A < 9223372036854775808) : W.quo .i64 (A : Int) 8 = ((A / 8 : Nat) : Int) := by
  rw [W.quo_i64 (by omega) (by omega) (by omega)]; push_cast; rfl
theorem rem8 (A : Nat) : W.rem (A : Int) 8 = ((A % 8 : Nat) : Int) := by
  rw [W.rem_pos (by omega)]; push_cast; rfl
theorem imin_nat (a b : Nat) : W.imin (a : Int) (b : Int) = ((min a b : Nat) : Int) := by
  unfold W.imin; split <;> omega
theorem two64 : (18446744073709551616 : Nat) = 2 ^ 64 := rfl
theorem get_val {b : List Int} {j : Nat} (hb : bytes b) (hj : j < b.length) : b.getD j 0 = ((valOf b >>> (8 * j) % 256 : Nat) : Int) := by
  have := ofVal_get (L := b.length) (v := valOf b) hj
  rw [ofVal_valOf b hb] at this; exact this
/-- A step of laying bits, all of it. -/
theorem put_all {b : List Int} {A U N : Nat} (hb : bytes b) (hA : A + N ≤ 8 * b.length) (hU : U < 2 ^ N) (hN : N ≠ 0) :
    bytes (b.set (A / 8) (((((b.getD (A / 8) 0).toNat ||| (U <<< (A % 8)) % 256 : Nat)) : Int))) ∧ putB (b.set (A / 8) (((((b.getD (A / 8) 0).toNat ||| (U <<< (A % 8)) % 256 : Nat)) : Int))) ((A + min N (8 - A % 8) : Nat) : Int) ((U >>> min N (8 - A % 8) : Nat) : Int) = putB b (A : Int) (U : Int) := by
  have hv := valOf_lt b
  have hj : A / 8 < b.length := by omega
  have e0 : b = ofVal b.length (valOf b) := (ofVal_valOf b hb).symm
  have eg : (b.getD (A / 8) 0).toNat = valOf b >>> (8 * (A / 8)) % 256 := by
    rw [get_val hb hj, Int.toNat_natCast]
  rw [eg]
  have hx : (U <<< (A % 8)) % 256 < 256 := Nat.mod_lt _ (by decide)
  have e1 : b.set (A / 8) ((((valOf b >>> (8 * (A / 8)) % 256 ||| (U <<< (A % 8)) % 256 : Nat)) : Int)) = ofVal b.length (valOf b ||| ((U <<< (A % 8)) % 256) <<< (8 * (A / 8))) := by
    have := ofVal_or (L := b.length) (v := valOf b) hj hx
    rw [← e0] at this; exact this
  have hlt : valOf b ||| ((U <<< (A % 8)) % 256) <<< (8 * (A / 8)) < 2 ^ (8 * b.length) := by
    apply Nat.or_lt_two_pow hv
    rw [Nat.shiftLeft_eq]
    calc (U <<< (A % 8)) % 256 * 2 ^ (8 * (A / 8)) < 2 ^ 8 * 2 ^ (8 * (A / 8)) := Nat.mul_lt_mul_of_pos_right hx (Nat.two_pow_pos _)
      _ = 2 ^ (8 + 8 * (A / 8)) := by rw [← Nat.pow_add]
      _ ≤ 2 ^ (8 * b.length) := Nat.pow_le_pow_right (by decide) (by omega)
  rw [e1]
  refine ⟨ofVal_bytes _ _, ?_⟩
  unfold putB
  rw [ofVal_len, valOf_ofVal hlt, Nat.or_assoc]
  simp only [Int.toNat_natCast]
  rw [put_step hU rfl]
theorem mask_and (x s : Nat) : x &&& (2 ^ s - 1) = x % 2 ^ s := Nat.and_two_pow_sub_one_eq_mod x s
end Sp
