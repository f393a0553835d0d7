/-
  Numbers in bytes: reading them.
-/
import Derived.Test.YtignlmfaoagolaaGreatN1Sp
set_option linter.unusedVariables false
namespace Sp
open Go Go.AbsM

def getF (b : List Int) (a : Nat) : Nat → Int → Int → Int × Int × Int
  | 0, n, u => (0, 0, 2)
  | k + 1, n, u =>
    if (a : Int) + n = b.length then (0, 0, 5) else
    if (n = 9 ∧ 1 < b.getD (a + n.toNat) 0) ∨ (0 < n ∧ b.getD (a + n.toNat) 0 = 0) then (0, 0, 2) else
    if 128 ≤ b.getD (a + n.toNat) 0 then getF b a k (n + 1) (u + (b.getD (a + n.toNat) 0 % 128) * 128 ^ n.toNat)
    else (u + (b.getD (a + n.toNat) 0 % 128) * 128 ^ n.toNat, n + 1, 0)
def get (b : List Int) (at_ : Int) : Int × Int × Int := if at_ < 0 ∨ (b.length : Int) < at_ then (0, 0, 1) else getF b at_.toNat 10 0 0
def bytes (b : List Int) : Prop := ∀ x, x ∈ b → 0 ≤ x ∧ x < 256
theorem bytes_get {b : List Int} (h : bytes b) (i : Nat) : 0 ≤ b.getD i 0 ∧ b.getD i 0 < 256 := by
  rw [List.getD_eq_getElem?_getD]
  cases hi : b[i]? with
  | none => simp
  | some x => exact h x (List.mem_of_getElem? hi)

theorem and127 {c : Int} (h0 : 0 ≤ c) (h1 : c < 256) : W.and .u8 c 127 = c % 128 := by
  rw [W.and_pos rfl h0 (by exact h1) (by decide) (by decide)]
  have : c.toNat &&& (127 : Int).toNat = c.toNat % 128 := Nat.and_two_pow_sub_one_eq_mod c.toNat 7
  rw [this]; omega

theorem pow7 (n : Nat) : (2 : Nat) ^ (7 * n) = 128 ^ n := by rw [Nat.pow_mul]
theorem or_sum {u x n : Nat} (hu : u < 128 ^ n) : u ||| (x * 128 ^ n) = u + x * 128 ^ n := by
  have h := Nat.two_pow_add_eq_or_of_lt (i := 7 * n) (b := u) (by rw [pow7]; exact hu) x
  rw [pow7] at h
  rw [Nat.or_comm, Nat.mul_comm x, ← h, Nat.add_comm]

theorem pow_le9 {n : Nat} (h : n ≤ 9) : 128 ^ n ≤ 9223372036854775808 := by
  have := Nat.pow_le_pow_right (n := 128) (by decide) h
  have e : (128 : Nat) ^ 9 = 9223372036854775808 := by decide
  omega
theorem pow_le8 {n : Nat} (h : n ≤ 8) : 128 ^ n ≤ 72057594037927936 := by
  have := Nat.pow_le_pow_right (n := 128) (by decide) h
  have e : (128 : Nat) ^ 8 = 72057594037927936 := by decide
  omega

theorem step_bound {c : Int} {n : Nat} {u : Int} (h0 : 0 ≤ c) (hn : n ≤ 9) (hu0 : 0 ≤ u) (hu : u < 128 ^ n) (h9 : n = 9 → c % 128 ≤ 1) : 0 ≤ (c % 128) * 128 ^ n ∧ u + (c % 128) * 128 ^ n < 18446744073709551616 ∧ (n ≤ 8 → u + (c % 128) * 128 ^ n < 128 ^ (n + 1)) := by
  have hp : (0 : Int) < 128 ^ n := Int.pow_pos (by decide)
  have hx0 : 0 ≤ c % 128 := by omega
  have hx1 : c % 128 ≤ 127 := by omega
  have a0 : 0 ≤ (c % 128) * 128 ^ n := Int.mul_nonneg hx0 (by omega)
  have a1 : (c % 128) * 128 ^ n ≤ 127 * 128 ^ n := Int.mul_le_mul_of_nonneg_right hx1 (by omega)
  have a3 : n ≤ 8 → u + (c % 128) * 128 ^ n < 128 ^ (n + 1) := fun _ => by rw [Int.pow_succ]; omega
  refine ⟨a0, ?_, a3⟩
  by_cases h : n ≤ 8
  · have := a3 h
    have hle : (128 : Int) ^ (n + 1) ≤ 9223372036854775808 := by
      have h1 := pow_le9 (n := n + 1) (by omega)
      have h2 : ((128 ^ (n + 1) : Nat) : Int) = (128 : Int) ^ (n + 1) := by rw [Int.natCast_pow]; rfl
      rw [← h2]; omega
    omega
  · have : n = 9 := by omega
    subst this
    have h1 := h9 rfl
    have e : (128 : Int) ^ 9 = 9223372036854775808 := by decide
    rw [e] at hu a0 ⊢
    omega

theorem step_u {c u : Int} {n : Nat} (h0 : 0 ≤ c) (h1 : c < 256) (hn : n ≤ 9) (hu0 : 0 ≤ u) (hu : u < 128 ^ n) (h9 : n = 9 → c ≤ 1) (m : Int) (hm : m = 7 * (n : Int)) :
    W.or .u64 u (W.shl .u64 (W.wrap .u64 (W.and .u8 c 127)) m) = u + (c % 128) * 128 ^ n := by
  obtain ⟨b0, b1, b2⟩ := step_bound h0 hn hu0 hu (fun h => by have := h9 h; omega)
  rw [and127 h0 h1, W.wu64_in (by omega) (by omega)]
  have hs : W.shl .u64 (c % 128) m = (c % 128) * 128 ^ n := by
    unfold W.shl
    have hm2 : min m.toNat IntKind.u64.bits = 7 * n := by
      show min m.toNat 64 = 7 * n
      omega
    rw [hm2, wrap_u64]
    have : (2 : Int) ^ (7 * n) = 128 ^ n := by exact_mod_cast congrArg (Nat.cast (R := Int)) (pow7 n)
    rw [this]
    omega
  rw [hs, W.or_pos rfl hu0 (by show u < 18446744073709551616; omega) b0 (by show _ < 18446744073709551616; omega)]
  have e : ((c % 128) * 128 ^ n).toNat = (c % 128).toNat * 128 ^ n := by
    have hx : ((c % 128).toNat : Int) = c % 128 := Int.toNat_of_nonneg (by omega)
    have : (((c % 128).toNat * 128 ^ n : Nat) : Int) = (c % 128) * 128 ^ n := by push_cast; rw [hx]
    omega
  rw [e, or_sum (by
    have : (u.toNat : Int) = u := Int.toNat_of_nonneg hu0
    have h2 : (u.toNat : Int) < ((128 ^ n : Nat) : Int) := by rw [this]; exact_mod_cast hu
    exact_mod_cast h2)]
  have hx : ((c % 128).toNat : Int) = c % 128 := Int.toNat_of_nonneg (by omega)
  have hy : (u.toNat : Int) = u := Int.toNat_of_nonneg hu0
  push_cast
  rw [hx, hy]
end Sp
namespace Sp
open Go Go.AbsM
section
variable {b : List Int} {a k : Nat} {n u : Int}
theorem getF_short (h : (a : Int) + n = b.length) : getF b a (k + 1) n u = (0, 0, 5) := by simp only [getF, if_pos h]
theorem getF_form (h : (a : Int) + n ≠ b.length) (h2 : (n = 9 ∧ 1 < b.getD (a + n.toNat) 0) ∨ (0 < n ∧ b.getD (a + n.toNat) 0 = 0)) : getF b a (k + 1) n u = (0, 0, 2) := by simp only [getF, if_neg h, if_pos h2]
theorem getF_more (h : (a : Int) + n ≠ b.length) (h2 : ¬ ((n = 9 ∧ 1 < b.getD (a + n.toNat) 0) ∨ (0 < n ∧ b.getD (a + n.toNat) 0 = 0))) (h3 : 128 ≤ b.getD (a + n.toNat) 0) :
    getF b a (k + 1) n u = getF b a k (n + 1) (u + (b.getD (a + n.toNat) 0 % 128) * 128 ^ n.toNat) := by simp only [getF, if_neg h, if_neg h2, if_pos h3]
theorem getF_done (h : (a : Int) + n ≠ b.length) (h2 : ¬ ((n = 9 ∧ 1 < b.getD (a + n.toNat) 0) ∨ (0 < n ∧ b.getD (a + n.toNat) 0 = 0))) (h3 : b.getD (a + n.toNat) 0 < 128) :
    getF b a (k + 1) n u = (u + (b.getD (a + n.toNat) 0 % 128) * 128 ^ n.toNat, n + 1, 0) := by simp only [getF, if_neg h, if_neg h2, if_neg (show ¬ 128 ≤ b.getD (a + n.toNat) 0 by omega)]
end
end Sp
namespace Sp
theorem get_arg {b : List Int} {a : Int} (h : a < 0 ∨ (b.length : Int) < a) : get b a = (0, 0, 1) := if_pos h
theorem get_in {b : List Int} {a : Int} (h0 : 0 ≤ a) (h : a ≤ b.length) : get b a = getF b a.toNat 10 0 0 := if_neg (by omega)
end Sp
