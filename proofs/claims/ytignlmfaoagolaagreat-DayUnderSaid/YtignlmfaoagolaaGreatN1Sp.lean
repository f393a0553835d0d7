/-
  Numbers in bytes: what is reckoned.
-/
import Derived.Test.YtignlmfaoagolaaGreatLib8
set_option linter.unusedVariables false
namespace Sp
open Go.AbsM
/-- Seven bits by seven. -/
def encN (n : Nat) : List Int := if h : n < 128 then [(n : Int)] else ((n % 128 + 128 : Nat) : Int) :: encN (n / 128)
termination_by n
decreasing_by omega
def enc (u : Int) : List Int := encN u.toNat
theorem or128 (n : Nat) (h : n < 256) : n ||| 128 = n % 128 + 128 := by
  have : ∀ m : Fin 256, m.val ||| 128 = m.val % 128 + 128 := by decide +kernel
  exact this ⟨n, h⟩
theorem enc_low {u : Int} (h0 : 0 ≤ u) (h : u < 128) : enc u = [u] := by
  unfold enc
  rw [encN, dif_pos (by omega)]
  congr 1; omega
theorem enc_high {u : Int} (h0 : 0 ≤ u) (h : 128 ≤ u) : enc u = (u % 128 + 128) :: enc (u / 128) := by
  unfold enc
  rw [encN, dif_neg (by omega)]
  congr 1
  · omega
  · congr 1; omega
theorem or_u8 {u : Int} (h0 : 0 ≤ u) : W.or .u8 (W.wrap .u8 u) 128 = u % 128 + 128 := by
  rw [W.wu8, W.or_pos rfl (by omega) (by show u % 256 < 256; omega) (by decide) (by decide)]
  have := or128 (u % 256).toNat (by omega)
  show (((u % 256).toNat ||| 128 : Nat) : Int) = _
  rw [this]; omega
theorem wrap_low {u : Int} (h0 : 0 ≤ u) (h : u < 128) : W.wrap .u8 u = u := by rw [W.wu8]; omega
theorem shr7 {u : Int} : W.shr .u64 u 7 = u / 128 := by
  have := W.shr_lit (k := .u64) (a := u) 7 (by decide)
  exact this
theorem encN_len (n : Nat) : 1 ≤ (encN n).length ∧ ∀ k, n < 128 ^ k → (encN n).length ≤ max k 1 := by
  induction n using Nat.strongRecOn with
  | _ n ih =>
    rw [encN]
    split
    · exact ⟨by simp, fun k _ => by simp; omega⟩
    · rename_i h
      obtain ⟨h1, h2⟩ := ih (n / 128) (by omega)
      refine ⟨by simp, fun k hk => ?_⟩
      cases k with
      | zero => simp at hk; omega
      | succ k =>
        have : n / 128 < 128 ^ k := by rw [Nat.pow_succ] at hk; omega
        have := h2 k this
        cases k with
        | zero => simp at hk; omega
        | succ k => simp; omega
theorem enc_len {u : Int} (h0 : 0 ≤ u) (h : u < 18446744073709551616) : 1 ≤ (enc u).length ∧ (enc u).length ≤ 10 := by
  obtain ⟨h1, h2⟩ := encN_len u.toNat
  refine ⟨h1, ?_⟩
  have := h2 10 (by
    have : (128 : Nat) ^ 10 = 1180591620717411303424 := by decide
    omega)
  exact this
end Sp
