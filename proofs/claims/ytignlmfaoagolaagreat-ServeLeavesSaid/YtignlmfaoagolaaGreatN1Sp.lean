/-
  Texts of a proof over the translated program: N1Sp.
-/
import Derived.Test.YtignlmfaoagolaaGreatLib7
set_option linter.unusedVariables false
set_option linter.unusedSimpArgs false
set_option linter.unusedSectionVars false
namespace Sp
open Go.AbsM
def encN (n : Nat) : List Int := if h : n < 128 then [(n : Int)] else ((n % 128 + 128 : Nat) : Int) :: encN (n / 128)
termination_by n
decreasing_by omega
def enc (u : Int) : List Int := encN u.toNat
theorem encN_len (n : Nat) : 1 ≤ (encN n).length ∧ ∀ k, n < 128 ^ k → (encN n).length ≤ max k 1 := by
  induction n using Nat.strongRecOn with
  | _ n ih =>
    rw [encN]
    split
    · exact ⟨by simp, fun k _ => by simp; omega⟩
    · rename_i h
      obtain ⟨h1, h2⟩ := ih (n / 128) (by omega)
      refine ⟨by simp, fun k hk => ?_⟩
      cases k with
      | zero => simp at hk; omega
      | succ k =>
        have : n / 128 < 128 ^ k := by rw [Nat.pow_succ] at hk; omega
        have := h2 k this
        cases k with
        | zero => simp at hk; omega
        | succ k => simp; omega
end Sp
