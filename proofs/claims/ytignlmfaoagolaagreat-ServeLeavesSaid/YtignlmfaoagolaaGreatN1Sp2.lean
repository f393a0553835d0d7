/-
  Texts of a proof over the translated program: N1Sp2.
-/
import Derived.Test.YtignlmfaoagolaaGreatN1Sp
set_option linter.unusedVariables false
set_option linter.unusedSimpArgs false
set_option linter.unusedSectionVars false
namespace Sp
open Go Go.AbsM
def getF (b : List Int) (a : Nat) : Nat → Int → Int → Int × Int × Int
  | 0, n, u => (0, 0, 2)
  | k + 1, n, u =>
    if (a : Int) + n = b.length then (0, 0, 5) else
    if (n = 9 ∧ 1 < b.getD (a + n.toNat) 0) ∨ (0 < n ∧ b.getD (a + n.toNat) 0 = 0) then (0, 0, 2) else
    if 128 ≤ b.getD (a + n.toNat) 0 then getF b a k (n + 1) (u + (b.getD (a + n.toNat) 0 % 128) * 128 ^ n.toNat)
    else (u + (b.getD (a + n.toNat) 0 % 128) * 128 ^ n.toNat, n + 1, 0)
def get (b : List Int) (at_ : Int) : Int × Int × Int := if at_ < 0 ∨ (b.length : Int) < at_ then (0, 0, 1) else getF b at_.toNat 10 0 0
def bytes (b : List Int) : Prop := ∀ x, x ∈ b → 0 ≤ x ∧ x < 256
theorem bytes_get {b : List Int} (h : bytes b) (i : Nat) : 0 ≤ b.getD i 0 ∧ b.getD i 0 < 256 := by
  rw [List.getD_eq_getElem?_getD]
  cases hi : b[i]? with
  | none => simp
  | some x => exact h x (List.mem_of_getElem? hi)
end Sp
namespace Sp
open Go Go.AbsM
section
variable {b : List Int} {a k : Nat} {n u : Int}
theorem getF_short (h : (a : Int) + n = b.length) : getF b a (k + 1) n u = (0, 0, 5) := by simp only [getF, if_pos h]
theorem getF_more (h : (a : Int) + n ≠ b.length) (h2 : ¬ ((n = 9 ∧ 1 < b.getD (a + n.toNat) 0) ∨ (0 < n ∧ b.getD (a + n.toNat) 0 = 0))) (h3 : 128 ≤ b.getD (a + n.toNat) 0) :
    getF b a (k + 1) n u = getF b a k (n + 1) (u + (b.getD (a + n.toNat) 0 % 128) * 128 ^ n.toNat) := by simp only [getF, if_neg h, if_neg h2, if_pos h3]
theorem getF_done (h : (a : Int) + n ≠ b.length) (h2 : ¬ ((n = 9 ∧ 1 < b.getD (a + n.toNat) 0) ∨ (0 < n ∧ b.getD (a + n.toNat) 0 = 0))) (h3 : b.getD (a + n.toNat) 0 < 128) :
    getF b a (k + 1) n u = (u + (b.getD (a + n.toNat) 0 % 128) * 128 ^ n.toNat, n + 1, 0) := by simp only [getF, if_neg h, if_neg h2, if_neg (show ¬ 128 ≤ b.getD (a + n.toNat) 0 by omega)]
end
end Sp
namespace Sp
theorem get_in {b : List Int} {a : Int} (h0 : 0 ≤ a) (h : a ≤ b.length) : get b a = getF b a.toNat 10 0 0 := if_neg (by omega)
end Sp
