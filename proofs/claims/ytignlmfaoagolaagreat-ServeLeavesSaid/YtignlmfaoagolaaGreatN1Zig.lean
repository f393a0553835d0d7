/-
  Texts of a proof over the translated program: N1Zig.
-/
import Derived.Test.YtignlmfaoagolaaGreatLib7
set_option linter.unusedVariables false
set_option linter.unusedSimpArgs false
set_option linter.unusedSectionVars false
namespace Sp
open Go Go.AbsM
def zig (a : Int) : Int := if a < 0 then -2 * a - 1 else 2 * a
def zag (u : Int) : Int := if u % 2 = 1 then -(u / 2) - 1 else u / 2
theorem and_one (u : Int) (h1 : 0 ≤ u) (h2 : u < 18446744073709551616) : ((BitVec.ofInt 64 u &&& BitVec.ofInt 64 1).toNat : Int) = u % 2 := by
  have : BitVec.ofInt 64 1 = 1#64 := rfl
  rw [this, BitVec.toNat_and, BitVec.toNat_ofInt]
  have : (1#64).toNat = 1 := rfl
  rw [this, Nat.and_one_is_mod]
  omega
end Sp
