/-
  Texts of a proof over the translated program: NeSp.
-/
import Derived.Test.YtpohkoijbocpcaaNeBase
set_option linter.unusedVariables false
namespace Sp
open Go Go.AbsM
/-- Whether a room may be on so many blocks. -/
def check (a n k : Int) : Int := if n < 1 ∨ a < 2 ∨ W.imin k 1024 < a ∨ W.imin k 1024 - a < n then 1 else 0
/-- Whether a block is in both. -/
def over (a an b bn : Int) : Bool := decide (1 ≤ an ∧ 1 ≤ bn ∧ a < b + bn ∧ b < a + an)
def i64 (x : Int) : Prop := -9223372036854775808 ≤ x ∧ x < 9223372036854775808
/-- A block of both ones is ahead of i. -/
def both (a an b bn i : Int) : Bool := decide (a < b + bn ∧ b < a + an ∧ a < i ∧ b < i)
def inRoom (b bn a i : Int) : Bool := decide (1 ≤ bn ∧ b ≤ a + i ∧ a + i < b + bn)
def small (a an : Int) : Prop := 2 ≤ a ∧ 1 ≤ an ∧ a + an ≤ 1024
end Sp
