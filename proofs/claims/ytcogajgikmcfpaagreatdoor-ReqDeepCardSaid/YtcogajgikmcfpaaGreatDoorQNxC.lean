/-
  Texts of a proof over the translated program: NxC.
-/
import Derived.Test.YtcogajgikmcfpaaGreatDoorQNxB
set_option linter.unusedVariables false
set_option linter.unusedSimpArgs false
set_option linter.unusedSectionVars false
namespace Go.Proofs.YtcogajgikmcfpaaGreatDoor
open Go.RowKit
set_option maxRecDepth 100000
def intO (v : Value) : Int := match v with | .int _ q => q | _ => 0
def dig (c : UInt8) : Bool := decide (48 ≤ c.toNat) && decide (c.toNat ≤ 57)
def bare (l : List UInt8) : List UInt8 := if l.head? = some 45 then l.tail else l
def decB (l : List UInt8) : Bool := match bare l with | [] => false | c :: r => !(c == 48 && !(l == [48])) && (c :: r).all dig
theorem bs_get (l : List UInt8) (i : Nat) (h : i < (bs l).size) : (bs l)[i]'h = l[i]'(by rw [← bs_size l]; exact h) := by
  rfl
end Go.Proofs.YtcogajgikmcfpaaGreatDoor
