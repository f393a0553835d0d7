/-
  Texts of a proof over the translated program: proved evaluators and walks, part 9 of 13.
-/
import Derived.Test.YtmpnelihfeiimaaPart8
import Derived.Below
import Derived.Great.BuildSlice
import Derived.Laws.CopyRow
import Derived.Laws.IdiomStrings
import Derived.MapKept
import Derived.Orders
import Derived.Test.YtmpnelihfeiimaaProg
import Derived.WalkKit
set_option linter.unusedVariables false
set_option linter.unusedSimpArgs false
set_option linter.unusedSectionVars false
set_option linter.unnecessarySimpa false
section
set_option maxRecDepth 100000
namespace Go.Proofs
open Go.FM
theorem Try.mixedS : Try.prog.follows .mixedOrders = true := by decide +kernel
theorem Try.known6c : isTrue (callN Try.prog 6 10000000 60 6 [] .nil 0) = true := by decide +kernel
theorem Try.known6 (w : World) : Calls Try.prog 6 #[] w fun e w' => e = .returned (.bool true) ∧ Go.RowKit.Below w.heap.size w w' :=
  (closed_ok Try.mixedS Try.known6c w).2.mono fun e w' ⟨he, k1, k2, k3, k4, k5⟩ => ⟨he, k3, k4, k5, k2, k1⟩
end Go.Proofs
end
