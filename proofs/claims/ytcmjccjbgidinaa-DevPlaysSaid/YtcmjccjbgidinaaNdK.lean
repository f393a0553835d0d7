/-
  Texts of a proof over the translated program: NdK.
-/
import Derived.Test.YtcmjccjbgidinaaLib5
import Derived.Test.YtcmjccjbgidinaaProg
set_option linter.unusedVariables false
set_option maxRecDepth 100000
namespace Go.Proofs
open Go.FM
theorem Try.mixed12 : Try.prog.follows .mixedOrders = true := by decide +kernel
theorem Try.known12 : isTrue (callN Try.prog 6 10000000 60 10 [] .nil 0) = true := by decide +kernel
theorem Try.known10 (w : World) : Calls Try.prog 10 #[] w fun e w' => e = .returned (.bool true) ∧ Go.RowKit.Below w.heap.size w w' :=
  (closed_ok Try.mixed12 Try.known12 w).2.mono fun e w' ⟨he, k1, k2, k3, k4, k5⟩ => ⟨he, k3, k4, k5, k2, k1⟩
end Go.Proofs
