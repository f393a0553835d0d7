/-
  Texts of a proof over the translated program: NqXBase.
-/
import Derived.Test.YtignlmfaoagolaaGreatProg
import Derived.Test.YtignlmfaoagolaaGreatLib7
set_option linter.unusedVariables false
set_option linter.unusedSimpArgs false
set_option linter.unusedSectionVars false
namespace Go.Proofs.YtignlmfaoagolaaGreat
open Go.AbsM
theorem wide : Tryz.prog.follows .mixedOrders = true := by kernel_rfl
end Go.Proofs.YtignlmfaoagolaaGreat
