/-
  Texts of a proof over the translated program: NqWfS.
-/
import Derived.Test.YtignlmfaoagolaaGreatFNqWfR
set_option linter.unusedVariables false
set_option linter.unusedSimpArgs false
set_option linter.unusedSectionVars false
set_option maxRecDepth 100000
namespace Go.Proofs.YtignlmfaoagolaaGreat
open Go.FM
theorem st0_ok : told0 18 Wf.st0 = true := by decide +kernel
theorem st1_ok : told0 18 Wf.st1 = true := by decide +kernel
theorem st2_ok : told0 18 Wf.st2 = true := by decide +kernel
theorem st3_ok : told0 18 Wf.st3 = true := by decide +kernel
end Go.Proofs.YtignlmfaoagolaaGreat
