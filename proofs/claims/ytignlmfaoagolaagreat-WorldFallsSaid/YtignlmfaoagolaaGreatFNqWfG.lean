/-
  Texts of a proof over the translated program: NqWfG.
-/
import Derived.Test.YtignlmfaoagolaaGreatFNqWfR
set_option linter.unusedVariables false
set_option linter.unusedSimpArgs false
set_option linter.unusedSectionVars false
set_option maxRecDepth 100000
namespace Go.Proofs.YtignlmfaoagolaaGreat
open Go.FM
theorem fget0_ok : told0 287 Wf.fget0 = true := by decide +kernel
theorem fget1_ok : told0 287 Wf.fget1 = true := by decide +kernel
theorem fget2_ok : told0 287 Wf.fget2 = true := by decide +kernel
theorem fget3_ok : told0 287 Wf.fget3 = true := by decide +kernel
theorem fget4_ok : told0 287 Wf.fget4 = true := by decide +kernel
end Go.Proofs.YtignlmfaoagolaaGreat
