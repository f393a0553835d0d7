/-
  Texts of a proof over the translated program: NqWfF.
-/
import Derived.Test.YtignlmfaoagolaaGreatFNqWfR
set_option linter.unusedVariables false
set_option linter.unusedSimpArgs false
set_option linter.unusedSectionVars false
set_option maxRecDepth 100000
namespace Go.Proofs.YtignlmfaoagolaaGreat
open Go.FM
theorem fin0_ok : told0 85 Wf.fin0 = true := by decide +kernel
theorem fin1_ok : told0 85 Wf.fin1 = true := by decide +kernel
theorem fin2_ok : told0 85 Wf.fin2 = true := by decide +kernel
end Go.Proofs.YtignlmfaoagolaaGreat
