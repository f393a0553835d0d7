/-
  Texts of a proof over the translated program: NqDdf2.
-/
import Derived.Test.YtignlmfaoagolaaGreatDNqDdR
set_option linter.unusedVariables false
set_option linter.unusedSimpArgs false
set_option linter.unusedSectionVars false
set_option maxRecDepth 100000
namespace Go.Proofs.YtignlmfaoagolaaGreat
open Go.FM
theorem fin2_ok : told0 85 Dd.fin2 = true := by decide +kernel
end Go.Proofs.YtignlmfaoagolaaGreat
