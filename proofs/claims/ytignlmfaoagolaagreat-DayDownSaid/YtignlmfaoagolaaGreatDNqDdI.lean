/-
  Texts of a proof over the translated program: NqDdI.
-/
import Derived.Test.YtignlmfaoagolaaGreatDNqDdR
set_option linter.unusedVariables false
set_option linter.unusedSimpArgs false
set_option linter.unusedSectionVars false
set_option maxRecDepth 100000
namespace Go.Proofs.YtignlmfaoagolaaGreat
open Go.FM
theorem fget6_ok : told0 287 Dd.fget6 = true := by decide +kernel
theorem fget7_ok : told0 287 Dd.fget7 = true := by decide +kernel
end Go.Proofs.YtignlmfaoagolaaGreat
