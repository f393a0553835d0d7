/-
  Texts of a proof over the translated program: NqDds1.
-/
import Derived.Test.YtignlmfaoagolaaGreatDNqDdR
set_option linter.unusedVariables false
set_option linter.unusedSimpArgs false
set_option linter.unusedSectionVars false
set_option maxRecDepth 100000
namespace Go.Proofs.YtignlmfaoagolaaGreat
open Go.FM
theorem start1_ok : told1 57 Dd.start1 = true := by decide +kernel
end Go.Proofs.YtignlmfaoagolaaGreat
