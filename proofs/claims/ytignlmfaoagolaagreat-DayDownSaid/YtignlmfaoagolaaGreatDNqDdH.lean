/-
  Texts of a proof over the translated program: NqDdH.
-/
import Derived.Test.YtignlmfaoagolaaGreatDNqDdR
set_option linter.unusedVariables false
set_option linter.unusedSimpArgs false
set_option linter.unusedSectionVars false
set_option maxRecDepth 100000
namespace Go.Proofs.YtignlmfaoagolaaGreat
open Go.FM
theorem fget4_ok : told0 287 Dd.fget4 = true := by decide +kernel
theorem fget5_ok : told0 287 Dd.fget5 = true := by decide +kernel
end Go.Proofs.YtignlmfaoagolaaGreat
