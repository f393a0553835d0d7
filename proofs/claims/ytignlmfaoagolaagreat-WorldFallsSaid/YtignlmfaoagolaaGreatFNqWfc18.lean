/-
  Texts of a proof over the translated program: NqWfc18.
-/
import Derived.Test.YtignlmfaoagolaaGreatFNqWfR
set_option linter.unusedVariables false
set_option linter.unusedSimpArgs false
set_option linter.unusedSectionVars false
set_option maxRecDepth 100000
namespace Go.Proofs.YtignlmfaoagolaaGreat
open Go.FM
theorem w3_4_2 : runW [.md .u8 8 4, .md .u8 4 2, .md .u8 4 3] = true := by decide +kernel
theorem w3_4_3 : runW [.md .u8 8 4, .md .u8 4 3, .md .u8 4 3] = true := by decide +kernel
end Go.Proofs.YtignlmfaoagolaaGreat
