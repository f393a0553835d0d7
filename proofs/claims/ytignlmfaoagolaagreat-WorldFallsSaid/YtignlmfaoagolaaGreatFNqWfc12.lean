/-
  Texts of a proof over the translated program: NqWfc12.
-/
import Derived.Test.YtignlmfaoagolaaGreatFNqWfR
set_option linter.unusedVariables false
set_option linter.unusedSimpArgs false
set_option linter.unusedSectionVars false
set_option maxRecDepth 100000
namespace Go.Proofs.YtignlmfaoagolaaGreat
open Go.FM
theorem w1_4_2 : runW [.md .u8 8 4, .md .u8 4 2, .md .u8 4 1] = true := by decide +kernel
theorem w1_4_3 : runW [.md .u8 8 4, .md .u8 4 3, .md .u8 4 1] = true := by decide +kernel
theorem w2_4_0 : runW [.md .u8 8 4, .md .u8 4 0, .md .u8 4 2] = true := by decide +kernel
theorem w2_4_1 : runW [.md .u8 8 4, .md .u8 4 1, .md .u8 4 2] = true := by decide +kernel
end Go.Proofs.YtignlmfaoagolaaGreat
