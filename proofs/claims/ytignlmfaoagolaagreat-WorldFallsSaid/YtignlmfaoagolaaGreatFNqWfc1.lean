/-
  Texts of a proof over the translated program: NqWfc1.
-/
import Derived.Test.YtignlmfaoagolaaGreatFNqWfR
set_option linter.unusedVariables false
set_option linter.unusedSimpArgs false
set_option linter.unusedSectionVars false
set_option maxRecDepth 100000
namespace Go.Proofs.YtignlmfaoagolaaGreat
open Go.FM
theorem w0_1_0 : runW [.md .u8 8 1, .md .u8 1 0, .md .u8 4 0] = true := by decide +kernel
theorem w1_1_0 : runW [.md .u8 8 1, .md .u8 1 0, .md .u8 4 1] = true := by decide +kernel
theorem w2_1_0 : runW [.md .u8 8 1, .md .u8 1 0, .md .u8 4 2] = true := by decide +kernel
theorem w3_1_0 : runW [.md .u8 8 1, .md .u8 1 0, .md .u8 4 3] = true := by decide +kernel
end Go.Proofs.YtignlmfaoagolaaGreat
