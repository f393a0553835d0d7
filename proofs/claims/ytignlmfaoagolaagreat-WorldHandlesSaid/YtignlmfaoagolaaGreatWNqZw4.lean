/-
  Texts of a proof over the translated program: NqZw4.
-/
import Derived.Test.YtignlmfaoagolaaGreatWNqZR
set_option linter.unusedVariables false
set_option linter.unusedSimpArgs false
set_option linter.unusedSectionVars false
set_option maxRecDepth 100000
namespace Go.Proofs.YtignlmfaoagolaaGreat
open Go.FM
theorem w4 : runs 24 6 [.md .u8 5 4] = true := by decide +kernel
end Go.Proofs.YtignlmfaoagolaaGreat
