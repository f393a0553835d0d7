/-
  Texts of a proof over the translated program: NqZu2.
-/
import Derived.Test.YtignlmfaoagolaaGreatWNqZR
set_option linter.unusedVariables false
set_option linter.unusedSimpArgs false
set_option linter.unusedSectionVars false
set_option maxRecDepth 100000
namespace Go.Proofs.YtignlmfaoagolaaGreat
open Go.FM
theorem u2_true : runs 33 8 [.md .u8 8 2, .bool true] = true := by decide +kernel
theorem u2_false : runs 33 8 [.md .u8 8 2, .bool false] = true := by decide +kernel
end Go.Proofs.YtignlmfaoagolaaGreat
