/-
  Texts of a proof over the translated program: NqZu6.
-/
import Derived.Test.YtignlmfaoagolaaGreatWNqZR
set_option linter.unusedVariables false
set_option linter.unusedSimpArgs false
set_option linter.unusedSectionVars false
set_option maxRecDepth 100000
namespace Go.Proofs.YtignlmfaoagolaaGreat
open Go.FM
theorem u6_true : runs 33 8 [.md .u8 8 6, .bool true] = true := by decide +kernel
theorem u6_false : runs 33 8 [.md .u8 8 6, .bool false] = true := by decide +kernel
end Go.Proofs.YtignlmfaoagolaaGreat
