/-
  Texts of a proof over the translated program: NqDdc7.
-/
import Derived.Test.YtignlmfaoagolaaGreatDNqDdR
set_option linter.unusedVariables false
set_option linter.unusedSimpArgs false
set_option linter.unusedSectionVars false
set_option maxRecDepth 100000
namespace Go.Proofs.YtignlmfaoagolaaGreat
open Go.FM
theorem d7_true : runD [.md .u8 8 7, .bool true] = true := by decide +kernel
theorem d7_false : runD [.md .u8 8 7, .bool false] = true := by decide +kernel
end Go.Proofs.YtignlmfaoagolaaGreat
