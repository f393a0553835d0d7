/-
  Texts of a proof over the translated program: NqDdc4.
-/
import Derived.Test.YtignlmfaoagolaaGreatDNqDdR
set_option linter.unusedVariables false
set_option linter.unusedSimpArgs false
set_option linter.unusedSectionVars false
set_option maxRecDepth 100000
namespace Go.Proofs.YtignlmfaoagolaaGreat
open Go.FM
theorem d4_true : runD [.md .u8 8 4, .bool true] = true := by decide +kernel
theorem d4_false : runD [.md .u8 8 4, .bool false] = true := by decide +kernel
end Go.Proofs.YtignlmfaoagolaaGreat
