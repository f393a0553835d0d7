/-
  Texts of a proof over the translated program: NqDdc0.
-/
import Derived.Test.YtignlmfaoagolaaGreatDNqDdR
set_option linter.unusedVariables false
set_option linter.unusedSimpArgs false
set_option linter.unusedSectionVars false
set_option maxRecDepth 100000
namespace Go.Proofs.YtignlmfaoagolaaGreat
open Go.FM
theorem d0_true : runD [.md .u8 8 0, .bool true] = true := by decide +kernel
theorem d0_false : runD [.md .u8 8 0, .bool false] = true := by decide +kernel
end Go.Proofs.YtignlmfaoagolaaGreat
