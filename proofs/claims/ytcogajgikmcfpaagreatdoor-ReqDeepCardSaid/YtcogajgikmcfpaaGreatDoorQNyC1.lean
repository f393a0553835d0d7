/-
  Texts of a proof over the translated program: NyC1.
-/
import Derived.Test.YtcogajgikmcfpaaGreatDoorQNyR
set_option linter.unusedVariables false
set_option linter.unusedSimpArgs false
set_option linter.unusedSectionVars false
set_option maxRecDepth 100000
namespace Go.Proofs.YtcogajgikmcfpaaGreatDoor
open Go.FM
open Go.RowKit (Below)
theorem c1_true : runC [.md .u8 12 1, .bool true] = true := by decide +kernel
theorem c1_false : runC [.md .u8 12 1, .bool false] = true := by decide +kernel
theorem c7_true : runC [.md .u8 12 7, .bool true] = true := by decide +kernel
theorem c7_false : runC [.md .u8 12 7, .bool false] = true := by decide +kernel
end Go.Proofs.YtcogajgikmcfpaaGreatDoor
