/-
  Texts of a proof over the translated program: NyC2.
-/
import Derived.Test.YtcogajgikmcfpaaGreatDoorQNyR
set_option linter.unusedVariables false
set_option linter.unusedSimpArgs false
set_option linter.unusedSectionVars false
set_option maxRecDepth 100000
namespace Go.Proofs.YtcogajgikmcfpaaGreatDoor
open Go.FM
open Go.RowKit (Below)
theorem c2_true : runC [.md .u8 12 2, .bool true] = true := by decide +kernel
theorem c2_false : runC [.md .u8 12 2, .bool false] = true := by decide +kernel
theorem c8_true : runC [.md .u8 12 8, .bool true] = true := by decide +kernel
theorem c8_false : runC [.md .u8 12 8, .bool false] = true := by decide +kernel
end Go.Proofs.YtcogajgikmcfpaaGreatDoor
