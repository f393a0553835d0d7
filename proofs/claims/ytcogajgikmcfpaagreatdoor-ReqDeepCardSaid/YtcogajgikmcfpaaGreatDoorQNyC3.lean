/-
  Texts of a proof over the translated program: NyC3.
-/
import Derived.Test.YtcogajgikmcfpaaGreatDoorQNyR
set_option linter.unusedVariables false
set_option linter.unusedSimpArgs false
set_option linter.unusedSectionVars false
set_option maxRecDepth 100000
namespace Go.Proofs.YtcogajgikmcfpaaGreatDoor
open Go.FM
open Go.RowKit (Below)
theorem c3_true : runC [.md .u8 12 3, .bool true] = true := by decide +kernel
theorem c3_false : runC [.md .u8 12 3, .bool false] = true := by decide +kernel
theorem c9_true : runC [.md .u8 12 9, .bool true] = true := by decide +kernel
theorem c9_false : runC [.md .u8 12 9, .bool false] = true := by decide +kernel
end Go.Proofs.YtcogajgikmcfpaaGreatDoor
