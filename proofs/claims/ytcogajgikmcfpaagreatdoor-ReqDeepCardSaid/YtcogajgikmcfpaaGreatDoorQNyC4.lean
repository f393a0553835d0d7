/-
  Texts of a proof over the translated program: NyC4.
-/
import Derived.Test.YtcogajgikmcfpaaGreatDoorQNyR
set_option linter.unusedVariables false
set_option linter.unusedSimpArgs false
set_option linter.unusedSectionVars false
set_option maxRecDepth 100000
namespace Go.Proofs.YtcogajgikmcfpaaGreatDoor
open Go.FM
open Go.RowKit (Below)
theorem c4_true : runC [.md .u8 12 4, .bool true] = true := by decide +kernel
theorem c4_false : runC [.md .u8 12 4, .bool false] = true := by decide +kernel
theorem c10_true : runC [.md .u8 12 10, .bool true] = true := by decide +kernel
theorem c10_false : runC [.md .u8 12 10, .bool false] = true := by decide +kernel
end Go.Proofs.YtcogajgikmcfpaaGreatDoor
