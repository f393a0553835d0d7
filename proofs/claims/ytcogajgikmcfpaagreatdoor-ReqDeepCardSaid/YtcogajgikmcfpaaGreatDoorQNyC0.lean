/-
  Texts of a proof over the translated program: NyC0.
-/
import Derived.Test.YtcogajgikmcfpaaGreatDoorQNyR
set_option linter.unusedVariables false
set_option linter.unusedSimpArgs false
set_option linter.unusedSectionVars false
set_option maxRecDepth 100000
namespace Go.Proofs.YtcogajgikmcfpaaGreatDoor
open Go.FM
open Go.RowKit (Below)
theorem c0_true : runC [.md .u8 12 0, .bool true] = true := by decide +kernel
theorem c0_false : runC [.md .u8 12 0, .bool false] = true := by decide +kernel
theorem c6_true : runC [.md .u8 12 6, .bool true] = true := by decide +kernel
theorem c6_false : runC [.md .u8 12 6, .bool false] = true := by decide +kernel
end Go.Proofs.YtcogajgikmcfpaaGreatDoor
