/-
  Texts of a proof over the translated program: NyC5.
-/
import Derived.Test.YtcogajgikmcfpaaGreatDoorQNyR
set_option linter.unusedVariables false
set_option linter.unusedSimpArgs false
set_option linter.unusedSectionVars false
set_option maxRecDepth 100000
namespace Go.Proofs.YtcogajgikmcfpaaGreatDoor
open Go.FM
open Go.RowKit (Below)
theorem c5_true : runC [.md .u8 12 5, .bool true] = true := by decide +kernel
theorem c5_false : runC [.md .u8 12 5, .bool false] = true := by decide +kernel
theorem c11_true : runC [.md .u8 12 11, .bool true] = true := by decide +kernel
theorem c11_false : runC [.md .u8 12 11, .bool false] = true := by decide +kernel
end Go.Proofs.YtcogajgikmcfpaaGreatDoor
