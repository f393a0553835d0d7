/-
  Texts of a proof over the translated program: NyK.
-/
import Derived.Test.YtcogajgikmcfpaaGreatDoorQNyR
set_option linter.unusedVariables false
set_option linter.unusedSimpArgs false
set_option linter.unusedSectionVars false
set_option maxRecDepth 100000
namespace Go.Proofs.YtcogajgikmcfpaaGreatDoor
open Go.FM
open Go.RowKit (Below)
theorem known5 : knownY = true := by decide +kernel
end Go.Proofs.YtcogajgikmcfpaaGreatDoor
