/-
  Texts of a proof over the translated program: NqZm9.
-/
import Derived.Test.YtignlmfaoagolaaGreatXNqZR
set_option linter.unusedVariables false
set_option linter.unusedSimpArgs false
set_option linter.unusedSectionVars false
set_option maxRecDepth 100000
namespace Go.Proofs.YtignlmfaoagolaaGreat
open Go.FM
theorem m9_0 : (((List.range' 0 5).map fun j => ((9 : Nat), j)).map mk).all (runs 9 4) = true := by decide +kernel
theorem m9_1 : (((List.range' 5 4).map fun j => ((9 : Nat), j)).map mk).all (runs 9 4) = true := by decide +kernel
theorem m9_2 : (((List.range' 9 3).map fun j => ((9 : Nat), j)).map mk).all (runs 9 4) = true := by decide +kernel
theorem m9_3 : (((List.range' 12 3).map fun j => ((9 : Nat), j)).map mk).all (runs 9 4) = true := by decide +kernel
theorem m9_4 : (((List.range' 15 3).map fun j => ((9 : Nat), j)).map mk).all (runs 9 4) = true := by decide +kernel
theorem m9_5 : (((List.range' 18 2).map fun j => ((9 : Nat), j)).map mk).all (runs 9 4) = true := by decide +kernel
end Go.Proofs.YtignlmfaoagolaaGreat
