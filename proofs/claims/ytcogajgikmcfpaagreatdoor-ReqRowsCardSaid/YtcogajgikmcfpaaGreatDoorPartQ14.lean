/-
  Texts of a proof over the translated program: proved evaluators and walks, part 14 of 23.
-/
import Derived.Test.YtcogajgikmcfpaaGreatDoorPartQ13
import Derived.ProofKit
import Derived.Test.YtcogajgikmcfpaaGreatDoorRows
import Derived.WalkKit
set_option linter.unusedVariables false
set_option linter.unusedSimpArgs false
set_option linter.unusedSectionVars false
set_option linter.unnecessarySimpa false
section
namespace Go.Proofs.YtcogajgikmcfpaaGreatDoor.reqRows
open Go.ChangeShapes Go.WideShapes Go.ChangeAt Go.RowKit
set_option maxRecDepth 100000
set_option maxHeartbeats 40000000
theorem and_mk {a b : Bool} (h : a = true) (k : b = true) : (a && b) = true := by rw [h, k]; rfl
theorem hnamed : Tryz.pinned.checked.prog.funcNamed Rows.reqRowsRow.func = some 4 := by kernel_rfl
theorem hclosed : joinedFacts Tryz.pinned.checked.prog 4 Tryz.f4 Rows.reqRowsSpec Rows.reqRowsRow = true := by
  unfold joinedFacts
  repeat' (with_reducible refine and_mk ?_ ?_)
  all_goals (as_aux_lemma => kernel_rfl)
end Go.Proofs.YtcogajgikmcfpaaGreatDoor.reqRows
end
