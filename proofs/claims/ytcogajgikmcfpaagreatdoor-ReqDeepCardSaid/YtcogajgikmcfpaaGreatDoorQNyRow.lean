/-
  Texts of a proof over the translated program: NyRow.
-/
import Derived.Test.YtcogajgikmcfpaaGreatDoorRows
import Derived.WalkKit
import Derived.ProofKit
set_option linter.unusedVariables false
set_option linter.unusedSimpArgs false
set_option linter.unusedSectionVars false
namespace Go.Proofs.YtcogajgikmcfpaaGreatDoor.reqDeep
open Go.ChangeShapes Go.WideShapes Go.ChangeAt Go.RowKit
set_option maxRecDepth 100000
set_option maxHeartbeats 40000000
theorem and_mk {a b : Bool} (h : a = true) (k : b = true) : (a && b) = true := by rw [h, k]; rfl
theorem hnamed : Tryz.pinned.checked.prog.funcNamed Rows.reqDeepRow.func = some 3 := by kernel_rfl
theorem hclosed : joinedFacts Tryz.pinned.checked.prog 3 Tryz.f3 Rows.reqDeepSpec Rows.reqDeepRow = true := by
  unfold joinedFacts
  repeat' (with_reducible refine and_mk ?_ ?_)
  all_goals (as_aux_lemma => kernel_rfl)
end Go.Proofs.YtcogajgikmcfpaaGreatDoor.reqDeep
