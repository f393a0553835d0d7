/-
  Texts of a proof over the translated program: proved evaluators and walks, part 8 of 13.
-/
import Derived.Test.YtkogknhnlilllaaGreatPart7
import Derived.ProofKit
import Derived.Test.YtkogknhnlilllaaGreatRows
import Derived.WalkKit
set_option linter.unusedVariables false
set_option linter.unusedSimpArgs false
set_option linter.unusedSectionVars false
set_option linter.unnecessarySimpa false
section
namespace Go.Proofs.YtkogknhnlilllaaGreat.superAny
open Go.ChangeShapes Go.WideShapes Go.ChangeAt Go.RowKit
set_option maxRecDepth 100000
set_option maxHeartbeats 40000000
theorem and_mk {a b : Bool} (h : a = true) (k : b = true) : (a && b) = true := by rw [h, k]; rfl
theorem hnamed : Tryz.pinned.checked.prog.funcNamed Rows.superAnyRow.func = some 3 := by kernel_rfl
theorem hclosed : joinedFacts Tryz.pinned.checked.prog 3 Tryz.f3 Rows.superAnySpec Rows.superAnyRow = true := by
  unfold joinedFacts
  repeat' (with_reducible refine and_mk ?_ ?_)
  all_goals (as_aux_lemma => kernel_rfl)
end Go.Proofs.YtkogknhnlilllaaGreat.superAny
end
