/-
  Texts of a proof over the translated program: FnGood.
-/
import Derived.Test.YtignlmfaoagolaaGreatLib7
set_option linter.unusedVariables false
set_option linter.unusedSimpArgs false
set_option linter.unusedSectionVars false
namespace Go.FM
noncomputable section
variable [Env]
open Go.AbsM (CallC SInv Gh Sim Fr Kp GoodC trueC Store)
end
end Go.FM
