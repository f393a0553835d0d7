/-
  Texts of a proof over the translated program: NqZK27.
-/
import Derived.Test.YtignlmfaoagolaaGreatFNqZA
set_option linter.unusedVariables false
set_option linter.unusedSimpArgs false
set_option linter.unusedSectionVars false
set_option maxRecDepth 100000
namespace Go.Proofs.YtignlmfaoagolaaGreat
open Go.FM
theorem known24 : isTrue (callX Tryz.prog 6 10000000 ext0 60 24 [] .nil 0) = true := by decide +kernel
end Go.Proofs.YtignlmfaoagolaaGreat
