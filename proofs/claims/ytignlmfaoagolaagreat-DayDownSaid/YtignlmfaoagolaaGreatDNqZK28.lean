/-
  Texts of a proof over the translated program: NqZK28.
-/
import Derived.Test.YtignlmfaoagolaaGreatDNqZA
set_option linter.unusedVariables false
set_option linter.unusedSimpArgs false
set_option linter.unusedSectionVars false
set_option maxRecDepth 100000
namespace Go.Proofs.YtignlmfaoagolaaGreat
open Go.FM
theorem known33 : isTrue (callX Tryz.prog 6 10000000 ext0 60 33 [] .nil 0) = true := by decide +kernel
end Go.Proofs.YtignlmfaoagolaaGreat
