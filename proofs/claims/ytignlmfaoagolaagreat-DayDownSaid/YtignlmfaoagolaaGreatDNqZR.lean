/-
  Texts of a proof over the translated program: NqZR.
-/
import Derived.Test.YtignlmfaoagolaaGreatDNqZA
set_option linter.unusedVariables false
set_option linter.unusedSimpArgs false
set_option linter.unusedSectionVars false
set_option maxRecDepth 100000
namespace Go.Proofs.YtignlmfaoagolaaGreat
open Go.FM
noncomputable def extT (n : Nat) (f : FuncId) : Option Hook := (Nat.beq f n).casesOn (ext0 f) (some trueH)
noncomputable def runs (n f : Nat) (args : List HV) : Bool := isTrue (callX Tryz.prog 6 10000000 (extT n) 60 f args .nil 0)
def mk (p : Nat × Nat) : List HV := [.md .u8 20 p.1, .md .u8 20 p.2]
end Go.Proofs.YtignlmfaoagolaaGreat
