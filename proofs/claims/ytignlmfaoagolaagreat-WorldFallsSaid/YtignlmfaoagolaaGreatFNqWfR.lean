/-
  Texts of a proof over the translated program: NqWfR.
-/
import Derived.Test.YtignlmfaoagolaaGreatFNqZA
import Derived.Test.YtignlmfaoagolaaGreatFNqWfT
import Derived.Test.YtignlmfaoagolaaGreatFFnTold2
set_option linter.unusedVariables false
set_option linter.unusedSimpArgs false
set_option linter.unusedSectionVars false
set_option maxRecDepth 100000
namespace Go.Proofs.YtignlmfaoagolaaGreat
open Go.FM
noncomputable def extW (f : FuncId) : Option Hook := (Nat.beq f 24).casesOn ((Nat.beq f 85).casesOn ((Nat.beq f 18).casesOn ((Nat.beq f 287).casesOn (ext0 f) (some (toldsH 6 Wf.fgetL))) (some (toldsH 6 Wf.stL))) (some (toldsH 6 Wf.finL))) (some trueH)
noncomputable def told0 (f : FuncId) (t : FM.Told) : Bool := t.ok 6 (callX Tryz.prog 6 10000000 ext0 60 f t.a (heapL 6 t.h) t.h.length)
noncomputable def runW (args : List HV) : Bool := isTrue (callY Tryz.prog 6 10000000 extW 60 5 args .nil 0)
end Go.Proofs.YtignlmfaoagolaaGreat
