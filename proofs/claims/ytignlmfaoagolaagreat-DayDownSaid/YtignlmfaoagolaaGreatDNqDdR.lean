/-
  Texts of a proof over the translated program: NqDdR.
-/
import Derived.Test.YtignlmfaoagolaaGreatDNqZA
import Derived.Test.YtignlmfaoagolaaGreatDNqDdT
set_option linter.unusedVariables false
set_option linter.unusedSimpArgs false
set_option linter.unusedSectionVars false
set_option maxRecDepth 100000
namespace Go.Proofs.YtignlmfaoagolaaGreat
open Go.FM
noncomputable def extF (f : FuncId) : Option Hook := (Nat.beq f 287).casesOn (ext0 f) (some (toldsH 6 Dd.fgetL))
noncomputable def extD (f : FuncId) : Option Hook := (Nat.beq f 33).casesOn ((Nat.beq f 85).casesOn ((Nat.beq f 57).casesOn (ext0 f) (some (toldsH 6 Dd.startL))) (some (toldsH 6 Dd.finL))) (some trueH)
noncomputable def told0 (f : FuncId) (t : FM.Told) : Bool := t.ok 6 (callX Tryz.prog 6 10000000 ext0 60 f t.a (heapL 6 t.h) t.h.length)
noncomputable def told1 (f : FuncId) (t : FM.Told) : Bool := t.ok 6 (callX Tryz.prog 6 10000000 extF 60 f t.a (heapL 6 t.h) t.h.length)
noncomputable def runD (args : List HV) : Bool := isTrue (callX Tryz.prog 6 10000000 extD 60 7 args .nil 0)
end Go.Proofs.YtignlmfaoagolaaGreat
