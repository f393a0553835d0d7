/-
  Texts of a proof over the translated program: NqXR.
-/
import Derived.Test.YtignlmfaoagolaaGreatNqXA
set_option maxRecDepth 100000
namespace Go.Proofs.YtignlmfaoagolaaGreat
open Go.FM
noncomputable def extT (n : Nat) (f : FuncId) : Option Hook := (Nat.beq f n).casesOn (ext0 f) (some trueH)
/-- A law's run; n: its known(). -/
noncomputable def runs (n f : Nat) (args : List HV) : Bool := isTrue (callX Tryz.prog 6 10000000 (extT n) 60 f args .nil 0)
end Go.Proofs.YtignlmfaoagolaaGreat
