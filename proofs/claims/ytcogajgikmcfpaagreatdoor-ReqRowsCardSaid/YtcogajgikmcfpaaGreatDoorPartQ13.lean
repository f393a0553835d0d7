/-
  Texts of a proof over the translated program: proved evaluators and walks, part 13 of 23.
-/
import Derived.Test.YtcogajgikmcfpaaGreatDoorPartQ12
import Derived.Below
import Derived.Great.BuildSlice
import Derived.Laws.CopyRow
import Derived.Laws.IdiomStrings
import Derived.Lib.Bytealg
import Derived.Lib.ItoaNum
import Derived.Lib.Join
import Derived.Lib.ParseIntB
import Derived.MapKept
import Derived.Orders
import Derived.Test.YtcogajgikmcfpaaGreatDoorProg
import Derived.WalkKit
set_option linter.unusedVariables false
set_option linter.unusedSimpArgs false
set_option linter.unusedSectionVars false
set_option linter.unnecessarySimpa false
section
set_option maxRecDepth 100000
namespace Go.Proofs.YtcogajgikmcfpaaGreatDoor
open Go.FM
open Go.RowKit (Below)
def pbH : Hook := fun args h c => match args with
  | [x] => match x with
    | .str n d => if Nat.beq n 2 && Nat.beq d 12598 then .ok (.tup [.agg [.int .i64 2, .int .i64 0, .str 1 97, .cpx .f64 0 0], .int .i64 0]) h c else .x 131
    | _ => .x 132
  | _ => .x 133
noncomputable def extB (f : FuncId) : Option Hook := (Nat.beq f 57).casesOn ((Nat.beq f 67).casesOn ((Nat.beq f 60).casesOn ((Nat.beq f 20).casesOn ((Nat.beq f 99).casesOn (none) (some pbH)) (some (joinH 6))) (some intH)) (some fmtH)) (some idxH)
noncomputable def knownY : Bool := isTrue (callY Tryz.prog 6 10000000 extB 60 5 [] .nil 0)
noncomputable def extC (f : FuncId) : Option Hook := (Nat.beq f 5).casesOn (extB f) (some trueH)
noncomputable def runC (args : List HV) : Bool := isTrue (callY Tryz.prog 6 10000000 extC 60 3 args .nil 0)
end Go.Proofs.YtcogajgikmcfpaaGreatDoor
end

section
set_option maxRecDepth 100000
namespace Go.Proofs.YtcogajgikmcfpaaGreatDoor
open Go.FM
open Go.RowKit (Below)
theorem known5 : knownY = true := by decide +kernel
end Go.Proofs.YtcogajgikmcfpaaGreatDoor
end
