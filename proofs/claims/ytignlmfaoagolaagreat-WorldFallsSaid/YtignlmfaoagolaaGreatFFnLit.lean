/-
  Texts of a proof over the translated program: FnLit.
-/
import Derived.Test.YtignlmfaoagolaaGreatFFnTold
set_option linter.unusedVariables false
set_option linter.unusedSimpArgs false
set_option linter.unusedSectionVars false
namespace Go.FM.Lit
abbrev i (n : Nat) : HV := .int .i64 (.ofNat n)
abbrev j (n : Nat) : HV := .int .i64 (.negSucc n)
abbrev s (n d : Nat) : HV := .str n d
abbrev p (k o : Nat) : HV := .ptr k o
abbrev l (k o n e : Nat) (c : Bool) : HV := .slc k o n e c
abbrev T : HV := .bool true
abbrev U : HV := .bool false
abbrev Z : HV := .nils
abbrev c (l : List HV) : HB := .cells l
abbrev b (n d : Nat) : HB := .byt n d
abbrev m (l : List ME) (n : Nat) : HB := .map l n
end Go.FM.Lit
