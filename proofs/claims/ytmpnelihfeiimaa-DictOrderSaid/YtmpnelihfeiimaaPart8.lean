/-
  Texts of a proof over the translated program: proved evaluators and walks, part 8 of 13.
-/
import Derived.Test.YtmpnelihfeiimaaPart7
import Derived.Below
import Derived.Great.BuildSlice
import Derived.Laws.CopyRow
import Derived.Laws.IdiomStrings
import Derived.MapKept
import Derived.Orders
import Derived.WalkKit
set_option linter.unusedVariables false
set_option linter.unusedSimpArgs false
set_option linter.unusedSectionVars false
set_option linter.unnecessarySimpa false
section
namespace Go.FM
noncomputable section
open Go.RowKit (Below)
noncomputable section
abbrev Hook := List HV → HT → Nat → CR
def callX (Pr : Program) (D N : Nat) (ext : FuncId → Option Hook) (n : Nat) : Cl := Nat.rec (motive := fun _ => Cl) (fun _ _ _ _ => .x 51) (fun _ ih f args h c => Option.casesOn (ext f) (enter Pr D N ih (compFn Pr D f) args h c) fun q => q args h c) n
end
variable [Env]
def HookOk (Pr : Program) (D : Nat) (f : FuncId) (q : Hook) : Prop := ∀ args h c v h' c', q args h c = .ok v h' c' → v ≠ .dead → Body Pr f ∧ CallT Pr D f args h c v h' c'
def ExtOk (Pr : Program) (D : Nat) (ext : FuncId → Option Hook) : Prop := ∀ f q, ext f = some q → HookOk Pr D f q
section
variable {Pr : Program} {D : Nat} {g : Gm} {c : Nat} {w w' : World}
theorem Below.ext (h : Below w.heap.size w w') : Ext w w' := ⟨h.os, h.tape, h.output, h.size, h.block⟩
theorem HOk.ext {h : HT} (hi : HOk D g h c w) (hx : Ext w w') : HOk D g h c w' := ⟨hi.deep, hi.le, hi.inv.ext hx⟩
def trueH : Hook := fun args h c => match args with
  | [] => .ok (.bool true) h c
  | _ => .x 70
end
instance : Env := noEnv
end
end Go.FM
end
