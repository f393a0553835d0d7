/-
  Texts of a proof over the translated program: NvF.
-/
import Derived.WalkKit
import Derived.ScopeJumps
set_option linter.unusedVariables false
set_option linter.unusedSimpArgs false
set_option linter.unusedSectionVars false
namespace Go
def Fwd (P : Program) (c : Code) (Q : Exit → Act → World → Prop) : Nat → Exit → Act → World → Prop
  | 0, .goto _, _, _ => False
  | n + 1, .goto l, a, w => ∃ rest, findLabel c l = some rest ∧ rest.wp P (Fwd P c Q n) a w
  | _, e, a, w => Q e a w
theorem Fwd.other {P : Program} {c : Code} {Q : Exit → Act → World → Prop} {n : Nat} {e : Exit} {a : Act} {w : World} (h : ∀ l, e ≠ .goto l) : Fwd P c Q n e a w ↔ Q e a w := by
  cases e <;> cases n <;> first | exact absurd rfl (h _) | exact Iff.rfl
end Go
