/-
  Texts of a proof over the translated program: proved evaluators and walks, part 5 of 19.
-/
import Derived.Test.YtmpnelihfeiimaaPartP4
import Derived.Below
import Derived.Great.BuildSlice
import Derived.Laws.IdiomStrings
import Derived.Orders
import Derived.WalkKit
set_option linter.unusedVariables false
set_option linter.unusedSimpArgs false
set_option linter.unusedSectionVars false
set_option linter.unnecessarySimpa false
section
namespace Go.AbsM
open Go.RowKit
section
variable {P : Program} {w : World}
def allGh (w : World) : Gh := { M := fun b _ => b < w.heap.size, B := fun _ _ => 0, C := fun _ _ => 0 }
def Arg (P : Program) (w : World) (x : AV) (v : Value) : Prop := Rep P w (allGh w).M x v
theorem law_calls {f : FuncId} {args : List AV} {S' : List Store} {v0 : Value} {vs : List Value} (hc : CallC P f args [] S' (.x v0)) (hl : vs.length = args.length) (hargs : ∀ (i : Nat) (x : AV) (v : Value), args[i]? = some x → vs[i]? = some v → Arg P w x v) :
    Calls P f vs.toArray w fun e w' => e = .returned v0 ∧ Below w.heap.size w w' := by
  have hi0 : SInv P w (allGh w) (fun b => w.heap.size ≤ b) [] := ⟨(fun i k cs h => by cases h), (fun i k e xs h => by cases h), (fun i k e xs h => by cases h), (fun i k o i' k' o' h => by cases h), fun b o h => h⟩
  refine (hc _ w (allGh w) vs hi0 (fun b h => h) hl fun i x v hx hv => (hargs i x v hx hv).hrep_any rfl).mono fun e w' ⟨v, g', he, hF, hI, _, hR⟩ => ?_
  obtain ⟨b, hR⟩ := hR
  have : v = v0 := by
    have h : Rep P w' g'.M (.x v0) v := hR
    cases h; rfl
  subst this
  exact ⟨he, hF.os, hF.tape, hF.output, hF.size, fun k hk => hF.heap k (by omega)⟩
theorem Arg.int {k : IntKind} {n : Int} : Arg P w (.x (.int k n)) (.int k n) := .x rfl
theorem Arg.bool {b : Bool} : Arg P w (.x (.bool b)) (.bool b) := .x rfl
theorem Arg.nils : Arg P w .nils (.slice none 0 0) := Rep.nils
theorem Arg.str {l : List UInt8} : Arg P w (.str l) (.string ⟨l.toArray⟩) := Rep.str
end
end Go.AbsM
end
