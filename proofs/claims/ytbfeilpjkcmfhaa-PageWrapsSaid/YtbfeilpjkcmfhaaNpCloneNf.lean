/-
  Texts of a proof over the translated program: NpCloneNf.
-/
import Derived.Test.YtbfeilpjkcmfhaaNpBase
import Derived.Test.YtbfeilpjkcmfhaaLib5
set_option linter.unusedVariables false
namespace Go.Proofs.Ytbfeilpjkcmfhaa
open Go.AbsM
/-- slices.Clone -/
def ctr34o : TCtr := .det 34 [.l 5 (.int .u8)] (fun (d : List Int × Unit) => d.1 ≠ [] ∧ d.1.length < 1000000) (fun (d : List Int × Unit) => .o (.own 5 (.int .u8) d.1)) fun _ => rfl
theorem nf34 (b : List Int) (Q : TV → Prop) : wpFn Try.prog (knownL [] noneK noneK) Try.f34 [.c (.sl 5 (.int .u8) (.mk b))] Q = (
  grd (W.bnot (W.none b)) (grd (W.nle (W.nmul (W.nadd (0 : Nat) (W.len b)) (1 : Nat)) (140737488355328 : Nat)) (Q (TV.o (T1.own (5 : Nat) (VT.int IntKind.u8) (asT (List Int) (W.app [] b))))))) := by kernel_rfl
end Go.Proofs.Ytbfeilpjkcmfhaa
