/-
  Texts of a proof over the translated program: N5Known.
-/
import Derived.Test.YtijahjkcbphmcaaN6Base
import Derived.Test.YtijahjkcbphmcaaLib4
set_option linter.unusedVariables false
namespace Go.Proofs.Ytijahjkcbphmcaa
open Go.AbsM
theorem good26 : GoodC Try.prog (trueC 26) := good_closed (fn := Try.f26) (lend := fun _ _ => false) (n := 400) wide ⟨by kernel_rfl, by kernel_rfl, by kernel_rfl, by kernel_rfl⟩ (fun S => by kernel_rfl)
end Go.Proofs.Ytijahjkcbphmcaa
