/-
  Texts of a proof over the translated program: N6Known.
-/
import Derived.Test.YtijahjkcbphmcaaN6Base
import Derived.Test.YtijahjkcbphmcaaLib4
set_option linter.unusedVariables false
namespace Go.Proofs.Ytijahjkcbphmcaa
open Go.AbsM
theorem good33 : GoodC Try.prog (trueC 33) := good_closed (fn := Try.f33) (lend := fun f j => f == 41 && j == 0) (n := 400) wide ⟨by kernel_rfl, by kernel_rfl, by kernel_rfl, by kernel_rfl⟩ (fun S => by kernel_rfl)
end Go.Proofs.Ytijahjkcbphmcaa
