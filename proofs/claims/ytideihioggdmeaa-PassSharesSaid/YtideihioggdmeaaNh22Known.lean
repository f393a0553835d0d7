/-
  Texts of a proof over the translated program: Nh22Known.
-/
import Derived.Test.YtideihioggdmeaaChecked
import Derived.Test.YtideihioggdmeaaLib5
namespace Go.Proofs.Ytideihioggdmeaa
open Go.AbsM
theorem wide : Try.prog.follows .mixedOrders = true := by kernel_rfl
theorem good6 : GoodC Try.prog (trueC 6) := good_closed0 (fn := Try.f6) (lend := fun _ _ => false) (n := 400) wide ⟨by kernel_rfl, by kernel_rfl, by kernel_rfl, by kernel_rfl⟩ (by kernel_rfl)
end Go.Proofs.Ytideihioggdmeaa
