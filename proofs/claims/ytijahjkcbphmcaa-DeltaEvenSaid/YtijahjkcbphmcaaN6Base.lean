/-
  Texts of a proof over the translated program: N6Base.
-/
import Derived.Test.YtijahjkcbphmcaaChecked
import Derived.Test.YtijahjkcbphmcaaLib4
namespace Go.Proofs.Ytijahjkcbphmcaa
open Go.AbsM
theorem wide : Try.prog.follows .mixedOrders = true := by kernel_rfl
end Go.Proofs.Ytijahjkcbphmcaa
