/-
  Texts of a proof over the translated program: NpBase.
-/
import Derived.Test.YtbfeilpjkcmfhaaChecked
import Derived.Test.YtbfeilpjkcmfhaaLib5
namespace Go.Proofs.Ytbfeilpjkcmfhaa
open Go.AbsM
theorem wide : Try.prog.follows .mixedOrders = true := by kernel_rfl
end Go.Proofs.Ytbfeilpjkcmfhaa
