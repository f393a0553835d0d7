/-
  Texts of a proof over the translated program: N1Base.
-/
import Derived.Test.YtmfegciehdjicaaChecked
import Derived.Test.YtmfegciehdjicaaLib4
namespace Go.Proofs.Ytmfegciehdjicaa
open Go.AbsM
theorem wide : Try.prog.follows .mixedOrders = true := by kernel_rfl
end Go.Proofs.Ytmfegciehdjicaa
