/-
  Texts of a proof over the translated program: NqXBase.
-/
import Derived.Test.YtignlmfaoagolaaGreatProg
import Derived.Test.YtignlmfaoagolaaGreatLib8
namespace Go.Proofs.YtignlmfaoagolaaGreat
open Go.AbsM
theorem wide : Tryz.prog.follows .mixedOrders = true := by kernel_rfl
end Go.Proofs.YtignlmfaoagolaaGreat
