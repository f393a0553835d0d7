/-
  Texts of a proof over the translated program: NeBase.
-/
import Derived.Test.YtpohkoijbocpcaaChecked
import Derived.Test.YtpohkoijbocpcaaLib5
namespace Go.Proofs.Ytpohkoijbocpcaa
open Go.AbsM
theorem wide : Try.prog.follows .mixedOrders = true := by kernel_rfl
end Go.Proofs.Ytpohkoijbocpcaa
