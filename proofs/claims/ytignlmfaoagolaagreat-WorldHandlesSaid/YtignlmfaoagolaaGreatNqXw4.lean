/-
  Texts of a proof over the translated program: NqXw4.
-/
import Derived.Test.YtignlmfaoagolaaGreatNqXR
set_option maxRecDepth 100000
namespace Go.Proofs.YtignlmfaoagolaaGreat
open Go.FM
theorem w4 : runs 24 6 [.md .u8 5 4] = true := by decide +kernel
end Go.Proofs.YtignlmfaoagolaaGreat
