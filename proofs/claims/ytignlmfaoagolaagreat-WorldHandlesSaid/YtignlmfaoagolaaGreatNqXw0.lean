/-
  Texts of a proof over the translated program: NqXw0.
-/
import Derived.Test.YtignlmfaoagolaaGreatNqXR
set_option maxRecDepth 100000
namespace Go.Proofs.YtignlmfaoagolaaGreat
open Go.FM
theorem w0 : runs 24 6 [.md .u8 5 0] = true := by decide +kernel
end Go.Proofs.YtignlmfaoagolaaGreat
