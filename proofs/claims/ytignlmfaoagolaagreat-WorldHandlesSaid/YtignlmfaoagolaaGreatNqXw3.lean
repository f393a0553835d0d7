/-
  Texts of a proof over the translated program: NqXw3.
-/
import Derived.Test.YtignlmfaoagolaaGreatNqXR
set_option maxRecDepth 100000
namespace Go.Proofs.YtignlmfaoagolaaGreat
open Go.FM
theorem w3 : runs 24 6 [.md .u8 5 3] = true := by decide +kernel
end Go.Proofs.YtignlmfaoagolaaGreat
