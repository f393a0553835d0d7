/-
  Texts of a proof over the translated program: NqXw2.
-/
import Derived.Test.YtignlmfaoagolaaGreatNqXR
set_option maxRecDepth 100000
namespace Go.Proofs.YtignlmfaoagolaaGreat
open Go.FM
theorem w2 : runs 24 6 [.md .u8 5 2] = true := by decide +kernel
end Go.Proofs.YtignlmfaoagolaaGreat
