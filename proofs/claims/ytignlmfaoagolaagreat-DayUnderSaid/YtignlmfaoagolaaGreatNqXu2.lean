/-
  Texts of a proof over the translated program: NqXu2.
-/
import Derived.Test.YtignlmfaoagolaaGreatNqXR
set_option maxRecDepth 100000
namespace Go.Proofs.YtignlmfaoagolaaGreat
open Go.FM
theorem u2_true : runs 33 8 [.md .u8 8 2, .bool true] = true := by decide +kernel
theorem u2_false : runs 33 8 [.md .u8 8 2, .bool false] = true := by decide +kernel
end Go.Proofs.YtignlmfaoagolaaGreat
