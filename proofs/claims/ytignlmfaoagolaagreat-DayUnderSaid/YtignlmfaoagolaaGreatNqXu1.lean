/-
  Texts of a proof over the translated program: NqXu1.
-/
import Derived.Test.YtignlmfaoagolaaGreatNqXR
set_option maxRecDepth 100000
namespace Go.Proofs.YtignlmfaoagolaaGreat
open Go.FM
theorem u1_true : runs 33 8 [.md .u8 8 1, .bool true] = true := by decide +kernel
theorem u1_false : runs 33 8 [.md .u8 8 1, .bool false] = true := by decide +kernel
end Go.Proofs.YtignlmfaoagolaaGreat
