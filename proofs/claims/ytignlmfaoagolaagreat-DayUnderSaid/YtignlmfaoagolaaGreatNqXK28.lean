/-
  Texts of a proof over the translated program: NqXK28.
-/
import Derived.Test.YtignlmfaoagolaaGreatNqXA
set_option maxRecDepth 100000
namespace Go.Proofs.YtignlmfaoagolaaGreat
open Go.FM
theorem known33 : isTrue (callX Tryz.prog 6 10000000 ext0 60 33 [] .nil 0) = true := by decide +kernel
end Go.Proofs.YtignlmfaoagolaaGreat
