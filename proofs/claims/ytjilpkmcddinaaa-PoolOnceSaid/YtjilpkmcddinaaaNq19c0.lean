/-
  Texts of a proof over the translated program: Nq19c0.
-/
import Derived.Test.YtjilpkmcddinaaaNq19B
set_option maxRecDepth 100000
namespace Go.Proofs.Ytjilpkmcddinaaa
open Go.FM
theorem c0_true : runs [.md .u8 7 0, .bool true] = true := by decide +kernel
theorem c0_false : runs [.md .u8 7 0, .bool false] = true := by decide +kernel
theorem c1_true : runs [.md .u8 7 1, .bool true] = true := by decide +kernel
theorem c1_false : runs [.md .u8 7 1, .bool false] = true := by decide +kernel
end Go.Proofs.Ytjilpkmcddinaaa
