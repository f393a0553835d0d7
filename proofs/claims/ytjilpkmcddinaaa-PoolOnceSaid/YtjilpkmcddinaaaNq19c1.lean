/-
  Texts of a proof over the translated program: Nq19c1.
-/
import Derived.Test.YtjilpkmcddinaaaNq19B
set_option maxRecDepth 100000
namespace Go.Proofs.Ytjilpkmcddinaaa
open Go.FM
theorem c2_true : runs [.md .u8 7 2, .bool true] = true := by decide +kernel
theorem c2_false : runs [.md .u8 7 2, .bool false] = true := by decide +kernel
theorem c3_true : runs [.md .u8 7 3, .bool true] = true := by decide +kernel
theorem c3_false : runs [.md .u8 7 3, .bool false] = true := by decide +kernel
end Go.Proofs.Ytjilpkmcddinaaa
