/-
  Texts of a proof over the translated program: Nq19c3.
-/
import Derived.Test.YtjilpkmcddinaaaNq19B
set_option maxRecDepth 100000
namespace Go.Proofs.Ytjilpkmcddinaaa
open Go.FM
theorem c5_false : runs [.md .u8 7 5, .bool false] = true := by decide +kernel
theorem c6_true : runs [.md .u8 7 6, .bool true] = true := by decide +kernel
theorem c6_false : runs [.md .u8 7 6, .bool false] = true := by decide +kernel
end Go.Proofs.Ytjilpkmcddinaaa
