/-
  Texts of a proof over the translated program: Nq19c2.
-/
import Derived.Test.YtjilpkmcddinaaaNq19B
set_option maxRecDepth 100000
namespace Go.Proofs.Ytjilpkmcddinaaa
open Go.FM
theorem c4_true : runs [.md .u8 7 4, .bool true] = true := by decide +kernel
theorem c4_false : runs [.md .u8 7 4, .bool false] = true := by decide +kernel
theorem c5_true : runs [.md .u8 7 5, .bool true] = true := by decide +kernel
end Go.Proofs.Ytjilpkmcddinaaa
