/-
  Texts of a proof over the translated program: Fm16Lc32.
-/
import Derived.Test.YtfjnopljjnofcaaFm16LA
set_option maxRecDepth 100000
namespace Go.Proofs.Ytfjnopljjnofcaa
open Go.FM
theorem c32_0 : ([[.md .u8 70 19, .bool true]] : List (List HV)).all runs = true := by decide +kernel
theorem c32_1 : ([[.md .u8 70 19, .bool false]] : List (List HV)).all runs = true := by decide +kernel
theorem c32_2 : ([[.md .u8 70 29, .bool true]] : List (List HV)).all runs = true := by decide +kernel
theorem c32_3 : ([[.md .u8 70 29, .bool false]] : List (List HV)).all runs = true := by decide +kernel
end Go.Proofs.Ytfjnopljjnofcaa
