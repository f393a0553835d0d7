/-
  Texts of a proof over the translated program: Fm16Lc20.
-/
import Derived.Test.YtfjnopljjnofcaaFm16LA
set_option maxRecDepth 100000
namespace Go.Proofs.Ytfjnopljjnofcaa
open Go.FM
theorem c20_0 : ([[.md .u8 70 55, .bool true]] : List (List HV)).all runs = true := by decide +kernel
theorem c20_1 : ([[.md .u8 70 55, .bool false]] : List (List HV)).all runs = true := by decide +kernel
theorem c20_2 : ([[.md .u8 70 65, .bool true]] : List (List HV)).all runs = true := by decide +kernel
theorem c20_3 : ([[.md .u8 70 65, .bool false]] : List (List HV)).all runs = true := by decide +kernel
end Go.Proofs.Ytfjnopljjnofcaa
