/-
  Texts of a proof over the translated program: Fm16Lc22.
-/
import Derived.Test.YtfjnopljjnofcaaFm16LA
set_option maxRecDepth 100000
namespace Go.Proofs.Ytfjnopljjnofcaa
open Go.FM
theorem c22_0 : ([[.md .u8 70 26, .bool true]] : List (List HV)).all runs = true := by decide +kernel
theorem c22_1 : ([[.md .u8 70 26, .bool false]] : List (List HV)).all runs = true := by decide +kernel
theorem c22_2 : ([[.md .u8 70 36, .bool true]] : List (List HV)).all runs = true := by decide +kernel
theorem c22_3 : ([[.md .u8 70 36, .bool false]] : List (List HV)).all runs = true := by decide +kernel
end Go.Proofs.Ytfjnopljjnofcaa
