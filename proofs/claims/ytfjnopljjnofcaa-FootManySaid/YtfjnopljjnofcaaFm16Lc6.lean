/-
  Texts of a proof over the translated program: Fm16Lc6.
-/
import Derived.Test.YtfjnopljjnofcaaFm16LA
set_option maxRecDepth 100000
namespace Go.Proofs.Ytfjnopljjnofcaa
open Go.FM
theorem c6_0 : ([[.md .u8 70 51, .bool true]] : List (List HV)).all runs = true := by decide +kernel
theorem c6_1 : ([[.md .u8 70 51, .bool false]] : List (List HV)).all runs = true := by decide +kernel
theorem c6_2 : ([[.md .u8 70 61, .bool true]] : List (List HV)).all runs = true := by decide +kernel
theorem c6_3 : ([[.md .u8 70 61, .bool false]] : List (List HV)).all runs = true := by decide +kernel
end Go.Proofs.Ytfjnopljjnofcaa
