/-
  Texts of a proof over the translated program: Fm16Lc13.
-/
import Derived.Test.YtfjnopljjnofcaaFm16LA
set_option maxRecDepth 100000
namespace Go.Proofs.Ytfjnopljjnofcaa
open Go.FM
theorem c13_0 : ([[.md .u8 70 53, .bool true]] : List (List HV)).all runs = true := by decide +kernel
theorem c13_1 : ([[.md .u8 70 53, .bool false]] : List (List HV)).all runs = true := by decide +kernel
theorem c13_2 : ([[.md .u8 70 63, .bool true]] : List (List HV)).all runs = true := by decide +kernel
theorem c13_3 : ([[.md .u8 70 63, .bool false]] : List (List HV)).all runs = true := by decide +kernel
end Go.Proofs.Ytfjnopljjnofcaa
