/-
  Texts of a proof over the translated program: Fm16Lc14.
-/
import Derived.Test.YtfjnopljjnofcaaFm16LA
set_option maxRecDepth 100000
namespace Go.Proofs.Ytfjnopljjnofcaa
open Go.FM
theorem c14_0 : ([[.md .u8 70 4, .bool true]] : List (List HV)).all runs = true := by decide +kernel
theorem c14_1 : ([[.md .u8 70 4, .bool false]] : List (List HV)).all runs = true := by decide +kernel
theorem c14_2 : ([[.md .u8 70 14, .bool true]] : List (List HV)).all runs = true := by decide +kernel
theorem c14_3 : ([[.md .u8 70 14, .bool false]] : List (List HV)).all runs = true := by decide +kernel
end Go.Proofs.Ytfjnopljjnofcaa
