/-
  Texts of a proof over the translated program: Fm16Lc7.
-/
import Derived.Test.YtfjnopljjnofcaaFm16LA
set_option maxRecDepth 100000
namespace Go.Proofs.Ytfjnopljjnofcaa
open Go.FM
theorem c7_0 : ([[.md .u8 70 2, .bool true]] : List (List HV)).all runs = true := by decide +kernel
theorem c7_1 : ([[.md .u8 70 2, .bool false]] : List (List HV)).all runs = true := by decide +kernel
theorem c7_2 : ([[.md .u8 70 12, .bool true]] : List (List HV)).all runs = true := by decide +kernel
theorem c7_3 : ([[.md .u8 70 12, .bool false]] : List (List HV)).all runs = true := by decide +kernel
end Go.Proofs.Ytfjnopljjnofcaa
