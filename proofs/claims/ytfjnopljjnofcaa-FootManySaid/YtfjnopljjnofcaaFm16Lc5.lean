/-
  Texts of a proof over the translated program: Fm16Lc5.
-/
import Derived.Test.YtfjnopljjnofcaaFm16LA
set_option maxRecDepth 100000
namespace Go.Proofs.Ytfjnopljjnofcaa
open Go.FM
theorem c5_0 : ([[.md .u8 70 31, .bool true]] : List (List HV)).all runs = true := by decide +kernel
theorem c5_1 : ([[.md .u8 70 31, .bool false]] : List (List HV)).all runs = true := by decide +kernel
theorem c5_2 : ([[.md .u8 70 41, .bool true]] : List (List HV)).all runs = true := by decide +kernel
theorem c5_3 : ([[.md .u8 70 41, .bool false]] : List (List HV)).all runs = true := by decide +kernel
end Go.Proofs.Ytfjnopljjnofcaa
