/-
  Texts of a proof over the translated program: Fm16Lc16.
-/
import Derived.Test.YtfjnopljjnofcaaFm16LA
set_option maxRecDepth 100000
namespace Go.Proofs.Ytfjnopljjnofcaa
open Go.FM
theorem c16_0 : ([[.md .u8 70 44, .bool true]] : List (List HV)).all runs = true := by decide +kernel
theorem c16_1 : ([[.md .u8 70 44, .bool false]] : List (List HV)).all runs = true := by decide +kernel
theorem c16_2 : ([[.md .u8 70 54, .bool true]] : List (List HV)).all runs = true := by decide +kernel
theorem c16_3 : ([[.md .u8 70 54, .bool false]] : List (List HV)).all runs = true := by decide +kernel
end Go.Proofs.Ytfjnopljjnofcaa
