/-
  Texts of a proof over the translated program: Fm16Lc11.
-/
import Derived.Test.YtfjnopljjnofcaaFm16LA
set_option maxRecDepth 100000
namespace Go.Proofs.Ytfjnopljjnofcaa
open Go.FM
theorem c11_0 : ([[.md .u8 70 13, .bool true]] : List (List HV)).all runs = true := by decide +kernel
theorem c11_1 : ([[.md .u8 70 13, .bool false]] : List (List HV)).all runs = true := by decide +kernel
theorem c11_2 : ([[.md .u8 70 23, .bool true]] : List (List HV)).all runs = true := by decide +kernel
theorem c11_3 : ([[.md .u8 70 23, .bool false]] : List (List HV)).all runs = true := by decide +kernel
end Go.Proofs.Ytfjnopljjnofcaa
