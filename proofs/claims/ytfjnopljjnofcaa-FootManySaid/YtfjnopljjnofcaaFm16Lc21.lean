/-
  Texts of a proof over the translated program: Fm16Lc21.
-/
import Derived.Test.YtfjnopljjnofcaaFm16LA
set_option maxRecDepth 100000
namespace Go.Proofs.Ytfjnopljjnofcaa
open Go.FM
theorem c21_0 : ([[.md .u8 70 6, .bool true]] : List (List HV)).all runs = true := by decide +kernel
theorem c21_1 : ([[.md .u8 70 6, .bool false]] : List (List HV)).all runs = true := by decide +kernel
theorem c21_2 : ([[.md .u8 70 16, .bool true]] : List (List HV)).all runs = true := by decide +kernel
theorem c21_3 : ([[.md .u8 70 16, .bool false]] : List (List HV)).all runs = true := by decide +kernel
end Go.Proofs.Ytfjnopljjnofcaa
