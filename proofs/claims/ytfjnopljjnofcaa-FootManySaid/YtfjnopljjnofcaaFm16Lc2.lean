/-
  Texts of a proof over the translated program: Fm16Lc2.
-/
import Derived.Test.YtfjnopljjnofcaaFm16LA
set_option maxRecDepth 100000
namespace Go.Proofs.Ytfjnopljjnofcaa
open Go.FM
theorem c2_0 : ([[.md .u8 70 40, .bool true]] : List (List HV)).all runs = true := by decide +kernel
theorem c2_1 : ([[.md .u8 70 40, .bool false]] : List (List HV)).all runs = true := by decide +kernel
theorem c2_2 : ([[.md .u8 70 50, .bool true]] : List (List HV)).all runs = true := by decide +kernel
theorem c2_3 : ([[.md .u8 70 50, .bool false]] : List (List HV)).all runs = true := by decide +kernel
end Go.Proofs.Ytfjnopljjnofcaa
