/-
  Texts of a proof over the translated program: Fm16Lc15.
-/
import Derived.Test.YtfjnopljjnofcaaFm16LA
set_option maxRecDepth 100000
namespace Go.Proofs.Ytfjnopljjnofcaa
open Go.FM
theorem c15_0 : ([[.md .u8 70 24, .bool true]] : List (List HV)).all runs = true := by decide +kernel
theorem c15_1 : ([[.md .u8 70 24, .bool false]] : List (List HV)).all runs = true := by decide +kernel
theorem c15_2 : ([[.md .u8 70 34, .bool true]] : List (List HV)).all runs = true := by decide +kernel
theorem c15_3 : ([[.md .u8 70 34, .bool false]] : List (List HV)).all runs = true := by decide +kernel
end Go.Proofs.Ytfjnopljjnofcaa
