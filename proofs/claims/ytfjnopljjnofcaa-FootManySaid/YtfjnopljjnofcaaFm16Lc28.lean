/-
  Texts of a proof over the translated program: Fm16Lc28.
-/
import Derived.Test.YtfjnopljjnofcaaFm16LA
set_option maxRecDepth 100000
namespace Go.Proofs.Ytfjnopljjnofcaa
open Go.FM
theorem c28_0 : ([[.md .u8 70 8, .bool true]] : List (List HV)).all runs = true := by decide +kernel
theorem c28_1 : ([[.md .u8 70 8, .bool false]] : List (List HV)).all runs = true := by decide +kernel
theorem c28_2 : ([[.md .u8 70 18, .bool true]] : List (List HV)).all runs = true := by decide +kernel
theorem c28_3 : ([[.md .u8 70 18, .bool false]] : List (List HV)).all runs = true := by decide +kernel
end Go.Proofs.Ytfjnopljjnofcaa
