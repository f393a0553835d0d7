/-
  Texts of a proof over the translated program: Fm16Lc30.
-/
import Derived.Test.YtfjnopljjnofcaaFm16LA
set_option maxRecDepth 100000
namespace Go.Proofs.Ytfjnopljjnofcaa
open Go.FM
theorem c30_0 : ([[.md .u8 70 48, .bool true]] : List (List HV)).all runs = true := by decide +kernel
theorem c30_1 : ([[.md .u8 70 48, .bool false]] : List (List HV)).all runs = true := by decide +kernel
theorem c30_2 : ([[.md .u8 70 58, .bool true]] : List (List HV)).all runs = true := by decide +kernel
theorem c30_3 : ([[.md .u8 70 58, .bool false]] : List (List HV)).all runs = true := by decide +kernel
end Go.Proofs.Ytfjnopljjnofcaa
