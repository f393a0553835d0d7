/-
  Texts of a proof over the translated program: Fm16Lc4.
-/
import Derived.Test.YtfjnopljjnofcaaFm16LA
set_option maxRecDepth 100000
namespace Go.Proofs.Ytfjnopljjnofcaa
open Go.FM
theorem c4_0 : ([[.md .u8 70 11, .bool true]] : List (List HV)).all runs = true := by decide +kernel
theorem c4_1 : ([[.md .u8 70 11, .bool false]] : List (List HV)).all runs = true := by decide +kernel
theorem c4_2 : ([[.md .u8 70 21, .bool true]] : List (List HV)).all runs = true := by decide +kernel
theorem c4_3 : ([[.md .u8 70 21, .bool false]] : List (List HV)).all runs = true := by decide +kernel
end Go.Proofs.Ytfjnopljjnofcaa
