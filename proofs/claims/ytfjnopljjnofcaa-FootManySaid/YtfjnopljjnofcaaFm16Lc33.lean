/-
  Texts of a proof over the translated program: Fm16Lc33.
-/
import Derived.Test.YtfjnopljjnofcaaFm16LA
set_option maxRecDepth 100000
namespace Go.Proofs.Ytfjnopljjnofcaa
open Go.FM
theorem c33_0 : ([[.md .u8 70 39, .bool true]] : List (List HV)).all runs = true := by decide +kernel
theorem c33_1 : ([[.md .u8 70 39, .bool false]] : List (List HV)).all runs = true := by decide +kernel
theorem c33_2 : ([[.md .u8 70 49, .bool true]] : List (List HV)).all runs = true := by decide +kernel
theorem c33_3 : ([[.md .u8 70 49, .bool false]] : List (List HV)).all runs = true := by decide +kernel
end Go.Proofs.Ytfjnopljjnofcaa
