/-
  Texts of a proof over the translated program: Fm16Lc3.
-/
import Derived.Test.YtfjnopljjnofcaaFm16LA
set_option maxRecDepth 100000
namespace Go.Proofs.Ytfjnopljjnofcaa
open Go.FM
theorem c3_0 : ([[.md .u8 70 60, .bool true]] : List (List HV)).all runs = true := by decide +kernel
theorem c3_1 : ([[.md .u8 70 60, .bool false]] : List (List HV)).all runs = true := by decide +kernel
theorem c3_2 : ([[.md .u8 70 1, .bool true]] : List (List HV)).all runs = true := by decide +kernel
theorem c3_3 : ([[.md .u8 70 1, .bool false]] : List (List HV)).all runs = true := by decide +kernel
end Go.Proofs.Ytfjnopljjnofcaa
