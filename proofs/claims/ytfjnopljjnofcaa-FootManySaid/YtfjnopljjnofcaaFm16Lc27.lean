/-
  Texts of a proof over the translated program: Fm16Lc27.
-/
import Derived.Test.YtfjnopljjnofcaaFm16LA
set_option maxRecDepth 100000
namespace Go.Proofs.Ytfjnopljjnofcaa
open Go.FM
theorem c27_0 : ([[.md .u8 70 57, .bool true]] : List (List HV)).all runs = true := by decide +kernel
theorem c27_1 : ([[.md .u8 70 57, .bool false]] : List (List HV)).all runs = true := by decide +kernel
theorem c27_2 : ([[.md .u8 70 67, .bool true]] : List (List HV)).all runs = true := by decide +kernel
theorem c27_3 : ([[.md .u8 70 67, .bool false]] : List (List HV)).all runs = true := by decide +kernel
end Go.Proofs.Ytfjnopljjnofcaa
