/-
  Texts of a proof over the translated program: Fm16Lc23.
-/
import Derived.Test.YtfjnopljjnofcaaFm16LA
set_option maxRecDepth 100000
namespace Go.Proofs.Ytfjnopljjnofcaa
open Go.FM
theorem c23_0 : ([[.md .u8 70 46, .bool true]] : List (List HV)).all runs = true := by decide +kernel
theorem c23_1 : ([[.md .u8 70 46, .bool false]] : List (List HV)).all runs = true := by decide +kernel
theorem c23_2 : ([[.md .u8 70 56, .bool true]] : List (List HV)).all runs = true := by decide +kernel
theorem c23_3 : ([[.md .u8 70 56, .bool false]] : List (List HV)).all runs = true := by decide +kernel
end Go.Proofs.Ytfjnopljjnofcaa
