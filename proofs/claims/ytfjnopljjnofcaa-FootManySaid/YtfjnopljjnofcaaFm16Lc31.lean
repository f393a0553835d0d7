/-
  Texts of a proof over the translated program: Fm16Lc31.
-/
import Derived.Test.YtfjnopljjnofcaaFm16LA
set_option maxRecDepth 100000
namespace Go.Proofs.Ytfjnopljjnofcaa
open Go.FM
theorem c31_0 : ([[.md .u8 70 68, .bool true]] : List (List HV)).all runs = true := by decide +kernel
theorem c31_1 : ([[.md .u8 70 68, .bool false]] : List (List HV)).all runs = true := by decide +kernel
theorem c31_2 : ([[.md .u8 70 9, .bool true]] : List (List HV)).all runs = true := by decide +kernel
theorem c31_3 : ([[.md .u8 70 9, .bool false]] : List (List HV)).all runs = true := by decide +kernel
end Go.Proofs.Ytfjnopljjnofcaa
