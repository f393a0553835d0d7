/-
  Texts of a proof over the translated program: Fm16Lc0.
-/
import Derived.Test.YtfjnopljjnofcaaFm16LA
set_option maxRecDepth 100000
namespace Go.Proofs.Ytfjnopljjnofcaa
open Go.FM
theorem c0_0 : ([[.md .u8 70 0, .bool true]] : List (List HV)).all runs = true := by decide +kernel
theorem c0_1 : ([[.md .u8 70 0, .bool false]] : List (List HV)).all runs = true := by decide +kernel
theorem c0_2 : ([[.md .u8 70 10, .bool true]] : List (List HV)).all runs = true := by decide +kernel
theorem c0_3 : ([[.md .u8 70 10, .bool false]] : List (List HV)).all runs = true := by decide +kernel
end Go.Proofs.Ytfjnopljjnofcaa
