/-
  Texts of a proof over the translated program: Fm16Lc8.
-/
import Derived.Test.YtfjnopljjnofcaaFm16LA
set_option maxRecDepth 100000
namespace Go.Proofs.Ytfjnopljjnofcaa
open Go.FM
theorem c8_0 : ([[.md .u8 70 22, .bool true]] : List (List HV)).all runs = true := by decide +kernel
theorem c8_1 : ([[.md .u8 70 22, .bool false]] : List (List HV)).all runs = true := by decide +kernel
theorem c8_2 : ([[.md .u8 70 32, .bool true]] : List (List HV)).all runs = true := by decide +kernel
theorem c8_3 : ([[.md .u8 70 32, .bool false]] : List (List HV)).all runs = true := by decide +kernel
end Go.Proofs.Ytfjnopljjnofcaa
