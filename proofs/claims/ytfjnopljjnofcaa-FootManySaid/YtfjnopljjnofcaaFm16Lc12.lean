/-
  Texts of a proof over the translated program: Fm16Lc12.
-/
import Derived.Test.YtfjnopljjnofcaaFm16LA
set_option maxRecDepth 100000
namespace Go.Proofs.Ytfjnopljjnofcaa
open Go.FM
theorem c12_0 : ([[.md .u8 70 33, .bool true]] : List (List HV)).all runs = true := by decide +kernel
theorem c12_1 : ([[.md .u8 70 33, .bool false]] : List (List HV)).all runs = true := by decide +kernel
theorem c12_2 : ([[.md .u8 70 43, .bool true]] : List (List HV)).all runs = true := by decide +kernel
theorem c12_3 : ([[.md .u8 70 43, .bool false]] : List (List HV)).all runs = true := by decide +kernel
end Go.Proofs.Ytfjnopljjnofcaa
