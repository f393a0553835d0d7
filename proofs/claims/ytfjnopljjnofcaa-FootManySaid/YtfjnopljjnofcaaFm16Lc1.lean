/-
  Texts of a proof over the translated program: Fm16Lc1.
-/
import Derived.Test.YtfjnopljjnofcaaFm16LA
set_option maxRecDepth 100000
namespace Go.Proofs.Ytfjnopljjnofcaa
open Go.FM
theorem c1_0 : ([[.md .u8 70 20, .bool true]] : List (List HV)).all runs = true := by decide +kernel
theorem c1_1 : ([[.md .u8 70 20, .bool false]] : List (List HV)).all runs = true := by decide +kernel
theorem c1_2 : ([[.md .u8 70 30, .bool true]] : List (List HV)).all runs = true := by decide +kernel
theorem c1_3 : ([[.md .u8 70 30, .bool false]] : List (List HV)).all runs = true := by decide +kernel
end Go.Proofs.Ytfjnopljjnofcaa
