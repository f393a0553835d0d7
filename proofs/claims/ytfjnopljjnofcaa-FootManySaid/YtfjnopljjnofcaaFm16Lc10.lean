/-
  Texts of a proof over the translated program: Fm16Lc10.
-/
import Derived.Test.YtfjnopljjnofcaaFm16LA
set_option maxRecDepth 100000
namespace Go.Proofs.Ytfjnopljjnofcaa
open Go.FM
theorem c10_0 : ([[.md .u8 70 62, .bool true]] : List (List HV)).all runs = true := by decide +kernel
theorem c10_1 : ([[.md .u8 70 62, .bool false]] : List (List HV)).all runs = true := by decide +kernel
theorem c10_2 : ([[.md .u8 70 3, .bool true]] : List (List HV)).all runs = true := by decide +kernel
theorem c10_3 : ([[.md .u8 70 3, .bool false]] : List (List HV)).all runs = true := by decide +kernel
end Go.Proofs.Ytfjnopljjnofcaa
