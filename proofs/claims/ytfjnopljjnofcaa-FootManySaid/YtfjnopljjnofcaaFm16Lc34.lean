/-
  Texts of a proof over the translated program: Fm16Lc34.
-/
import Derived.Test.YtfjnopljjnofcaaFm16LA
set_option maxRecDepth 100000
namespace Go.Proofs.Ytfjnopljjnofcaa
open Go.FM
theorem c34_0 : ([[.md .u8 70 59, .bool true]] : List (List HV)).all runs = true := by decide +kernel
theorem c34_1 : ([[.md .u8 70 59, .bool false]] : List (List HV)).all runs = true := by decide +kernel
theorem c34_2 : ([[.md .u8 70 69, .bool true]] : List (List HV)).all runs = true := by decide +kernel
theorem c34_3 : ([[.md .u8 70 69, .bool false]] : List (List HV)).all runs = true := by decide +kernel
end Go.Proofs.Ytfjnopljjnofcaa
