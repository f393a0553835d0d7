/-
  Texts of a proof over the translated program: Fm16Lc26.
-/
import Derived.Test.YtfjnopljjnofcaaFm16LA
set_option maxRecDepth 100000
namespace Go.Proofs.Ytfjnopljjnofcaa
open Go.FM
theorem c26_0 : ([[.md .u8 70 37, .bool true]] : List (List HV)).all runs = true := by decide +kernel
theorem c26_1 : ([[.md .u8 70 37, .bool false]] : List (List HV)).all runs = true := by decide +kernel
theorem c26_2 : ([[.md .u8 70 47, .bool true]] : List (List HV)).all runs = true := by decide +kernel
theorem c26_3 : ([[.md .u8 70 47, .bool false]] : List (List HV)).all runs = true := by decide +kernel
end Go.Proofs.Ytfjnopljjnofcaa
