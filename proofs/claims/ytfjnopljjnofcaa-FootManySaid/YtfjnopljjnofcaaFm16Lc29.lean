/-
  Texts of a proof over the translated program: Fm16Lc29.
-/
import Derived.Test.YtfjnopljjnofcaaFm16LA
set_option maxRecDepth 100000
namespace Go.Proofs.Ytfjnopljjnofcaa
open Go.FM
theorem c29_0 : ([[.md .u8 70 28, .bool true]] : List (List HV)).all runs = true := by decide +kernel
theorem c29_1 : ([[.md .u8 70 28, .bool false]] : List (List HV)).all runs = true := by decide +kernel
theorem c29_2 : ([[.md .u8 70 38, .bool true]] : List (List HV)).all runs = true := by decide +kernel
theorem c29_3 : ([[.md .u8 70 38, .bool false]] : List (List HV)).all runs = true := by decide +kernel
end Go.Proofs.Ytfjnopljjnofcaa
