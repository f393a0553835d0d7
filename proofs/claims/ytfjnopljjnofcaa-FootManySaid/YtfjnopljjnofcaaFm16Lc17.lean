/-
  Texts of a proof over the translated program: Fm16Lc17.
-/
import Derived.Test.YtfjnopljjnofcaaFm16LA
set_option maxRecDepth 100000
namespace Go.Proofs.Ytfjnopljjnofcaa
open Go.FM
theorem c17_0 : ([[.md .u8 70 64, .bool true]] : List (List HV)).all runs = true := by decide +kernel
theorem c17_1 : ([[.md .u8 70 64, .bool false]] : List (List HV)).all runs = true := by decide +kernel
theorem c17_2 : ([[.md .u8 70 5, .bool true]] : List (List HV)).all runs = true := by decide +kernel
theorem c17_3 : ([[.md .u8 70 5, .bool false]] : List (List HV)).all runs = true := by decide +kernel
end Go.Proofs.Ytfjnopljjnofcaa
