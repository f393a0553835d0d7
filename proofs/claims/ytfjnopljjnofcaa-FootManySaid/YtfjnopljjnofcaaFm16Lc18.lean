/-
  Texts of a proof over the translated program: Fm16Lc18.
-/
import Derived.Test.YtfjnopljjnofcaaFm16LA
set_option maxRecDepth 100000
namespace Go.Proofs.Ytfjnopljjnofcaa
open Go.FM
theorem c18_0 : ([[.md .u8 70 15, .bool true]] : List (List HV)).all runs = true := by decide +kernel
theorem c18_1 : ([[.md .u8 70 15, .bool false]] : List (List HV)).all runs = true := by decide +kernel
theorem c18_2 : ([[.md .u8 70 25, .bool true]] : List (List HV)).all runs = true := by decide +kernel
theorem c18_3 : ([[.md .u8 70 25, .bool false]] : List (List HV)).all runs = true := by decide +kernel
end Go.Proofs.Ytfjnopljjnofcaa
