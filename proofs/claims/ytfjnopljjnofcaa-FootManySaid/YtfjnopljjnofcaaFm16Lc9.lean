/-
  Texts of a proof over the translated program: Fm16Lc9.
-/
import Derived.Test.YtfjnopljjnofcaaFm16LA
set_option maxRecDepth 100000
namespace Go.Proofs.Ytfjnopljjnofcaa
open Go.FM
theorem c9_0 : ([[.md .u8 70 42, .bool true]] : List (List HV)).all runs = true := by decide +kernel
theorem c9_1 : ([[.md .u8 70 42, .bool false]] : List (List HV)).all runs = true := by decide +kernel
theorem c9_2 : ([[.md .u8 70 52, .bool true]] : List (List HV)).all runs = true := by decide +kernel
theorem c9_3 : ([[.md .u8 70 52, .bool false]] : List (List HV)).all runs = true := by decide +kernel
end Go.Proofs.Ytfjnopljjnofcaa
