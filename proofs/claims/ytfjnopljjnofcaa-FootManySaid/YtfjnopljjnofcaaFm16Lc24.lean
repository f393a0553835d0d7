/-
  Texts of a proof over the translated program: Fm16Lc24.
-/
import Derived.Test.YtfjnopljjnofcaaFm16LA
set_option maxRecDepth 100000
namespace Go.Proofs.Ytfjnopljjnofcaa
open Go.FM
theorem c24_0 : ([[.md .u8 70 66, .bool true]] : List (List HV)).all runs = true := by decide +kernel
theorem c24_1 : ([[.md .u8 70 66, .bool false]] : List (List HV)).all runs = true := by decide +kernel
theorem c24_2 : ([[.md .u8 70 7, .bool true]] : List (List HV)).all runs = true := by decide +kernel
theorem c24_3 : ([[.md .u8 70 7, .bool false]] : List (List HV)).all runs = true := by decide +kernel
end Go.Proofs.Ytfjnopljjnofcaa
