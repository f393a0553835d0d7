/-
  Texts of a proof over the translated program: Fm16Lc25.
-/
import Derived.Test.YtfjnopljjnofcaaFm16LA
set_option maxRecDepth 100000
namespace Go.Proofs.Ytfjnopljjnofcaa
open Go.FM
theorem c25_0 : ([[.md .u8 70 17, .bool true]] : List (List HV)).all runs = true := by decide +kernel
theorem c25_1 : ([[.md .u8 70 17, .bool false]] : List (List HV)).all runs = true := by decide +kernel
theorem c25_2 : ([[.md .u8 70 27, .bool true]] : List (List HV)).all runs = true := by decide +kernel
theorem c25_3 : ([[.md .u8 70 27, .bool false]] : List (List HV)).all runs = true := by decide +kernel
end Go.Proofs.Ytfjnopljjnofcaa
