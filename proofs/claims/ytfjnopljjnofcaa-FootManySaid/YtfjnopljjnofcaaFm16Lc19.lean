/-
  Texts of a proof over the translated program: Fm16Lc19.
-/
import Derived.Test.YtfjnopljjnofcaaFm16LA
set_option maxRecDepth 100000
namespace Go.Proofs.Ytfjnopljjnofcaa
open Go.FM
theorem c19_0 : ([[.md .u8 70 35, .bool true]] : List (List HV)).all runs = true := by decide +kernel
theorem c19_1 : ([[.md .u8 70 35, .bool false]] : List (List HV)).all runs = true := by decide +kernel
theorem c19_2 : ([[.md .u8 70 45, .bool true]] : List (List HV)).all runs = true := by decide +kernel
theorem c19_3 : ([[.md .u8 70 45, .bool false]] : List (List HV)).all runs = true := by decide +kernel
end Go.Proofs.Ytfjnopljjnofcaa
