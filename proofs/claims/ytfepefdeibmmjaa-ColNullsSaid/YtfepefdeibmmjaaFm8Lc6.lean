/-
  Texts of a proof over the translated program: Fm8Lc6.
-/
import Derived.Test.YtfepefdeibmmjaaFm8LA
set_option maxRecDepth 100000
namespace Go.Proofs.Ytfepefdeibmmjaa
open Go.FM
theorem c6_0 : ([[.md .u8 70 6, .md .u8 3 0]] : List (List HV)).all runs = true := by decide +kernel
theorem c6_1 : ([[.md .u8 70 6, .md .u8 3 1]] : List (List HV)).all runs = true := by decide +kernel
theorem c6_2 : ([[.md .u8 70 6, .md .u8 3 2]] : List (List HV)).all runs = true := by decide +kernel
theorem c6_3 : ([[.md .u8 70 16, .md .u8 3 0]] : List (List HV)).all runs = true := by decide +kernel
theorem c6_4 : ([[.md .u8 70 16, .md .u8 3 1]] : List (List HV)).all runs = true := by decide +kernel
theorem c6_5 : ([[.md .u8 70 16, .md .u8 3 2]] : List (List HV)).all runs = true := by decide +kernel
theorem c6_6 : ([[.md .u8 70 26, .md .u8 3 0]] : List (List HV)).all runs = true := by decide +kernel
theorem c6_7 : ([[.md .u8 70 26, .md .u8 3 1]] : List (List HV)).all runs = true := by decide +kernel
theorem c6_8 : ([[.md .u8 70 26, .md .u8 3 2]] : List (List HV)).all runs = true := by decide +kernel
theorem c6_9 : ([[.md .u8 70 36, .md .u8 3 0]] : List (List HV)).all runs = true := by decide +kernel
theorem c6_10 : ([[.md .u8 70 36, .md .u8 3 1]] : List (List HV)).all runs = true := by decide +kernel
theorem c6_11 : ([[.md .u8 70 36, .md .u8 3 2]] : List (List HV)).all runs = true := by decide +kernel
theorem c6_12 : ([[.md .u8 70 46, .md .u8 3 0]] : List (List HV)).all runs = true := by decide +kernel
theorem c6_13 : ([[.md .u8 70 46, .md .u8 3 1]] : List (List HV)).all runs = true := by decide +kernel
theorem c6_14 : ([[.md .u8 70 46, .md .u8 3 2]] : List (List HV)).all runs = true := by decide +kernel
theorem c6_15 : ([[.md .u8 70 56, .md .u8 3 0]] : List (List HV)).all runs = true := by decide +kernel
theorem c6_16 : ([[.md .u8 70 56, .md .u8 3 1]] : List (List HV)).all runs = true := by decide +kernel
theorem c6_17 : ([[.md .u8 70 56, .md .u8 3 2]] : List (List HV)).all runs = true := by decide +kernel
theorem c6_18 : ([[.md .u8 70 66, .md .u8 3 0]] : List (List HV)).all runs = true := by decide +kernel
theorem c6_19 : ([[.md .u8 70 66, .md .u8 3 1]] : List (List HV)).all runs = true := by decide +kernel
theorem c6_20 : ([[.md .u8 70 66, .md .u8 3 2]] : List (List HV)).all runs = true := by decide +kernel
end Go.Proofs.Ytfepefdeibmmjaa
