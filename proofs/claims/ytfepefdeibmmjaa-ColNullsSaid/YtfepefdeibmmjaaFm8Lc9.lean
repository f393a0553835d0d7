/-
  Texts of a proof over the translated program: Fm8Lc9.
-/
import Derived.Test.YtfepefdeibmmjaaFm8LA
set_option maxRecDepth 100000
namespace Go.Proofs.Ytfepefdeibmmjaa
open Go.FM
theorem c9_0 : ([[.md .u8 70 9, .md .u8 3 0]] : List (List HV)).all runs = true := by decide +kernel
theorem c9_1 : ([[.md .u8 70 9, .md .u8 3 1]] : List (List HV)).all runs = true := by decide +kernel
theorem c9_2 : ([[.md .u8 70 9, .md .u8 3 2]] : List (List HV)).all runs = true := by decide +kernel
theorem c9_3 : ([[.md .u8 70 19, .md .u8 3 0]] : List (List HV)).all runs = true := by decide +kernel
theorem c9_4 : ([[.md .u8 70 19, .md .u8 3 1]] : List (List HV)).all runs = true := by decide +kernel
theorem c9_5 : ([[.md .u8 70 19, .md .u8 3 2]] : List (List HV)).all runs = true := by decide +kernel
theorem c9_6 : ([[.md .u8 70 29, .md .u8 3 0]] : List (List HV)).all runs = true := by decide +kernel
theorem c9_7 : ([[.md .u8 70 29, .md .u8 3 1]] : List (List HV)).all runs = true := by decide +kernel
theorem c9_8 : ([[.md .u8 70 29, .md .u8 3 2]] : List (List HV)).all runs = true := by decide +kernel
theorem c9_9 : ([[.md .u8 70 39, .md .u8 3 0]] : List (List HV)).all runs = true := by decide +kernel
theorem c9_10 : ([[.md .u8 70 39, .md .u8 3 1]] : List (List HV)).all runs = true := by decide +kernel
theorem c9_11 : ([[.md .u8 70 39, .md .u8 3 2]] : List (List HV)).all runs = true := by decide +kernel
theorem c9_12 : ([[.md .u8 70 49, .md .u8 3 0]] : List (List HV)).all runs = true := by decide +kernel
theorem c9_13 : ([[.md .u8 70 49, .md .u8 3 1]] : List (List HV)).all runs = true := by decide +kernel
theorem c9_14 : ([[.md .u8 70 49, .md .u8 3 2]] : List (List HV)).all runs = true := by decide +kernel
theorem c9_15 : ([[.md .u8 70 59, .md .u8 3 0]] : List (List HV)).all runs = true := by decide +kernel
theorem c9_16 : ([[.md .u8 70 59, .md .u8 3 1]] : List (List HV)).all runs = true := by decide +kernel
theorem c9_17 : ([[.md .u8 70 59, .md .u8 3 2]] : List (List HV)).all runs = true := by decide +kernel
theorem c9_18 : ([[.md .u8 70 69, .md .u8 3 0]] : List (List HV)).all runs = true := by decide +kernel
theorem c9_19 : ([[.md .u8 70 69, .md .u8 3 1]] : List (List HV)).all runs = true := by decide +kernel
theorem c9_20 : ([[.md .u8 70 69, .md .u8 3 2]] : List (List HV)).all runs = true := by decide +kernel
end Go.Proofs.Ytfepefdeibmmjaa
