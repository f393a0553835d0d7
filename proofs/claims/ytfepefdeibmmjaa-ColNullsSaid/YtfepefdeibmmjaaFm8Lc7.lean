/-
  Texts of a proof over the translated program: Fm8Lc7.
-/
import Derived.Test.YtfepefdeibmmjaaFm8LA
set_option maxRecDepth 100000
namespace Go.Proofs.Ytfepefdeibmmjaa
open Go.FM
theorem c7_0 : ([[.md .u8 70 7, .md .u8 3 0]] : List (List HV)).all runs = true := by decide +kernel
theorem c7_1 : ([[.md .u8 70 7, .md .u8 3 1]] : List (List HV)).all runs = true := by decide +kernel
theorem c7_2 : ([[.md .u8 70 7, .md .u8 3 2]] : List (List HV)).all runs = true := by decide +kernel
theorem c7_3 : ([[.md .u8 70 17, .md .u8 3 0]] : List (List HV)).all runs = true := by decide +kernel
theorem c7_4 : ([[.md .u8 70 17, .md .u8 3 1]] : List (List HV)).all runs = true := by decide +kernel
theorem c7_5 : ([[.md .u8 70 17, .md .u8 3 2]] : List (List HV)).all runs = true := by decide +kernel
theorem c7_6 : ([[.md .u8 70 27, .md .u8 3 0]] : List (List HV)).all runs = true := by decide +kernel
theorem c7_7 : ([[.md .u8 70 27, .md .u8 3 1]] : List (List HV)).all runs = true := by decide +kernel
theorem c7_8 : ([[.md .u8 70 27, .md .u8 3 2]] : List (List HV)).all runs = true := by decide +kernel
theorem c7_9 : ([[.md .u8 70 37, .md .u8 3 0]] : List (List HV)).all runs = true := by decide +kernel
theorem c7_10 : ([[.md .u8 70 37, .md .u8 3 1]] : List (List HV)).all runs = true := by decide +kernel
theorem c7_11 : ([[.md .u8 70 37, .md .u8 3 2]] : List (List HV)).all runs = true := by decide +kernel
theorem c7_12 : ([[.md .u8 70 47, .md .u8 3 0]] : List (List HV)).all runs = true := by decide +kernel
theorem c7_13 : ([[.md .u8 70 47, .md .u8 3 1]] : List (List HV)).all runs = true := by decide +kernel
theorem c7_14 : ([[.md .u8 70 47, .md .u8 3 2]] : List (List HV)).all runs = true := by decide +kernel
theorem c7_15 : ([[.md .u8 70 57, .md .u8 3 0]] : List (List HV)).all runs = true := by decide +kernel
theorem c7_16 : ([[.md .u8 70 57, .md .u8 3 1]] : List (List HV)).all runs = true := by decide +kernel
theorem c7_17 : ([[.md .u8 70 57, .md .u8 3 2]] : List (List HV)).all runs = true := by decide +kernel
theorem c7_18 : ([[.md .u8 70 67, .md .u8 3 0]] : List (List HV)).all runs = true := by decide +kernel
theorem c7_19 : ([[.md .u8 70 67, .md .u8 3 1]] : List (List HV)).all runs = true := by decide +kernel
theorem c7_20 : ([[.md .u8 70 67, .md .u8 3 2]] : List (List HV)).all runs = true := by decide +kernel
end Go.Proofs.Ytfepefdeibmmjaa
