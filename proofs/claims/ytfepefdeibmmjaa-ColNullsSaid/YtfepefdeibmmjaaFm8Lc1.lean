/-
  Texts of a proof over the translated program: Fm8Lc1.
-/
import Derived.Test.YtfepefdeibmmjaaFm8LA
set_option maxRecDepth 100000
namespace Go.Proofs.Ytfepefdeibmmjaa
open Go.FM
theorem c1_0 : ([[.md .u8 70 1, .md .u8 3 0]] : List (List HV)).all runs = true := by decide +kernel
theorem c1_1 : ([[.md .u8 70 1, .md .u8 3 1]] : List (List HV)).all runs = true := by decide +kernel
theorem c1_2 : ([[.md .u8 70 1, .md .u8 3 2]] : List (List HV)).all runs = true := by decide +kernel
theorem c1_3 : ([[.md .u8 70 11, .md .u8 3 0]] : List (List HV)).all runs = true := by decide +kernel
theorem c1_4 : ([[.md .u8 70 11, .md .u8 3 1]] : List (List HV)).all runs = true := by decide +kernel
theorem c1_5 : ([[.md .u8 70 11, .md .u8 3 2]] : List (List HV)).all runs = true := by decide +kernel
theorem c1_6 : ([[.md .u8 70 21, .md .u8 3 0]] : List (List HV)).all runs = true := by decide +kernel
theorem c1_7 : ([[.md .u8 70 21, .md .u8 3 1]] : List (List HV)).all runs = true := by decide +kernel
theorem c1_8 : ([[.md .u8 70 21, .md .u8 3 2]] : List (List HV)).all runs = true := by decide +kernel
theorem c1_9 : ([[.md .u8 70 31, .md .u8 3 0]] : List (List HV)).all runs = true := by decide +kernel
theorem c1_10 : ([[.md .u8 70 31, .md .u8 3 1]] : List (List HV)).all runs = true := by decide +kernel
theorem c1_11 : ([[.md .u8 70 31, .md .u8 3 2]] : List (List HV)).all runs = true := by decide +kernel
theorem c1_12 : ([[.md .u8 70 41, .md .u8 3 0]] : List (List HV)).all runs = true := by decide +kernel
theorem c1_13 : ([[.md .u8 70 41, .md .u8 3 1]] : List (List HV)).all runs = true := by decide +kernel
theorem c1_14 : ([[.md .u8 70 41, .md .u8 3 2]] : List (List HV)).all runs = true := by decide +kernel
theorem c1_15 : ([[.md .u8 70 51, .md .u8 3 0]] : List (List HV)).all runs = true := by decide +kernel
theorem c1_16 : ([[.md .u8 70 51, .md .u8 3 1]] : List (List HV)).all runs = true := by decide +kernel
theorem c1_17 : ([[.md .u8 70 51, .md .u8 3 2]] : List (List HV)).all runs = true := by decide +kernel
theorem c1_18 : ([[.md .u8 70 61, .md .u8 3 0]] : List (List HV)).all runs = true := by decide +kernel
theorem c1_19 : ([[.md .u8 70 61, .md .u8 3 1]] : List (List HV)).all runs = true := by decide +kernel
theorem c1_20 : ([[.md .u8 70 61, .md .u8 3 2]] : List (List HV)).all runs = true := by decide +kernel
end Go.Proofs.Ytfepefdeibmmjaa
