/-
  Texts of a proof over the translated program: Fm8Lc3.
-/
import Derived.Test.YtfepefdeibmmjaaFm8LA
set_option maxRecDepth 100000
namespace Go.Proofs.Ytfepefdeibmmjaa
open Go.FM
theorem c3_0 : ([[.md .u8 70 3, .md .u8 3 0]] : List (List HV)).all runs = true := by decide +kernel
theorem c3_1 : ([[.md .u8 70 3, .md .u8 3 1]] : List (List HV)).all runs = true := by decide +kernel
theorem c3_2 : ([[.md .u8 70 3, .md .u8 3 2]] : List (List HV)).all runs = true := by decide +kernel
theorem c3_3 : ([[.md .u8 70 13, .md .u8 3 0]] : List (List HV)).all runs = true := by decide +kernel
theorem c3_4 : ([[.md .u8 70 13, .md .u8 3 1]] : List (List HV)).all runs = true := by decide +kernel
theorem c3_5 : ([[.md .u8 70 13, .md .u8 3 2]] : List (List HV)).all runs = true := by decide +kernel
theorem c3_6 : ([[.md .u8 70 23, .md .u8 3 0]] : List (List HV)).all runs = true := by decide +kernel
theorem c3_7 : ([[.md .u8 70 23, .md .u8 3 1]] : List (List HV)).all runs = true := by decide +kernel
theorem c3_8 : ([[.md .u8 70 23, .md .u8 3 2]] : List (List HV)).all runs = true := by decide +kernel
theorem c3_9 : ([[.md .u8 70 33, .md .u8 3 0]] : List (List HV)).all runs = true := by decide +kernel
theorem c3_10 : ([[.md .u8 70 33, .md .u8 3 1]] : List (List HV)).all runs = true := by decide +kernel
theorem c3_11 : ([[.md .u8 70 33, .md .u8 3 2]] : List (List HV)).all runs = true := by decide +kernel
theorem c3_12 : ([[.md .u8 70 43, .md .u8 3 0]] : List (List HV)).all runs = true := by decide +kernel
theorem c3_13 : ([[.md .u8 70 43, .md .u8 3 1]] : List (List HV)).all runs = true := by decide +kernel
theorem c3_14 : ([[.md .u8 70 43, .md .u8 3 2]] : List (List HV)).all runs = true := by decide +kernel
theorem c3_15 : ([[.md .u8 70 53, .md .u8 3 0]] : List (List HV)).all runs = true := by decide +kernel
theorem c3_16 : ([[.md .u8 70 53, .md .u8 3 1]] : List (List HV)).all runs = true := by decide +kernel
theorem c3_17 : ([[.md .u8 70 53, .md .u8 3 2]] : List (List HV)).all runs = true := by decide +kernel
theorem c3_18 : ([[.md .u8 70 63, .md .u8 3 0]] : List (List HV)).all runs = true := by decide +kernel
theorem c3_19 : ([[.md .u8 70 63, .md .u8 3 1]] : List (List HV)).all runs = true := by decide +kernel
theorem c3_20 : ([[.md .u8 70 63, .md .u8 3 2]] : List (List HV)).all runs = true := by decide +kernel
end Go.Proofs.Ytfepefdeibmmjaa
