/-
  Texts of a proof over the translated program: Fm8Lc5.
-/
import Derived.Test.YtfepefdeibmmjaaFm8LA
set_option maxRecDepth 100000
namespace Go.Proofs.Ytfepefdeibmmjaa
open Go.FM
theorem c5_0 : ([[.md .u8 70 5, .md .u8 3 0]] : List (List HV)).all runs = true := by decide +kernel
theorem c5_1 : ([[.md .u8 70 5, .md .u8 3 1]] : List (List HV)).all runs = true := by decide +kernel
theorem c5_2 : ([[.md .u8 70 5, .md .u8 3 2]] : List (List HV)).all runs = true := by decide +kernel
theorem c5_3 : ([[.md .u8 70 15, .md .u8 3 0]] : List (List HV)).all runs = true := by decide +kernel
theorem c5_4 : ([[.md .u8 70 15, .md .u8 3 1]] : List (List HV)).all runs = true := by decide +kernel
theorem c5_5 : ([[.md .u8 70 15, .md .u8 3 2]] : List (List HV)).all runs = true := by decide +kernel
theorem c5_6 : ([[.md .u8 70 25, .md .u8 3 0]] : List (List HV)).all runs = true := by decide +kernel
theorem c5_7 : ([[.md .u8 70 25, .md .u8 3 1]] : List (List HV)).all runs = true := by decide +kernel
theorem c5_8 : ([[.md .u8 70 25, .md .u8 3 2]] : List (List HV)).all runs = true := by decide +kernel
theorem c5_9 : ([[.md .u8 70 35, .md .u8 3 0]] : List (List HV)).all runs = true := by decide +kernel
theorem c5_10 : ([[.md .u8 70 35, .md .u8 3 1]] : List (List HV)).all runs = true := by decide +kernel
theorem c5_11 : ([[.md .u8 70 35, .md .u8 3 2]] : List (List HV)).all runs = true := by decide +kernel
theorem c5_12 : ([[.md .u8 70 45, .md .u8 3 0]] : List (List HV)).all runs = true := by decide +kernel
theorem c5_13 : ([[.md .u8 70 45, .md .u8 3 1]] : List (List HV)).all runs = true := by decide +kernel
theorem c5_14 : ([[.md .u8 70 45, .md .u8 3 2]] : List (List HV)).all runs = true := by decide +kernel
theorem c5_15 : ([[.md .u8 70 55, .md .u8 3 0]] : List (List HV)).all runs = true := by decide +kernel
theorem c5_16 : ([[.md .u8 70 55, .md .u8 3 1]] : List (List HV)).all runs = true := by decide +kernel
theorem c5_17 : ([[.md .u8 70 55, .md .u8 3 2]] : List (List HV)).all runs = true := by decide +kernel
theorem c5_18 : ([[.md .u8 70 65, .md .u8 3 0]] : List (List HV)).all runs = true := by decide +kernel
theorem c5_19 : ([[.md .u8 70 65, .md .u8 3 1]] : List (List HV)).all runs = true := by decide +kernel
theorem c5_20 : ([[.md .u8 70 65, .md .u8 3 2]] : List (List HV)).all runs = true := by decide +kernel
end Go.Proofs.Ytfepefdeibmmjaa
