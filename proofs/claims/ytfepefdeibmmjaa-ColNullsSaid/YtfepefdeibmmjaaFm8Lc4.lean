/-
  Texts of a proof over the translated program: Fm8Lc4.
-/
import Derived.Test.YtfepefdeibmmjaaFm8LA
set_option maxRecDepth 100000
namespace Go.Proofs.Ytfepefdeibmmjaa
open Go.FM
theorem c4_0 : ([[.md .u8 70 4, .md .u8 3 0]] : List (List HV)).all runs = true := by decide +kernel
theorem c4_1 : ([[.md .u8 70 4, .md .u8 3 1]] : List (List HV)).all runs = true := by decide +kernel
theorem c4_2 : ([[.md .u8 70 4, .md .u8 3 2]] : List (List HV)).all runs = true := by decide +kernel
theorem c4_3 : ([[.md .u8 70 14, .md .u8 3 0]] : List (List HV)).all runs = true := by decide +kernel
theorem c4_4 : ([[.md .u8 70 14, .md .u8 3 1]] : List (List HV)).all runs = true := by decide +kernel
theorem c4_5 : ([[.md .u8 70 14, .md .u8 3 2]] : List (List HV)).all runs = true := by decide +kernel
theorem c4_6 : ([[.md .u8 70 24, .md .u8 3 0]] : List (List HV)).all runs = true := by decide +kernel
theorem c4_7 : ([[.md .u8 70 24, .md .u8 3 1]] : List (List HV)).all runs = true := by decide +kernel
theorem c4_8 : ([[.md .u8 70 24, .md .u8 3 2]] : List (List HV)).all runs = true := by decide +kernel
theorem c4_9 : ([[.md .u8 70 34, .md .u8 3 0]] : List (List HV)).all runs = true := by decide +kernel
theorem c4_10 : ([[.md .u8 70 34, .md .u8 3 1]] : List (List HV)).all runs = true := by decide +kernel
theorem c4_11 : ([[.md .u8 70 34, .md .u8 3 2]] : List (List HV)).all runs = true := by decide +kernel
theorem c4_12 : ([[.md .u8 70 44, .md .u8 3 0]] : List (List HV)).all runs = true := by decide +kernel
theorem c4_13 : ([[.md .u8 70 44, .md .u8 3 1]] : List (List HV)).all runs = true := by decide +kernel
theorem c4_14 : ([[.md .u8 70 44, .md .u8 3 2]] : List (List HV)).all runs = true := by decide +kernel
theorem c4_15 : ([[.md .u8 70 54, .md .u8 3 0]] : List (List HV)).all runs = true := by decide +kernel
theorem c4_16 : ([[.md .u8 70 54, .md .u8 3 1]] : List (List HV)).all runs = true := by decide +kernel
theorem c4_17 : ([[.md .u8 70 54, .md .u8 3 2]] : List (List HV)).all runs = true := by decide +kernel
theorem c4_18 : ([[.md .u8 70 64, .md .u8 3 0]] : List (List HV)).all runs = true := by decide +kernel
theorem c4_19 : ([[.md .u8 70 64, .md .u8 3 1]] : List (List HV)).all runs = true := by decide +kernel
theorem c4_20 : ([[.md .u8 70 64, .md .u8 3 2]] : List (List HV)).all runs = true := by decide +kernel
end Go.Proofs.Ytfepefdeibmmjaa
