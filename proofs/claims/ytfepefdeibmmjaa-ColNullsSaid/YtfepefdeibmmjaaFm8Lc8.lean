/-
  Texts of a proof over the translated program: Fm8Lc8.
-/
import Derived.Test.YtfepefdeibmmjaaFm8LA
set_option maxRecDepth 100000
namespace Go.Proofs.Ytfepefdeibmmjaa
open Go.FM
theorem c8_0 : ([[.md .u8 70 8, .md .u8 3 0]] : List (List HV)).all runs = true := by decide +kernel
theorem c8_1 : ([[.md .u8 70 8, .md .u8 3 1]] : List (List HV)).all runs = true := by decide +kernel
theorem c8_2 : ([[.md .u8 70 8, .md .u8 3 2]] : List (List HV)).all runs = true := by decide +kernel
theorem c8_3 : ([[.md .u8 70 18, .md .u8 3 0]] : List (List HV)).all runs = true := by decide +kernel
theorem c8_4 : ([[.md .u8 70 18, .md .u8 3 1]] : List (List HV)).all runs = true := by decide +kernel
theorem c8_5 : ([[.md .u8 70 18, .md .u8 3 2]] : List (List HV)).all runs = true := by decide +kernel
theorem c8_6 : ([[.md .u8 70 28, .md .u8 3 0]] : List (List HV)).all runs = true := by decide +kernel
theorem c8_7 : ([[.md .u8 70 28, .md .u8 3 1]] : List (List HV)).all runs = true := by decide +kernel
theorem c8_8 : ([[.md .u8 70 28, .md .u8 3 2]] : List (List HV)).all runs = true := by decide +kernel
theorem c8_9 : ([[.md .u8 70 38, .md .u8 3 0]] : List (List HV)).all runs = true := by decide +kernel
theorem c8_10 : ([[.md .u8 70 38, .md .u8 3 1]] : List (List HV)).all runs = true := by decide +kernel
theorem c8_11 : ([[.md .u8 70 38, .md .u8 3 2]] : List (List HV)).all runs = true := by decide +kernel
theorem c8_12 : ([[.md .u8 70 48, .md .u8 3 0]] : List (List HV)).all runs = true := by decide +kernel
theorem c8_13 : ([[.md .u8 70 48, .md .u8 3 1]] : List (List HV)).all runs = true := by decide +kernel
theorem c8_14 : ([[.md .u8 70 48, .md .u8 3 2]] : List (List HV)).all runs = true := by decide +kernel
theorem c8_15 : ([[.md .u8 70 58, .md .u8 3 0]] : List (List HV)).all runs = true := by decide +kernel
theorem c8_16 : ([[.md .u8 70 58, .md .u8 3 1]] : List (List HV)).all runs = true := by decide +kernel
theorem c8_17 : ([[.md .u8 70 58, .md .u8 3 2]] : List (List HV)).all runs = true := by decide +kernel
theorem c8_18 : ([[.md .u8 70 68, .md .u8 3 0]] : List (List HV)).all runs = true := by decide +kernel
theorem c8_19 : ([[.md .u8 70 68, .md .u8 3 1]] : List (List HV)).all runs = true := by decide +kernel
theorem c8_20 : ([[.md .u8 70 68, .md .u8 3 2]] : List (List HV)).all runs = true := by decide +kernel
end Go.Proofs.Ytfepefdeibmmjaa
