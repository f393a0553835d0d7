/-
  Texts of a proof over the translated program: Fm8Lc2.
-/
import Derived.Test.YtfepefdeibmmjaaFm8LA
set_option maxRecDepth 100000
namespace Go.Proofs.Ytfepefdeibmmjaa
open Go.FM
theorem c2_0 : ([[.md .u8 70 2, .md .u8 3 0]] : List (List HV)).all runs = true := by decide +kernel
theorem c2_1 : ([[.md .u8 70 2, .md .u8 3 1]] : List (List HV)).all runs = true := by decide +kernel
theorem c2_2 : ([[.md .u8 70 2, .md .u8 3 2]] : List (List HV)).all runs = true := by decide +kernel
theorem c2_3 : ([[.md .u8 70 12, .md .u8 3 0]] : List (List HV)).all runs = true := by decide +kernel
theorem c2_4 : ([[.md .u8 70 12, .md .u8 3 1]] : List (List HV)).all runs = true := by decide +kernel
theorem c2_5 : ([[.md .u8 70 12, .md .u8 3 2]] : List (List HV)).all runs = true := by decide +kernel
theorem c2_6 : ([[.md .u8 70 22, .md .u8 3 0]] : List (List HV)).all runs = true := by decide +kernel
theorem c2_7 : ([[.md .u8 70 22, .md .u8 3 1]] : List (List HV)).all runs = true := by decide +kernel
theorem c2_8 : ([[.md .u8 70 22, .md .u8 3 2]] : List (List HV)).all runs = true := by decide +kernel
theorem c2_9 : ([[.md .u8 70 32, .md .u8 3 0]] : List (List HV)).all runs = true := by decide +kernel
theorem c2_10 : ([[.md .u8 70 32, .md .u8 3 1]] : List (List HV)).all runs = true := by decide +kernel
theorem c2_11 : ([[.md .u8 70 32, .md .u8 3 2]] : List (List HV)).all runs = true := by decide +kernel
theorem c2_12 : ([[.md .u8 70 42, .md .u8 3 0]] : List (List HV)).all runs = true := by decide +kernel
theorem c2_13 : ([[.md .u8 70 42, .md .u8 3 1]] : List (List HV)).all runs = true := by decide +kernel
theorem c2_14 : ([[.md .u8 70 42, .md .u8 3 2]] : List (List HV)).all runs = true := by decide +kernel
theorem c2_15 : ([[.md .u8 70 52, .md .u8 3 0]] : List (List HV)).all runs = true := by decide +kernel
theorem c2_16 : ([[.md .u8 70 52, .md .u8 3 1]] : List (List HV)).all runs = true := by decide +kernel
theorem c2_17 : ([[.md .u8 70 52, .md .u8 3 2]] : List (List HV)).all runs = true := by decide +kernel
theorem c2_18 : ([[.md .u8 70 62, .md .u8 3 0]] : List (List HV)).all runs = true := by decide +kernel
theorem c2_19 : ([[.md .u8 70 62, .md .u8 3 1]] : List (List HV)).all runs = true := by decide +kernel
theorem c2_20 : ([[.md .u8 70 62, .md .u8 3 2]] : List (List HV)).all runs = true := by decide +kernel
end Go.Proofs.Ytfepefdeibmmjaa
