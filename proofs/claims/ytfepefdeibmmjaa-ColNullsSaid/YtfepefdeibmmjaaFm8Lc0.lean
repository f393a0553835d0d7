/-
  Texts of a proof over the translated program: Fm8Lc0.
-/
import Derived.Test.YtfepefdeibmmjaaFm8LA
set_option maxRecDepth 100000
namespace Go.Proofs.Ytfepefdeibmmjaa
open Go.FM
theorem c0_0 : ([[.md .u8 70 0, .md .u8 3 0]] : List (List HV)).all runs = true := by decide +kernel
theorem c0_1 : ([[.md .u8 70 0, .md .u8 3 1]] : List (List HV)).all runs = true := by decide +kernel
theorem c0_2 : ([[.md .u8 70 0, .md .u8 3 2]] : List (List HV)).all runs = true := by decide +kernel
theorem c0_3 : ([[.md .u8 70 10, .md .u8 3 0]] : List (List HV)).all runs = true := by decide +kernel
theorem c0_4 : ([[.md .u8 70 10, .md .u8 3 1]] : List (List HV)).all runs = true := by decide +kernel
theorem c0_5 : ([[.md .u8 70 10, .md .u8 3 2]] : List (List HV)).all runs = true := by decide +kernel
theorem c0_6 : ([[.md .u8 70 20, .md .u8 3 0]] : List (List HV)).all runs = true := by decide +kernel
theorem c0_7 : ([[.md .u8 70 20, .md .u8 3 1]] : List (List HV)).all runs = true := by decide +kernel
theorem c0_8 : ([[.md .u8 70 20, .md .u8 3 2]] : List (List HV)).all runs = true := by decide +kernel
theorem c0_9 : ([[.md .u8 70 30, .md .u8 3 0]] : List (List HV)).all runs = true := by decide +kernel
theorem c0_10 : ([[.md .u8 70 30, .md .u8 3 1]] : List (List HV)).all runs = true := by decide +kernel
theorem c0_11 : ([[.md .u8 70 30, .md .u8 3 2]] : List (List HV)).all runs = true := by decide +kernel
theorem c0_12 : ([[.md .u8 70 40, .md .u8 3 0]] : List (List HV)).all runs = true := by decide +kernel
theorem c0_13 : ([[.md .u8 70 40, .md .u8 3 1]] : List (List HV)).all runs = true := by decide +kernel
theorem c0_14 : ([[.md .u8 70 40, .md .u8 3 2]] : List (List HV)).all runs = true := by decide +kernel
theorem c0_15 : ([[.md .u8 70 50, .md .u8 3 0]] : List (List HV)).all runs = true := by decide +kernel
theorem c0_16 : ([[.md .u8 70 50, .md .u8 3 1]] : List (List HV)).all runs = true := by decide +kernel
theorem c0_17 : ([[.md .u8 70 50, .md .u8 3 2]] : List (List HV)).all runs = true := by decide +kernel
theorem c0_18 : ([[.md .u8 70 60, .md .u8 3 0]] : List (List HV)).all runs = true := by decide +kernel
theorem c0_19 : ([[.md .u8 70 60, .md .u8 3 1]] : List (List HV)).all runs = true := by decide +kernel
theorem c0_20 : ([[.md .u8 70 60, .md .u8 3 2]] : List (List HV)).all runs = true := by decide +kernel
end Go.Proofs.Ytfepefdeibmmjaa
