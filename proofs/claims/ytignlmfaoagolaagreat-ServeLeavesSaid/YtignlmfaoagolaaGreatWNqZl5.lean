/-
  Texts of a proof over the translated program: NqZl5.
-/
import Derived.Test.YtignlmfaoagolaaGreatWNqZR
set_option linter.unusedVariables false
set_option linter.unusedSimpArgs false
set_option linter.unusedSectionVars false
set_option maxRecDepth 100000
namespace Go.Proofs.YtignlmfaoagolaaGreat
open Go.FM
theorem l5_0 : runs 9 3 [.md .u8 5 0, .agg [.sy .i64 0, .par .i64 1, .bool false, .bool true]] = true := by decide +kernel
theorem l5_1 : runs 9 3 [.md .u8 5 1, .agg [.sy .i64 0, .par .i64 1, .bool false, .bool true]] = true := by decide +kernel
theorem l5_2 : runs 9 3 [.md .u8 5 2, .agg [.sy .i64 0, .par .i64 1, .bool false, .bool true]] = true := by decide +kernel
theorem l5_3 : runs 9 3 [.md .u8 5 3, .agg [.sy .i64 0, .par .i64 1, .bool false, .bool true]] = true := by decide +kernel
theorem l5_4 : runs 9 3 [.md .u8 5 4, .agg [.sy .i64 0, .par .i64 1, .bool false, .bool true]] = true := by decide +kernel
end Go.Proofs.YtignlmfaoagolaaGreat
