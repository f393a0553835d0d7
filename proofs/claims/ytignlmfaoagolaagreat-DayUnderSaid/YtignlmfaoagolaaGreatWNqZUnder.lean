/-
  Texts of a proof over the translated program: NqZUnder.
-/
import Derived.Test.YtignlmfaoagolaaGreatWNqZu0
import Derived.Test.YtignlmfaoagolaaGreatWNqZu1
import Derived.Test.YtignlmfaoagolaaGreatWNqZu2
import Derived.Test.YtignlmfaoagolaaGreatWNqZu3
import Derived.Test.YtignlmfaoagolaaGreatWNqZu4
import Derived.Test.YtignlmfaoagolaaGreatWNqZu5
import Derived.Test.YtignlmfaoagolaaGreatWNqZu6
import Derived.Test.YtignlmfaoagolaaGreatWNqZu7
import Derived.Test.YtignlmfaoagolaaGreatWNqZK28
import Derived.Test.YtignlmfaoagolaaGreatWNqZB
set_option linter.unusedVariables false
set_option linter.unusedSimpArgs false
set_option linter.unusedSectionVars false
set_option maxRecDepth 100000
namespace Go.Proofs.YtignlmfaoagolaaGreat
open Go.FM
theorem case8 : ∀ (r : Nat) (b : Bool), r < 8 → runs 33 8 [.md .u8 8 r, .bool b] = true
  | 0, true, _ => u0_true
  | 0, false, _ => u0_false
  | 1, true, _ => u1_true
  | 1, false, _ => u1_false
  | 2, true, _ => u2_true
  | 2, false, _ => u2_false
  | 3, true, _ => u3_true
  | 3, false, _ => u3_false
  | 4, true, _ => u4_true
  | 4, false, _ => u4_false
  | 5, true, _ => u5_true
  | 5, false, _ => u5_false
  | 6, true, _ => u6_true
  | 6, false, _ => u6_false
  | 7, true, _ => u7_true
  | 7, false, _ => u7_false
  | n + 8, _, h => by omega
theorem walk8 {a : Int} {b : Bool} (ha : 0 ≤ a ∧ a < 256) (w : World) :
    Calls Tryz.prog 8 #[.int .u8 a, .bool b] w fun e w' => e = .returned (.bool true) ∧ Go.RowKit.Below w.heap.size w w' := by
  have hr := case8 (a.toNat % 8) b (Nat.mod_lt _ (by decide))
  exact (law_fast mixed (extT_ok known33) hr (vs := [.int .u8 a, .bool b]) (args_cons (arg_md ha.1 (by show a ≤ 255; omega)) (args_cons arg_bool args_nil)) w).2
end Go.Proofs.YtignlmfaoagolaaGreat
