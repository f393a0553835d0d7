/-
  Texts of a proof over the translated program: NqZHandles.
-/
import Derived.Test.YtignlmfaoagolaaGreatWNqZw0
import Derived.Test.YtignlmfaoagolaaGreatWNqZw1
import Derived.Test.YtignlmfaoagolaaGreatWNqZw2
import Derived.Test.YtignlmfaoagolaaGreatWNqZw3
import Derived.Test.YtignlmfaoagolaaGreatWNqZw4
import Derived.Test.YtignlmfaoagolaaGreatWNqZK27
import Derived.Test.YtignlmfaoagolaaGreatWNqZB
set_option linter.unusedVariables false
set_option linter.unusedSimpArgs false
set_option linter.unusedSectionVars false
set_option maxRecDepth 100000
namespace Go.Proofs.YtignlmfaoagolaaGreat
open Go.FM
theorem case6 : ∀ r : Nat, r < 5 → runs 24 6 [.md .u8 5 r] = true
  | 0, _ => w0
  | 1, _ => w1
  | 2, _ => w2
  | 3, _ => w3
  | 4, _ => w4
  | n + 5, h => by omega
theorem walk6 {a : Int} (ha : 0 ≤ a ∧ a < 256) (w : World) :
    Calls Tryz.prog 6 #[.int .u8 a] w fun e w' => e = .returned (.bool true) ∧ Go.RowKit.Below w.heap.size w w' := by
  have hr := case6 (a.toNat % 5) (Nat.mod_lt _ (by decide))
  exact (law_fast mixed (extT_ok known24) hr (vs := [.int .u8 a]) (args_cons (arg_md ha.1 (by show a ≤ 255; omega)) args_nil) w).2
end Go.Proofs.YtignlmfaoagolaaGreat
