/-
  Texts of a proof over the translated program: NqZLeaves.
-/
import Derived.Test.YtignlmfaoagolaaGreatWNqZl0
import Derived.Test.YtignlmfaoagolaaGreatWNqZl1
import Derived.Test.YtignlmfaoagolaaGreatWNqZl2
import Derived.Test.YtignlmfaoagolaaGreatWNqZl3
import Derived.Test.YtignlmfaoagolaaGreatWNqZl4
import Derived.Test.YtignlmfaoagolaaGreatWNqZl5
import Derived.Test.YtignlmfaoagolaaGreatWNqZl6
import Derived.Test.YtignlmfaoagolaaGreatWNqZl7
import Derived.Test.YtignlmfaoagolaaGreatWNqZK26
import Derived.Test.YtignlmfaoagolaaGreatWNqZB
set_option linter.unusedVariables false
set_option linter.unusedSimpArgs false
set_option linter.unusedSectionVars false
set_option maxRecDepth 100000
namespace Go.Proofs.YtignlmfaoagolaaGreat
open Go.FM
theorem case3 : ∀ (r p : Nat) (s j : Bool), r < 5 → p < 2 → runs 9 3 [.md .u8 5 r, .agg [.sy .i64 0, .par .i64 p, .bool s, .bool j]] = true
  | 0, 0, false, false, _, _ => l0_0
  | 1, 0, false, false, _, _ => l0_1
  | 2, 0, false, false, _, _ => l0_2
  | 3, 0, false, false, _, _ => l0_3
  | 4, 0, false, false, _, _ => l0_4
  | 0, 0, false, true, _, _ => l4_0
  | 1, 0, false, true, _, _ => l4_1
  | 2, 0, false, true, _, _ => l4_2
  | 3, 0, false, true, _, _ => l4_3
  | 4, 0, false, true, _, _ => l4_4
  | 0, 0, true, false, _, _ => l2_0
  | 1, 0, true, false, _, _ => l2_1
  | 2, 0, true, false, _, _ => l2_2
  | 3, 0, true, false, _, _ => l2_3
  | 4, 0, true, false, _, _ => l2_4
  | 0, 0, true, true, _, _ => l6_0
  | 1, 0, true, true, _, _ => l6_1
  | 2, 0, true, true, _, _ => l6_2
  | 3, 0, true, true, _, _ => l6_3
  | 4, 0, true, true, _, _ => l6_4
  | 0, 1, false, false, _, _ => l1_0
  | 1, 1, false, false, _, _ => l1_1
  | 2, 1, false, false, _, _ => l1_2
  | 3, 1, false, false, _, _ => l1_3
  | 4, 1, false, false, _, _ => l1_4
  | 0, 1, false, true, _, _ => l5_0
  | 1, 1, false, true, _, _ => l5_1
  | 2, 1, false, true, _, _ => l5_2
  | 3, 1, false, true, _, _ => l5_3
  | 4, 1, false, true, _, _ => l5_4
  | 0, 1, true, false, _, _ => l3_0
  | 1, 1, true, false, _, _ => l3_1
  | 2, 1, true, false, _, _ => l3_2
  | 3, 1, true, false, _, _ => l3_3
  | 4, 1, true, false, _, _ => l3_4
  | 0, 1, true, true, _, _ => l7_0
  | 1, 1, true, true, _, _ => l7_1
  | 2, 1, true, true, _, _ => l7_2
  | 3, 1, true, true, _, _ => l7_3
  | 4, 1, true, true, _, _ => l7_4
  | n + 5, _, _, _, h, _ => by omega
  | 0, n + 2, _, _, _, h => by omega
  | 1, n + 2, _, _, _, h => by omega
  | 2, n + 2, _, _, _, h => by omega
  | 3, n + 2, _, _, _, h => by omega
  | 4, n + 2, _, _, _, h => by omega
theorem walk3 {a : Int} {f k : Int} {s j : Bool} (ha : 0 ≤ a ∧ a < 256) (hk : IntKind.i64.min ≤ k ∧ k ≤ IntKind.i64.max) (w : World) :
    Calls Tryz.prog 3 #[.int .u8 a, .agg #[.int .i64 f, .int .i64 k, .bool s, .bool j]] w fun e w' => e = .returned (.bool true) ∧ Go.RowKit.Below w.heap.size w w' := by
  letI : Env := ⟨1, fun _ => f, fun i j hij hj => by omega⟩
  have hr := case3 (a.toNat % 5) (k % 2).toNat s j (Nat.mod_lt _ (by decide)) (by omega)
  have hagg : TRep (fun _ => ⟨0, 1, 0, 0⟩) 0 (.agg [.sy .i64 0, .par .i64 (k % 2).toNat, .bool s, .bool j]) (.agg #[.int .i64 f, .int .i64 k, .bool s, .bool j]) := by
    refine ⟨[.int .i64 f, .int .i64 k, .bool s, .bool j], rfl, rfl, fun i x u hx hu => ?_⟩
    match i with
    | 0 => simp at hx hu; subst hx; subst hu; exact ⟨show CRep _ _ (.sy .i64 0) (.int .i64 f) from ⟨by show 0 < 1; omega, rfl⟩, rfl⟩
    | 1 => simp at hx hu; subst hx; subst hu; exact ⟨arg_par (g := fun _ => ⟨0, 1, 0, 0⟩) (c := 0) hk.1 hk.2, rfl⟩
    | 2 => simp at hx hu; subst hx; subst hu; exact ⟨rfl, rfl⟩
    | 3 => simp at hx hu; subst hx; subst hu; exact ⟨rfl, rfl⟩
    | i + 4 => simp at hx
  exact (law_fast mixed (extT_ok known9) hr (vs := [.int .u8 a, .agg #[.int .i64 f, .int .i64 k, .bool s, .bool j]]) (args_cons (arg_md ha.1 (by show a ≤ 255; omega)) (args_cons hagg args_nil)) w).2
end Go.Proofs.YtignlmfaoagolaaGreat
