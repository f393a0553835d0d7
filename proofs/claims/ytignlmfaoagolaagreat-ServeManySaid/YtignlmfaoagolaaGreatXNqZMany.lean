/-
  Texts of a proof over the translated program: NqZMany.
-/
import Derived.Test.YtignlmfaoagolaaGreatXNqZm0
import Derived.Test.YtignlmfaoagolaaGreatXNqZm1
import Derived.Test.YtignlmfaoagolaaGreatXNqZm2
import Derived.Test.YtignlmfaoagolaaGreatXNqZm3
import Derived.Test.YtignlmfaoagolaaGreatXNqZm4
import Derived.Test.YtignlmfaoagolaaGreatXNqZm5
import Derived.Test.YtignlmfaoagolaaGreatXNqZm6
import Derived.Test.YtignlmfaoagolaaGreatXNqZm7
import Derived.Test.YtignlmfaoagolaaGreatXNqZm8
import Derived.Test.YtignlmfaoagolaaGreatXNqZm9
import Derived.Test.YtignlmfaoagolaaGreatXNqZm10
import Derived.Test.YtignlmfaoagolaaGreatXNqZm11
import Derived.Test.YtignlmfaoagolaaGreatXNqZm12
import Derived.Test.YtignlmfaoagolaaGreatXNqZm13
import Derived.Test.YtignlmfaoagolaaGreatXNqZm14
import Derived.Test.YtignlmfaoagolaaGreatXNqZm15
import Derived.Test.YtignlmfaoagolaaGreatXNqZm16
import Derived.Test.YtignlmfaoagolaaGreatXNqZm17
import Derived.Test.YtignlmfaoagolaaGreatXNqZm18
import Derived.Test.YtignlmfaoagolaaGreatXNqZm19
import Derived.Test.YtignlmfaoagolaaGreatXNqZK26
import Derived.Test.YtignlmfaoagolaaGreatXNqZB
set_option linter.unusedVariables false
set_option linter.unusedSimpArgs false
set_option linter.unusedSectionVars false
set_option maxRecDepth 100000
namespace Go.Proofs.YtignlmfaoagolaaGreat
open Go.FM
abbrev Ix := Nat × Nat
theorem at_row {k a n : Nat} (h : (((List.range' a n).map fun j => (k, j)).map mk).all (runs 9 4) = true) {j : Nat} (h1 : a ≤ j) (h2 : j < a + n) : runs 9 4 (mk (k, j)) = true :=
  List.all_eq_true.1 h _ (List.mem_map_of_mem (List.mem_map_of_mem (List.mem_range'_1.2 ⟨h1, h2⟩)))
theorem row0 {j : Nat} (h : j < 20) : runs 9 4 (mk (0, j)) = true := by
  by_cases h0 : j < 5
  · exact at_row m0_0 (by omega) (by omega)
  by_cases h1 : j < 9
  · exact at_row m0_1 (by omega) (by omega)
  by_cases h2 : j < 12
  · exact at_row m0_2 (by omega) (by omega)
  by_cases h3 : j < 15
  · exact at_row m0_3 (by omega) (by omega)
  by_cases h4 : j < 18
  · exact at_row m0_4 (by omega) (by omega)
  exact at_row m0_5 (by omega) (by omega)
theorem row1 {j : Nat} (h : j < 20) : runs 9 4 (mk (1, j)) = true := by
  by_cases h0 : j < 5
  · exact at_row m1_0 (by omega) (by omega)
  by_cases h1 : j < 9
  · exact at_row m1_1 (by omega) (by omega)
  by_cases h2 : j < 12
  · exact at_row m1_2 (by omega) (by omega)
  by_cases h3 : j < 15
  · exact at_row m1_3 (by omega) (by omega)
  by_cases h4 : j < 18
  · exact at_row m1_4 (by omega) (by omega)
  exact at_row m1_5 (by omega) (by omega)
theorem row2 {j : Nat} (h : j < 20) : runs 9 4 (mk (2, j)) = true := by
  by_cases h0 : j < 5
  · exact at_row m2_0 (by omega) (by omega)
  by_cases h1 : j < 9
  · exact at_row m2_1 (by omega) (by omega)
  by_cases h2 : j < 12
  · exact at_row m2_2 (by omega) (by omega)
  by_cases h3 : j < 15
  · exact at_row m2_3 (by omega) (by omega)
  by_cases h4 : j < 18
  · exact at_row m2_4 (by omega) (by omega)
  exact at_row m2_5 (by omega) (by omega)
theorem row3 {j : Nat} (h : j < 20) : runs 9 4 (mk (3, j)) = true := by
  by_cases h0 : j < 5
  · exact at_row m3_0 (by omega) (by omega)
  by_cases h1 : j < 9
  · exact at_row m3_1 (by omega) (by omega)
  by_cases h2 : j < 12
  · exact at_row m3_2 (by omega) (by omega)
  by_cases h3 : j < 15
  · exact at_row m3_3 (by omega) (by omega)
  by_cases h4 : j < 18
  · exact at_row m3_4 (by omega) (by omega)
  exact at_row m3_5 (by omega) (by omega)
theorem row4 {j : Nat} (h : j < 20) : runs 9 4 (mk (4, j)) = true := by
  by_cases h0 : j < 5
  · exact at_row m4_0 (by omega) (by omega)
  by_cases h1 : j < 9
  · exact at_row m4_1 (by omega) (by omega)
  by_cases h2 : j < 12
  · exact at_row m4_2 (by omega) (by omega)
  by_cases h3 : j < 15
  · exact at_row m4_3 (by omega) (by omega)
  by_cases h4 : j < 18
  · exact at_row m4_4 (by omega) (by omega)
  exact at_row m4_5 (by omega) (by omega)
theorem row5 {j : Nat} (h : j < 20) : runs 9 4 (mk (5, j)) = true := by
  by_cases h0 : j < 5
  · exact at_row m5_0 (by omega) (by omega)
  by_cases h1 : j < 9
  · exact at_row m5_1 (by omega) (by omega)
  by_cases h2 : j < 12
  · exact at_row m5_2 (by omega) (by omega)
  by_cases h3 : j < 15
  · exact at_row m5_3 (by omega) (by omega)
  by_cases h4 : j < 18
  · exact at_row m5_4 (by omega) (by omega)
  exact at_row m5_5 (by omega) (by omega)
theorem row6 {j : Nat} (h : j < 20) : runs 9 4 (mk (6, j)) = true := by
  by_cases h0 : j < 5
  · exact at_row m6_0 (by omega) (by omega)
  by_cases h1 : j < 9
  · exact at_row m6_1 (by omega) (by omega)
  by_cases h2 : j < 12
  · exact at_row m6_2 (by omega) (by omega)
  by_cases h3 : j < 15
  · exact at_row m6_3 (by omega) (by omega)
  by_cases h4 : j < 18
  · exact at_row m6_4 (by omega) (by omega)
  exact at_row m6_5 (by omega) (by omega)
theorem row7 {j : Nat} (h : j < 20) : runs 9 4 (mk (7, j)) = true := by
  by_cases h0 : j < 5
  · exact at_row m7_0 (by omega) (by omega)
  by_cases h1 : j < 9
  · exact at_row m7_1 (by omega) (by omega)
  by_cases h2 : j < 12
  · exact at_row m7_2 (by omega) (by omega)
  by_cases h3 : j < 15
  · exact at_row m7_3 (by omega) (by omega)
  by_cases h4 : j < 18
  · exact at_row m7_4 (by omega) (by omega)
  exact at_row m7_5 (by omega) (by omega)
theorem row8 {j : Nat} (h : j < 20) : runs 9 4 (mk (8, j)) = true := by
  by_cases h0 : j < 5
  · exact at_row m8_0 (by omega) (by omega)
  by_cases h1 : j < 9
  · exact at_row m8_1 (by omega) (by omega)
  by_cases h2 : j < 12
  · exact at_row m8_2 (by omega) (by omega)
  by_cases h3 : j < 15
  · exact at_row m8_3 (by omega) (by omega)
  by_cases h4 : j < 18
  · exact at_row m8_4 (by omega) (by omega)
  exact at_row m8_5 (by omega) (by omega)
theorem row9 {j : Nat} (h : j < 20) : runs 9 4 (mk (9, j)) = true := by
  by_cases h0 : j < 5
  · exact at_row m9_0 (by omega) (by omega)
  by_cases h1 : j < 9
  · exact at_row m9_1 (by omega) (by omega)
  by_cases h2 : j < 12
  · exact at_row m9_2 (by omega) (by omega)
  by_cases h3 : j < 15
  · exact at_row m9_3 (by omega) (by omega)
  by_cases h4 : j < 18
  · exact at_row m9_4 (by omega) (by omega)
  exact at_row m9_5 (by omega) (by omega)
theorem row10 {j : Nat} (h : j < 20) : runs 9 4 (mk (10, j)) = true := by
  by_cases h0 : j < 5
  · exact at_row m10_0 (by omega) (by omega)
  by_cases h1 : j < 9
  · exact at_row m10_1 (by omega) (by omega)
  by_cases h2 : j < 12
  · exact at_row m10_2 (by omega) (by omega)
  by_cases h3 : j < 15
  · exact at_row m10_3 (by omega) (by omega)
  by_cases h4 : j < 18
  · exact at_row m10_4 (by omega) (by omega)
  exact at_row m10_5 (by omega) (by omega)
theorem row11 {j : Nat} (h : j < 20) : runs 9 4 (mk (11, j)) = true := by
  by_cases h0 : j < 5
  · exact at_row m11_0 (by omega) (by omega)
  by_cases h1 : j < 9
  · exact at_row m11_1 (by omega) (by omega)
  by_cases h2 : j < 12
  · exact at_row m11_2 (by omega) (by omega)
  by_cases h3 : j < 15
  · exact at_row m11_3 (by omega) (by omega)
  by_cases h4 : j < 18
  · exact at_row m11_4 (by omega) (by omega)
  exact at_row m11_5 (by omega) (by omega)
theorem row12 {j : Nat} (h : j < 20) : runs 9 4 (mk (12, j)) = true := by
  by_cases h0 : j < 5
  · exact at_row m12_0 (by omega) (by omega)
  by_cases h1 : j < 9
  · exact at_row m12_1 (by omega) (by omega)
  by_cases h2 : j < 12
  · exact at_row m12_2 (by omega) (by omega)
  by_cases h3 : j < 15
  · exact at_row m12_3 (by omega) (by omega)
  by_cases h4 : j < 18
  · exact at_row m12_4 (by omega) (by omega)
  exact at_row m12_5 (by omega) (by omega)
theorem row13 {j : Nat} (h : j < 20) : runs 9 4 (mk (13, j)) = true := by
  by_cases h0 : j < 5
  · exact at_row m13_0 (by omega) (by omega)
  by_cases h1 : j < 9
  · exact at_row m13_1 (by omega) (by omega)
  by_cases h2 : j < 12
  · exact at_row m13_2 (by omega) (by omega)
  by_cases h3 : j < 15
  · exact at_row m13_3 (by omega) (by omega)
  by_cases h4 : j < 18
  · exact at_row m13_4 (by omega) (by omega)
  exact at_row m13_5 (by omega) (by omega)
theorem row14 {j : Nat} (h : j < 20) : runs 9 4 (mk (14, j)) = true := by
  by_cases h0 : j < 5
  · exact at_row m14_0 (by omega) (by omega)
  by_cases h1 : j < 9
  · exact at_row m14_1 (by omega) (by omega)
  by_cases h2 : j < 12
  · exact at_row m14_2 (by omega) (by omega)
  by_cases h3 : j < 15
  · exact at_row m14_3 (by omega) (by omega)
  by_cases h4 : j < 18
  · exact at_row m14_4 (by omega) (by omega)
  exact at_row m14_5 (by omega) (by omega)
theorem row15 {j : Nat} (h : j < 20) : runs 9 4 (mk (15, j)) = true := by
  by_cases h0 : j < 5
  · exact at_row m15_0 (by omega) (by omega)
  by_cases h1 : j < 9
  · exact at_row m15_1 (by omega) (by omega)
  by_cases h2 : j < 12
  · exact at_row m15_2 (by omega) (by omega)
  by_cases h3 : j < 15
  · exact at_row m15_3 (by omega) (by omega)
  by_cases h4 : j < 18
  · exact at_row m15_4 (by omega) (by omega)
  exact at_row m15_5 (by omega) (by omega)
theorem row16 {j : Nat} (h : j < 20) : runs 9 4 (mk (16, j)) = true := by
  by_cases h0 : j < 5
  · exact at_row m16_0 (by omega) (by omega)
  by_cases h1 : j < 9
  · exact at_row m16_1 (by omega) (by omega)
  by_cases h2 : j < 12
  · exact at_row m16_2 (by omega) (by omega)
  by_cases h3 : j < 15
  · exact at_row m16_3 (by omega) (by omega)
  by_cases h4 : j < 18
  · exact at_row m16_4 (by omega) (by omega)
  exact at_row m16_5 (by omega) (by omega)
theorem row17 {j : Nat} (h : j < 20) : runs 9 4 (mk (17, j)) = true := by
  by_cases h0 : j < 5
  · exact at_row m17_0 (by omega) (by omega)
  by_cases h1 : j < 9
  · exact at_row m17_1 (by omega) (by omega)
  by_cases h2 : j < 12
  · exact at_row m17_2 (by omega) (by omega)
  by_cases h3 : j < 15
  · exact at_row m17_3 (by omega) (by omega)
  by_cases h4 : j < 18
  · exact at_row m17_4 (by omega) (by omega)
  exact at_row m17_5 (by omega) (by omega)
theorem row18 {j : Nat} (h : j < 20) : runs 9 4 (mk (18, j)) = true := by
  by_cases h0 : j < 5
  · exact at_row m18_0 (by omega) (by omega)
  by_cases h1 : j < 9
  · exact at_row m18_1 (by omega) (by omega)
  by_cases h2 : j < 12
  · exact at_row m18_2 (by omega) (by omega)
  by_cases h3 : j < 15
  · exact at_row m18_3 (by omega) (by omega)
  by_cases h4 : j < 18
  · exact at_row m18_4 (by omega) (by omega)
  exact at_row m18_5 (by omega) (by omega)
theorem row19 {j : Nat} (h : j < 20) : runs 9 4 (mk (19, j)) = true := by
  by_cases h0 : j < 5
  · exact at_row m19_0 (by omega) (by omega)
  by_cases h1 : j < 9
  · exact at_row m19_1 (by omega) (by omega)
  by_cases h2 : j < 12
  · exact at_row m19_2 (by omega) (by omega)
  by_cases h3 : j < 15
  · exact at_row m19_3 (by omega) (by omega)
  by_cases h4 : j < 18
  · exact at_row m19_4 (by omega) (by omega)
  exact at_row m19_5 (by omega) (by omega)
theorem all4 : ∀ k j : Nat, k < 20 → j < 20 → runs 9 4 (mk (k, j)) = true
  | 0, _, _, h => row0 h
  | 1, _, _, h => row1 h
  | 2, _, _, h => row2 h
  | 3, _, _, h => row3 h
  | 4, _, _, h => row4 h
  | 5, _, _, h => row5 h
  | 6, _, _, h => row6 h
  | 7, _, _, h => row7 h
  | 8, _, _, h => row8 h
  | 9, _, _, h => row9 h
  | 10, _, _, h => row10 h
  | 11, _, _, h => row11 h
  | 12, _, _, h => row12 h
  | 13, _, _, h => row13 h
  | 14, _, _, h => row14 h
  | 15, _, _, h => row15 h
  | 16, _, _, h => row16 h
  | 17, _, _, h => row17 h
  | 18, _, _, h => row18 h
  | 19, _, _, h => row19 h
  | n + 20, _, h, _ => by omega
theorem walk4 {a b : Int} (ha : 0 ≤ a ∧ a < 256) (hb : 0 ≤ b ∧ b < 256) (w : World) :
    Calls Tryz.prog 4 #[.int .u8 a, .int .u8 b] w fun e w' => e = .returned (.bool true) ∧ Go.RowKit.Below w.heap.size w w' := by
  have hr := all4 _ _ (Nat.mod_lt a.toNat (show 20 > 0 by decide)) (Nat.mod_lt b.toNat (show 20 > 0 by decide))
  exact (law_fast mixed (extT_ok known9) hr (vs := [.int .u8 a, .int .u8 b]) (args_cons (arg_md ha.1 (by show a ≤ 255; omega)) (args_cons (arg_md hb.1 (by show b ≤ 255; omega)) args_nil)) w).2
end Go.Proofs.YtignlmfaoagolaaGreat
