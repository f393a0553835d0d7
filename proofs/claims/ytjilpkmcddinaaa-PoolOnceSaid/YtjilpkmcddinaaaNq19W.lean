/-
  Texts of a proof over the translated program: Nq19W.
-/
import Derived.Test.YtjilpkmcddinaaaNq19c0
import Derived.Test.YtjilpkmcddinaaaNq19c1
import Derived.Test.YtjilpkmcddinaaaNq19c2
import Derived.Test.YtjilpkmcddinaaaNq19c3
set_option maxRecDepth 100000
namespace Go.Proofs.Ytjilpkmcddinaaa
open Go.FM
theorem case6 : ∀ (r : Nat) (b : Bool), r < 7 → runs [.md .u8 7 r, .bool b] = true
  | 0, true, _ => c0_true
  | 0, false, _ => c0_false
  | 1, true, _ => c1_true
  | 1, false, _ => c1_false
  | 2, true, _ => c2_true
  | 2, false, _ => c2_false
  | 3, true, _ => c3_true
  | 3, false, _ => c3_false
  | 4, true, _ => c4_true
  | 4, false, _ => c4_false
  | 5, true, _ => c5_true
  | 5, false, _ => c5_false
  | 6, true, _ => c6_true
  | 6, false, _ => c6_false
  | n + 7, _, h => by omega
theorem walk6 {a : Int} {b : Bool} (ha : 0 ≤ a ∧ a < 256) (w : World) :
    Calls Try.prog 6 #[.int .u8 a, .bool b] w fun e w' => e = .returned (.bool true) ∧ Go.RowKit.Below w.heap.size w w' := by
  have hr := case6 (a.toNat % 7) b (Nat.mod_lt _ (by decide))
  exact (law_fast wide ext_ok hr (vs := [.int .u8 a, .bool b]) (args_cons (arg_md ha.1 (by show a ≤ 255; omega)) (args_cons arg_bool args_nil)) w).2
end Go.Proofs.Ytjilpkmcddinaaa
