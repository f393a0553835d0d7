/-
  Texts of a proof over the translated program: Fm16LW.
-/
import Derived.Test.YtfjnopljjnofcaaFm16L
set_option maxRecDepth 100000
namespace Go.Proofs.Ytfjnopljjnofcaa
open Go.FM
theorem all_there : ∀ r, r < 70 → ∀ b, idx.contains (r, b) = true := by decide +kernel
theorem walk3 {a : Int} {b : Bool} (ha : 0 ≤ a ∧ a < 256) (w : World) :
    Calls Try.prog 3 #[.int .u8 a, .bool b] w fun e w' => e = .returned (.bool true) ∧ Go.RowKit.Below w.heap.size w w' := by
  have hr := at_idx (all_there _ (Nat.mod_lt a.toNat (by decide)) b)
  exact (law_fast wide ext_ok hr (vs := [.int .u8 a, .bool b]) (args_cons (arg_md ha.1 (by show a ≤ 255; omega)) (args_cons arg_bool args_nil)) w).2
end Go.Proofs.Ytfjnopljjnofcaa
