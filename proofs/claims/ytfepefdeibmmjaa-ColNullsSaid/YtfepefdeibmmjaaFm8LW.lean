/-
  Texts of a proof over the translated program: Fm8LW.
-/
import Derived.Test.YtfepefdeibmmjaaFm8L
set_option maxRecDepth 100000
namespace Go.Proofs.Ytfepefdeibmmjaa
open Go.FM
theorem all_there : ∀ r, r < 70 → ∀ s, s < 3 → idx.contains (r, s) = true := by decide +kernel
theorem walk3 {a b : Int} (ha : 0 ≤ a ∧ a < 256) (hb : 0 ≤ b ∧ b < 256) (w : World) :
    Calls Try.prog 3 #[.int .u8 a, .int .u8 b] w fun e w' => e = .returned (.bool true) ∧ Go.RowKit.Below w.heap.size w w' := by
  have hr := at_idx (all_there _ (Nat.mod_lt a.toNat (by decide)) _ (Nat.mod_lt b.toNat (by decide)))
  exact (law_fast wide ext_ok hr (vs := [.int .u8 a, .int .u8 b]) (args_cons (arg_md ha.1 (by show a ≤ 255; omega)) (args_cons (arg_md hb.1 (by show b ≤ 255; omega)) args_nil)) w).2
end Go.Proofs.Ytfepefdeibmmjaa
