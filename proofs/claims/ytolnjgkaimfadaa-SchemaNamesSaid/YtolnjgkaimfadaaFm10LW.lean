/-
  Texts of a proof over the translated program: Fm10LW.
-/
import Derived.Test.YtolnjgkaimfadaaFm10L
set_option maxRecDepth 100000
namespace Go.Proofs.Ytolnjgkaimfadaa
open Go.FM
theorem all_there : ∀ r, r < 11 → ∀ s, s < 11 → ∀ a, a < (if (Nat.ble 1 r && Nat.ble r 8) && (Nat.ble 1 s && Nat.ble s 8) then r else 1) → idx.contains (r, s, a) = true := by decide +kernel

theorem walk4 {a b c : Int} (ha : 0 ≤ a ∧ a < 256) (hb : 0 ≤ b ∧ b < 256) (hc : 0 ≤ c ∧ c < 256) (w : World) :
    Calls Try.prog 4 #[.int .u8 a, .int .u8 b, .int .u8 c] w fun e w' => e = .returned (.bool true) ∧ Go.RowKit.Below w.heap.size w w' := by
  have h1 : a.toNat % 11 < 11 := Nat.mod_lt _ (by decide)
  have h2 : b.toNat % 11 < 11 := Nat.mod_lt _ (by decide)
  by_cases hin : ((Nat.ble 1 (a.toNat % 11) && Nat.ble (a.toNat % 11) 8) && (Nat.ble 1 (b.toNat % 11) && Nat.ble (b.toNat % 11) 8)) = true
  · have hpos : 0 < a.toNat % 11 := by
      simp only [Bool.and_eq_true] at hin
      exact Nat.le_of_ble_eq_true hin.1.1
    have h3 : c.toNat % (a.toNat % 11) < a.toNat % 11 := Nat.mod_lt _ hpos
    have hr := at_idx (all_there _ h1 _ h2 (c.toNat % (a.toNat % 11)) (by rw [if_pos hin]; exact h3))
    have e : mk (a.toNat % 11, b.toNat % 11, c.toNat % (a.toNat % 11)) = [.md .u8 11 (a.toNat % 11), .md .u8 11 (b.toNat % 11), .md .u8 (a.toNat % 11) (c.toNat % (a.toNat % 11))] := by
      unfold mk; simp only [if_pos hin]
    rw [e] at hr
    exact (law_fast wide ext_ok hr (vs := [.int .u8 a, .int .u8 b, .int .u8 c]) (args_cons (arg_md ha.1 (by show a ≤ 255; omega)) (args_cons (arg_md hb.1 (by show b ≤ 255; omega)) (args_cons (arg_md hc.1 (by show c ≤ 255; omega)) args_nil))) w).2
  · have hr := at_idx (all_there _ h1 _ h2 0 (by rw [if_neg hin]; decide))
    have e : mk (a.toNat % 11, b.toNat % 11, 0) = [.md .u8 11 (a.toNat % 11), .md .u8 11 (b.toNat % 11), .dead] := by
      unfold mk; simp only [if_neg hin]
    rw [e] at hr
    exact (law_fast wide ext_ok hr (vs := [.int .u8 a, .int .u8 b, .int .u8 c]) (args_cons (arg_md ha.1 (by show a ≤ 255; omega)) (args_cons (arg_md hb.1 (by show b ≤ 255; omega)) (args_cons arg_dead args_nil))) w).2
end Go.Proofs.Ytolnjgkaimfadaa
