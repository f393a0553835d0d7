/-
  Texts of a proof over the translated program: NdF0.
-/
import Derived.Test.YtcmjccjbgidinaaNdD
set_option linter.unusedVariables false
set_option linter.unnecessarySimpa false
set_option linter.unusedSimpArgs false
namespace Go.Proofs
open Go.RowKit
set_option maxRecDepth 100000
theorem cf42 (v : Value) (w : World) : (callFunc 42 (#[v] ++ #[])).run Try.prog w = .ok (.enter 42 (#[v] ++ #[])) w := by
  rfl
theorem cf43 (v p : Value) (w : World) : (callFunc 43 (#[v] ++ #[p])).run Try.prog w = .ok (.enter 43 (#[v] ++ #[p])) w := by
  rfl
theorem Try.c42 (v : Value) (w : World) : Calls Try.prog 42 #[v] w fun e w' => e = .returned (.bool true) ∧ w = w' := by
  go_enter Try.func42, Try.ntmps42
  go_wp2
  go_ret
  exact ⟨rfl, rfl⟩
/-- What a Crash keeps. -/
def kpOf (keep : List Bool) (j : Nat) : Bool := keep.getD j false
theorem Try.c43 (p : Nat) (keep : List Bool) (hk : keep.length ≤ 9223372036854775807) (A : Option Addr) (m : Nat) (j : Nat) (w : World) (hp : w.cell? ⟨p, 0, none⟩ = some (.slice A keep.length m))
    (hc : ∀ i, i < keep.length → ∃ a, A = some a ∧ w.cell? (a.add i) = some (.bool (keep.getD i false))) :
    Calls Try.prog 43 #[.int .i64 j, .pointer (some ⟨p, 0, none⟩)] w fun e w' => e = .returned (.bool (kpOf keep j)) ∧ w = w' := by
  by_cases hj : j < keep.length
  · obtain ⟨⟨g, o, pth⟩, rfl, hcj⟩ := hc j hj
    have hD : decide ((j : Int) < keep.length) = true := by simpa using hj
    unfold kpOf
    clear hc
    go_enter Try.func43, Try.ntmps43
    go_wp2
    go_ret
    exact ⟨ret_bool (by simp [hj]), rfl⟩
  · have hD : decide ((j : Int) < keep.length) = false := by simpa using hj
    have hq : kpOf keep j = false := by unfold kpOf; rw [List.getD_eq_getElem?_getD, List.getElem?_eq_none (by omega)]; rfl
    rw [hq]
    clear hc hq
    go_enter Try.func43, Try.ntmps43
    go_wp2
    go_ret
    exact ⟨rfl, rfl⟩
end Go.Proofs
