/-
  Texts of a proof over the translated program: N5Laid.
-/
import Derived.Test.YtijahjkcbphmcaaN5Trip
set_option linter.unusedVariables false
namespace Sp
open Go Go.AbsM
theorem runsG_rep (v : Int) (l : List Int) : ∀ (m : Nat) (c : Int), runsG c v (List.replicate m v ++ l) = runsG (c + m) v l
  | 0, c => by
    have : c + ((0 : Nat) : Int) = c := by omega
    rw [this]; rfl
  | m + 1, c => by
    rw [List.replicate_succ, List.cons_append, runsG, if_pos rfl, runsG_rep v l m (c + 1)]
    have : c + 1 + (m : Int) = c + ((m + 1 : Nat) : Int) := by omega
    rw [this]
/-- Runs laid by hand are told just so. -/
theorem runs_of_told : ∀ (rs : List (Int × Int × Unit)) (y : Option Int), chain y rs → runs (told rs) = rs
  | [], _, _ => rfl
  | (n, v, x) :: r, y, h => by
    obtain ⟨⟨_, c2⟩, c3⟩ := h
    simp only at c2 c3
    obtain ⟨m, hm⟩ : ∃ m : Nat, n = ((m + 1 : Nat) : Int) := ⟨n.toNat - 1, by omega⟩
    subst hm
    have ih := runs_of_told r (some v) c3
    have e : told ((((m + 1 : Nat) : Int), v, x) :: r) = v :: (List.replicate m v ++ told r) := by
      simp only [told, Int.toNat_natCast, List.replicate_succ, List.cons_append]
    rw [e]
    show runsG 1 v (List.replicate m v ++ told r) = _
    rw [runsG_rep]
    have e1 : 1 + (m : Int) = ((m + 1 : Nat) : Int) := by omega
    rw [e1]
    cases r with
    | nil => rfl
    | cons p r =>
      obtain ⟨n2, v2, x2⟩ := p
      obtain ⟨⟨d1, d2⟩, _⟩ := c3
      simp only at d1 d2
      obtain ⟨k, hk⟩ : ∃ k : Nat, n2 = ((k + 1 : Nat) : Int) := ⟨n2.toNat - 1, by omega⟩
      subst hk
      have e2 : told ((((k + 1 : Nat) : Int), v2, x2) :: r) = v2 :: (List.replicate k v2 ++ told r) := by
        simp only [told, Int.toNat_natCast, List.replicate_succ, List.cons_append]
      rw [e2] at ih ⊢
      rw [runsG, if_neg (fun h => d1 (by rw [h]))]
      exact congrArg _ ih
end Sp
