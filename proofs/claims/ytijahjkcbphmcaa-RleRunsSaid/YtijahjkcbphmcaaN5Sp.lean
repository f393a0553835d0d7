/-
  Texts of a proof over the translated program: N5Sp.
-/
import Derived.Test.YtijahjkcbphmcaaN1Sp4
import Derived.Test.YtijahjkcbphmcaaN6Sp
set_option linter.unusedVariables false
namespace Sp
open Go Go.AbsM
/-- A run, read at a place: count, number, how many bytes, why not. -/
def next (b : List Int) (a : Int) : (Int × Int) × Int × Int :=
  if (get b a).2.2 ≠ 0 then ((0, 0), 0, (get b a).2.2)
  else if (get b (W.add .i64 a (get b a).2.1)).2.2 ≠ 0 then ((0, 0), 0, (get b (W.add .i64 a (get b a).2.1)).2.2)
  else (((get b a).1, (get b (W.add .i64 a (get b a).2.1)).1), W.add .i64 (get b a).2.1 (get b (W.add .i64 a (get b a).2.1)).2.1, 0)
/-- Runs, told at length. -/
def told : List (Int × Int × Unit) → List Int
  | [] => []
  | (c, x, _) :: r => List.replicate c.toNat x ++ told r
theorem told_app : ∀ (a b : List (Int × Int × Unit)), told (a ++ b) = told a ++ told b
  | [], b => rfl
  | (c, x, _) :: a, b => by simp only [List.cons_append, told, told_app a b, List.append_assoc]
theorem told_drop {l : List (Int × Int × Unit)} {i : Nat} (h : i < l.length) : told (l.drop i) = List.replicate (l.getD i (0, 0, ())).1.toNat (l.getD i (0, 0, ())).2.1 ++ told (l.drop (i + 1)) := by
  rw [List.drop_eq_getElem_cons h, List.getD_eq_getElem?_getD, List.getElem?_eq_getElem h]; rfl
def inP (l : List (Int × Int × Unit)) : Prop := ∀ p, p ∈ l → (0 ≤ p.1 ∧ p.1 < 18446744073709551616) ∧ 0 ≤ p.2.1 ∧ p.2.1 < 18446744073709551616
/-- Runs, read from a place on: the runs, how many may still be, why not. -/
def rgetF (b : List Int) : Nat → Int → Int → List (Int × Int × Unit) → List (Int × Int × Unit) × Int × Int
  | 0, _, _, _ => ([], 0, 0)
  | f + 1, a, left, all =>
    if a = b.length then (all, left, 0)
    else if (next b a).2.2 ≠ 0 then ([], left, (next b a).2.2)
    else if (next b a).1.1 = 0 ∨ (all ≠ [] ∧ (next b a).1.2 = (all.getD (all.length - 1) (0, 0, ())).2.1) then ([], left, 2)
    else if left < (next b a).1.1 then ([], left, 4)
    else rgetF b f (a + (next b a).2.1) (left - (next b a).1.1) (all ++ [((next b a).1.1, (next b a).1.2, ())])
theorem next_ok {b : List Int} (hb : bytes b) (hl : b.length < 1000000) {a : Int} (h0 : 0 ≤ a) (h1 : a ≤ b.length) (he : (next b a).2.2 = 0) :
    (0 ≤ (next b a).1.1 ∧ (next b a).1.1 < 18446744073709551616) ∧ (0 ≤ (next b a).1.2 ∧ (next b a).1.2 < 18446744073709551616) ∧ 1 ≤ (next b a).2.1 ∧ a + (next b a).2.1 ≤ b.length := by
  unfold next at he ⊢
  split at he
  · rename_i h; exact absurd he h
  · rename_i h
    have h : (get b a).2.2 = 0 := by omega
    split at he
    · rename_i h2; exact absurd he h2
    · rename_i h2
      have h2 : (get b (W.add .i64 a (get b a).2.1)).2.2 = 0 := by omega
      rw [if_neg (fun x => x h), if_neg (fun x => x h2)]
      have g1 := get_ok hb (a := a) (u := (get b a).1) (m := (get b a).2.1) (by rw [← h])
      have e1 : W.add .i64 a (get b a).2.1 = a + (get b a).2.1 := W.add_i64 (by omega) (by omega)
      rw [e1] at h2 ⊢
      have g2 := get_ok hb (a := a + (get b a).2.1) (u := (get b (a + (get b a).2.1)).1) (m := (get b (a + (get b a).2.1)).2.1) (by rw [← h2])
      have l1 := (enc_len g1.1 g1.2.1).1
      rw [g1.2.2.2.2.2] at l1
      have l2 := List.length_take_le (get b a).2.1.toNat (b.drop a.toNat)
      have e2 : W.add .i64 (get b a).2.1 (get b (a + (get b a).2.1)).2.1 = (get b a).2.1 + (get b (a + (get b a).2.1)).2.1 := W.add_i64 (by omega) (by omega)
      simp only
      rw [e2]
      refine ⟨⟨g1.1, g1.2.1⟩, ⟨g2.1, g2.2.1⟩, by omega, by omega⟩
end Sp
