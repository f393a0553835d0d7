/-
  Texts of a proof over the translated program: N6Sp.
-/
import Derived.Test.YtijahjkcbphmcaaN1Zig
set_option linter.unusedVariables false
namespace Sp
open Go Go.AbsM
/-- The steps of a row, from the number ahead of it. -/
def steps (last : Int) : List Int → List Int
  | [] => []
  | x :: r => zig (W.sub .i64 x last) :: steps x r
def inI (l : List Int) : Prop := ∀ x, x ∈ l → -9223372036854775808 ≤ x ∧ x < 9223372036854775808
def inU (l : List Int) : Prop := ∀ x, x ∈ l → 0 ≤ x ∧ x < 18446744073709551616
def moved (by' : Int) (l : List Int) : List Int := l.map fun x => W.add .i64 x by'
def same (a b : List Int) : Bool := decide (a = b)
theorem steps_len : ∀ (a : Int) (l : List Int), (steps a l).length = l.length
  | _, [] => rfl
  | a, x :: r => by simp only [steps, List.length_cons, steps_len x r]
theorem steps_drop {l : List Int} {i : Nat} (a : Int) (h : i < l.length) : steps a (l.drop i) = zig (W.sub .i64 (l.getD i 0) a) :: steps (l.getD i 0) (l.drop (i + 1)) := by
  rw [List.drop_eq_getElem_cons h, List.getD_eq_getElem?_getD, List.getElem?_eq_getElem h]; rfl
theorem sub_in (x a : Int) : -9223372036854775808 ≤ W.sub .i64 x a ∧ W.sub .i64 x a < 9223372036854775808 := by
  unfold W.sub; rw [wrap_i64]; omega
theorem add_in (x a : Int) : -9223372036854775808 ≤ W.add .i64 x a ∧ W.add .i64 x a < 9223372036854775808 := by
  unfold W.add; rw [wrap_i64]; omega
theorem moved_in (b : Int) (l : List Int) : inI (moved b l) := fun x hx => by
  obtain ⟨y, _, rfl⟩ := List.mem_map.1 hx
  exact add_in y b
theorem moved_len (b : Int) (l : List Int) : (moved b l).length = l.length := List.length_map _
theorem moved_succ {l : List Int} {i : Nat} (b : Int) (h : i < l.length) : moved b (l.take (i + 1)) = moved b (l.take i) ++ [W.add .i64 (l.getD i 0) b] := by
  rw [List.take_succ_eq_append_getElem h, List.getD_eq_getElem?_getD, List.getElem?_eq_getElem h]
  unfold moved; rw [List.map_append]; rfl
theorem steps_moved (b : Int) : ∀ (a : Int) (l : List Int), steps (W.add .i64 a b) (moved b l) = steps a l
  | _, [] => rfl
  | a, x :: r => by
    have e : W.sub .i64 (W.add .i64 x b) (W.add .i64 a b) = W.sub .i64 x a := by
      unfold W.sub W.add; simp only [wrap_i64]; omega
    show zig (W.sub .i64 (W.add .i64 x b) (W.add .i64 a b)) :: steps (W.add .i64 x b) (moved b r) = zig (W.sub .i64 x a) :: steps x r
    rw [e, steps_moved b x r]
theorem sub_zero {x : Int} (h0 : -9223372036854775808 ≤ x) (h1 : x < 9223372036854775808) : W.sub .i64 x 0 = x := by
  unfold W.sub; rw [wrap_i64]; omega
theorem add_eq {x b : Int} (h0 : -9223372036854775808 ≤ x) (h1 : x < 9223372036854775808) (h2 : -9223372036854775808 ≤ b) (h3 : b < 9223372036854775808) : (x = W.add .i64 x b) ↔ b = 0 := by
  unfold W.add; rw [wrap_i64]; omega
theorem zig_inj {a b : Int} (h : zig a = zig b) : a = b := by
  unfold zig at h; split at h <;> split at h <;> omega
end Sp
