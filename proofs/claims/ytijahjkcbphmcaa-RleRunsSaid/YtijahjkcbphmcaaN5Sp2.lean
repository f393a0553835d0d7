/-
  Texts of a proof over the translated program: N5Sp2.
-/
import Derived.Test.YtijahjkcbphmcaaN5Sp
set_option linter.unusedVariables false
namespace Sp
open Go Go.AbsM
/-- The runs of a row, the first of them begun: c times x. -/
def runsG (c x : Int) : List Int → List (Int × Int × Unit)
  | [] => [(c, x, ())]
  | y :: r => if y = x then runsG (c + 1) x r else (c, x, ()) :: runsG 1 y r
def runs : List Int → List (Int × Int × Unit)
  | [] => []
  | x :: r => runsG 1 x r
/-- The number ahead of a place. -/
def prev (l : List Int) (i : Int) : Int := l.getD (i.toNat - 1) 0
/-- The bytes of runs. -/
def encR : List (Int × Int × Unit) → List Int
  | [] => []
  | p :: r => (enc p.1 ++ enc p.2.1) ++ encR r
theorem encR_drop {l : List (Int × Int × Unit)} {i : Nat} (h : i < l.length) : encR (l.drop i) = (enc (l.getD i (0, 0, ())).1 ++ enc (l.getD i (0, 0, ())).2.1) ++ encR (l.drop (i + 1)) := by
  rw [List.drop_eq_getElem_cons h, List.getD_eq_getElem?_getD, List.getElem?_eq_getElem h]; rfl
theorem runsG_drop {l : List Int} {i : Nat} (c x : Int) (h : i < l.length) : runsG c x (l.drop i) = if l.getD i 0 = x then runsG (c + 1) x (l.drop (i + 1)) else (c, x, ()) :: runsG 1 (l.getD i 0) (l.drop (i + 1)) := by
  rw [List.drop_eq_getElem_cons h, List.getD_eq_getElem?_getD, List.getElem?_eq_getElem h]; rfl
theorem runs_pos {l : List Int} (h : 0 < l.length) : runs l = runsG 1 (l.getD 0 0) (l.drop 1) := by
  cases l with
  | nil => exact absurd h (by simp)
  | cons x r => rfl
theorem runsG_len (c x : Int) : ∀ (l : List Int), 1 ≤ (runsG c x l).length ∧ (runsG c x l).length ≤ l.length + 1
  | [] => by simp [runsG]
  | y :: r => by
    unfold runsG
    split
    · have := runsG_len (c + 1) x r; simp only [List.length_cons]; omega
    · have := runsG_len 1 y r; simp only [List.length_cons]; omega
theorem runsG_told : ∀ (l : List Int) (c x : Int), 0 ≤ c → told (runsG c x l) = List.replicate c.toNat x ++ l
  | [], c, x, _ => by simp only [runsG, told]
  | y :: r, c, x, h => by
    unfold runsG
    split
    · rename_i e
      subst e
      rw [runsG_told r (c + 1) y (by omega)]
      have : (c + 1).toNat = c.toNat + 1 := by omega
      rw [this, List.replicate_succ', List.append_assoc]; rfl
    · simp only [told]
      rw [runsG_told r 1 y (by omega)]; rfl
theorem runs_told (l : List Int) : told (runs l) = l := by
  cases l with
  | nil => rfl
  | cons x r => show told (runsG 1 x r) = _; rw [runsG_told r 1 x (by omega)]; rfl
theorem runsG_in : ∀ (l : List Int) (c x : Int), 0 ≤ c → c + l.length < 18446744073709551616 → 0 ≤ x ∧ x < 18446744073709551616 → inU l → inP (runsG c x l)
  | [], c, x, h, h2, hx, _ => fun p hp => by
    rcases List.mem_singleton.1 hp with rfl
    have : c + ([] : List Int).length < 18446744073709551616 := h2
    simp only [List.length_nil] at this
    exact ⟨⟨h, by omega⟩, hx⟩
  | y :: r, c, x, h, h2, hx, hl => by
    have hy := hl y List.mem_cons_self
    have hr : inU r := fun z hz => hl z (List.mem_cons_of_mem _ hz)
    simp only [List.length_cons] at h2
    unfold runsG
    split
    · exact runsG_in r (c + 1) x (by omega) (by omega) hx hr
    · intro p hp
      rcases List.mem_cons.1 hp with rfl | hp
      · exact ⟨⟨h, by omega⟩, hx⟩
      · exact runsG_in r 1 y (by omega) (by omega) hy hr p hp
theorem runs_in {l : List Int} (h : inU l) (hl : l.length < 1000000) : inP (runs l) := by
  cases l with
  | nil => exact fun p hp => by cases hp
  | cons x r =>
    simp only [List.length_cons] at hl
    exact runsG_in r 1 x (by omega) (by omega) (h x List.mem_cons_self) fun z hz => h z (List.mem_cons_of_mem _ hz)
theorem set_last (ys : List (Int × Int × Unit)) (p q : Int × Int × Unit) : W.upd (ys ++ [p]) ys.length q = ys ++ [q] := by
  show (ys ++ [p]).set ys.length q = _
  rw [List.set_append_right _ _ (Nat.le_refl _), Nat.sub_self]; rfl
theorem nth_last (ys : List (Int × Int × Unit)) (p d : Int × Int × Unit) : W.nth (ys ++ [p]) ys.length d = p := by
  show (ys ++ [p]).getD ys.length d = p
  rw [List.getD_eq_getElem?_getD, List.getElem?_append_right (Nat.le_refl _), Nat.sub_self]; rfl
/-- How many runs begin at a place or behind it. -/
def runsLeft (l : List Int) (i : Int) : Int := if i = 0 then (runs l).length else (runsG 1 (prev l i) (l.drop i.toNat)).length - 1
def runsAt (l : List Int) (i : Int) : List (Int × Int × Unit) := runs (l.drop i.toNat)
def runsGAt (n : Int) (l : List Int) (i j : Int) : List (Int × Int × Unit) := runsG n (l.getD i.toNat 0) (l.drop j.toNat)
/-- The run at a place has n numbers. -/
def oneRun (l : List Int) (i n : Int) : Prop := 1 ≤ n ∧ i + n ≤ l.length ∧ runs (l.drop i.toNat) = (n, l.getD i.toNat 0, ()) :: runs (l.drop (i + n).toNat)
theorem runsG_any (c d x : Int) : ∀ (l : List Int), (runsG c x l).length = (runsG d x l).length := by
  intro l
  induction l generalizing c d x with
  | nil => rfl
  | cons y r ih =>
    unfold runsG
    split
    · exact ih _ _ _
    · simp only [List.length_cons]
end Sp
