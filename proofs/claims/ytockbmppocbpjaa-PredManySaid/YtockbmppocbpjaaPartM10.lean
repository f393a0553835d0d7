/-
  Texts of a proof over the translated program: proved evaluators and walks, part 10 of 16.
-/
import Derived.Test.YtockbmppocbpjaaPartM9
import Derived.Below
import Derived.Deep.RegionHeld3
import Derived.Deep.RegionWith
import Derived.Handy
import Derived.IntWalk
import Derived.Laws.StructEq
import Derived.Lib.Hide
import Derived.LoopTactic
import Derived.Outline
import Derived.OwnWalk
import Derived.Scope
import Derived.ScopeJumps
import Derived.Test.YtockbmppocbpjaaProg
import Derived.WalkKit
import Derived.WalkMore
import Derived.WalkSpells
set_option linter.unusedVariables false
set_option linter.unusedSimpArgs false
set_option linter.unusedSectionVars false
set_option linter.unnecessarySimpa false
section
namespace Go.Proofs
open Go.RowKit
set_option maxRecDepth 100000
def vc (q : Int × Int) : List Value := [.int .i64 q.1, .int .i64 q.2, .string ⟨#[]⟩, .complex .f64 0 0]
def vV (q : Int × Int) : Value := .agg #[.int .i64 q.1, .int .i64 q.2, .string ⟨#[]⟩, .complex .f64 0 0]
def flat (qs : List (Int × Int)) : List Value := qs.flatMap vc
theorem flat_len (qs : List (Int × Int)) : (flat qs).length = qs.length * 4 := by
  induction qs with
  | nil => rfl
  | cons q qs ih =>
    have : flat (q :: qs) = vc q ++ flat qs := rfl
    rw [this, List.length_append, ih, List.length_cons]
    simp [vc]
    omega
theorem flat_snoc (qs : List (Int × Int)) (q : Int × Int) : flat (qs ++ [q]) = flat qs ++ vc q := by simp [flat]
theorem flat_get : ∀ (qs : List (Int × Int)) (i : Nat) (hi : i < qs.length) (j : Nat), j < 4 → (flat qs)[4 * i + j]? = (vc (qs[i]))[j]?
  | q :: qs, 0, _, j, hj => by
    have : flat (q :: qs) = vc q ++ flat qs := rfl
    rw [this, List.getElem?_append_left (by simp [vc]; omega)]
    simp
  | q :: qs, i + 1, hi, j, hj => by
    have : flat (q :: qs) = vc q ++ flat qs := rfl
    have hl : (vc q).length = 4 := rfl
    rw [this, List.getElem?_append_right (by omega), hl, show 4 * (i + 1) + j - 4 = 4 * i + j by omega, flat_get qs i (by simpa using hi) j hj]
    rfl
abbrev VO (w : World) (B : Nat) (v : Value) (n : Nat) (qs : List (Int × Int)) : Prop := w.ownsRow B 28 4 v n (flat qs)
theorem VO.len {w : World} {B : Nat} {v : Value} {n : Nat} {qs : List (Int × Int)} (h : VO w B v n qs) : qs.length = n := by
  have h1 := h.1
  rw [flat_len] at h1
  omega
structure VAt (w : World) (g n cap : Nat) (qs : List (Int × Int)) : Prop where
  nc : n ≤ cap
  cm : cap ≤ maxLen
  lt : g < w.heap.size
  at4 : ∀ i, (hi : i < qs.length) → w.cell? ⟨g, i * 4, none⟩ = some (.int .i64 (qs[i]).1) ∧ w.cell? ⟨g, i * 4 + 1, none⟩ = some (.int .i64 (qs[i]).2) ∧ w.cell? ⟨g, i * 4 + 2, none⟩ = some (.string ⟨#[]⟩) ∧ w.cell? ⟨g, i * 4 + 3, none⟩ = some (.complex .f64 0 0)
theorem VO.at {w : World} {B : Nat} {v : Value} {n : Nat} {qs : List (Int × Int)} (h : VO w B v n qs) : (v = .slice none 0 0 ∧ n = 0) ∨ ∃ g cap, v = .slice (some ⟨g, 0, none⟩) n cap ∧ B ≤ g ∧ VAt w g n cap qs := by
  have hl := h.len
  rcases h.2 with q | ⟨g, cap, cur, rfl, h1, h2, h3, h4, h5, h6⟩
  · exact .inl q
  · refine .inr ⟨g, cap, rfl, h1, h3, h4, ?_, fun i hi => ?_⟩
    · by_cases hx : g < w.heap.size
      · exact hx
      · rw [Array.getElem?_eq_none (by omega)] at h2; cases h2
    · have key : ∀ j, j < 4 → w.cell? ⟨g, i * 4 + j, none⟩ = (vc (qs[i]))[j]? := by
        intro j hj
        rw [← flat_get qs i hi j hj, ← h6, List.getElem?_take_of_lt (by omega)]
        simp only [World.cell?, h2]
        rw [Array.getElem?_toList, Nat.mul_comm]
        simp
      exact ⟨key 0 (by omega), key 1 (by omega), key 2 (by omega), key 3 (by omega)⟩
theorem VAt.below {w w' : World} {g n cap : Nat} {qs : List (Int × Int)} (h : VAt w g n cap qs) (hb : Below w.heap.size w w') : VAt w' g n cap qs := by
  refine ⟨h.nc, h.cm, Nat.lt_of_lt_of_le h.lt hb.size, fun i hi => ?_⟩
  obtain ⟨a, b, c, d⟩ := h.at4 i hi
  exact ⟨(hb.cell (p := ⟨g, i * 4, none⟩) h.lt).trans a, (hb.cell (p := ⟨g, i * 4 + 1, none⟩) h.lt).trans b, (hb.cell (p := ⟨g, i * 4 + 2, none⟩) h.lt).trans c, (hb.cell (p := ⟨g, i * 4 + 3, none⟩) h.lt).trans d⟩
structure VB (w : World) (b : Nat) (q : Int × Int) : Prop where
  lt : b < w.heap.size
  e1 : w.cell? ⟨b, 0, none⟩ = some (.int .i64 q.1)
  e2 : w.cell? ⟨b, 1, none⟩ = some (.int .i64 q.2)
  e3 : w.cell? ⟨b, 2, none⟩ = some (.string ⟨#[]⟩)
  e4 : w.cell? ⟨b, 3, none⟩ = some (.complex .f64 0 0)
theorem alloc_here (w : World) (o : Obj) : (w.alloc o).heap[w.heap.size]? = some o := by unfold World.alloc; simp
theorem VB.below {w w' : World} {b : Nat} {q : Int × Int} (h : VB w b q) (hb : Below w.heap.size w w') : VB w' b q :=
  ⟨Nat.lt_of_lt_of_le h.lt hb.size, (hb.cell (p := ⟨b, 0, none⟩) h.lt).trans h.e1, (hb.cell (p := ⟨b, 1, none⟩) h.lt).trans h.e2, (hb.cell (p := ⟨b, 2, none⟩) h.lt).trans h.e3, (hb.cell (p := ⟨b, 3, none⟩) h.lt).trans h.e4⟩
def NumV (q : Int × Int) : Prop := q.1 = 1 ∨ q = (0, 0)
end Go.Proofs
end
