/-
  Texts of a proof over the translated program: proved evaluators and walks, part 11 of 16.
-/
import Derived.Test.YtockbmppocbpjaaPartM10
import Derived.Below
import Derived.Deep.CutBlock
import Derived.Deep.RegionHeld3
import Derived.Deep.RegionWith
import Derived.Handy
import Derived.IntWalk
import Derived.Laws.StructEq
import Derived.Lib.Hide
import Derived.LoopTactic
import Derived.Outline
import Derived.OwnWalk
import Derived.Scope
import Derived.ScopeJumps
import Derived.Test.YtockbmppocbpjaaProg
import Derived.WalkKit
import Derived.WalkMore
import Derived.WalkSpells
set_option linter.unusedVariables false
set_option linter.unusedSimpArgs false
set_option linter.unusedSectionVars false
set_option linter.unnecessarySimpa false
section
namespace Go.Proofs
open Go.RowKit
set_option maxRecDepth 100000
def lows (zs : List Int) (i : Nat) : Int := (zs.take i).foldl min (zs.headD 0)
def highs (zs : List Int) (i : Nat) : Int := (zs.take i).foldl max (zs.headD 0)
def cmpF : Value := .func (.func 25) #[] #[]
def VH (w : World) (b : Nat) (q : Int × Int) : Prop := w.heap[b]? = some (.cells #[.int .i64 q.1, .int .i64 q.2, .string ⟨#[]⟩, .complex .f64 0 0] 28 (0, 0))
theorem VH.lt {w : World} {b : Nat} {q : Int × Int} (h : VH w b q) : b < w.heap.size := by
  by_cases hx : b < w.heap.size
  · exact hx
  · unfold VH at h; rw [Array.getElem?_eq_none (by omega)] at h; cases h
theorem VH.vb {w : World} {b : Nat} {q : Int × Int} (h : VH w b q) : VB w b q := by
  have hl := h.lt
  unfold VH at h
  refine ⟨hl, ?_, ?_, ?_, ?_⟩ <;> (rw [cell_of_row w _ _ _ _ _ h]; rfl)
theorem VH.z {w : World} {b : Nat} {q : Int × Int} (h : VH w b q) (j : Nat) : w.frozen? ⟨b, j, none⟩ = false := frozen_of_row w b j _ 28 h
theorem vh_alloc (w : World) (q : Int × Int) : VH (w.alloc (.cells #[.int .i64 q.1, .int .i64 q.2, .string ⟨#[]⟩, .complex .f64 0 0] 28)) w.heap.size q := alloc_here w _
theorem VH.eq {w w' : World} {b : Nat} {q : Int × Int} (h : VH w b q) (e : w'.heap[b]? = w.heap[b]?) : VH w' b q := e.trans h
theorem VH.below {w w' : World} {b : Nat} {q : Int × Int} (h : VH w b q) (hb : Below w.heap.size w w') : VH w' b q := h.eq (hb.block b h.lt)
theorem VH.set4 {w : World} {b : Nat} {q : Int × Int} (h : VH w b q) (a c : Int) : VH ((((w.setCell ⟨b, 0, none⟩ (.int .i64 a)).setCell ⟨b, 1, none⟩ (.int .i64 c)).setCell ⟨b, 2, none⟩ (.string ⟨#[]⟩)).setCell ⟨b, 3, none⟩ (.complex .f64 0 0)) b (a, c) := by
  have h0 := heap_setCell_same w b 0 _ 28 (.int .i64 a) h
  have h1 := heap_setCell_same _ b 1 _ 28 (.int .i64 c) h0
  have h2 := heap_setCell_same _ b 2 _ 28 (.string ⟨#[]⟩) h1
  have h3 := heap_setCell_same _ b 3 _ 28 (.complex .f64 0 0) h2
  exact h3
theorem set4_below {B : Nat} {a w : World} (h : Below B a w) {b : Nat} (hb : B ≤ b) (x0 x1 x2 x3 : Value) : Below B a ((((w.setCell ⟨b, 0, none⟩ x0).setCell ⟨b, 1, none⟩ x1).setCell ⟨b, 2, none⟩ x2).setCell ⟨b, 3, none⟩ x3) :=
  (((h.setCell (p := ⟨b, 0, none⟩) hb _).setCell (p := ⟨b, 1, none⟩) hb _).setCell (p := ⟨b, 2, none⟩) hb _).setCell (p := ⟨b, 3, none⟩) hb _
theorem set4_other (w : World) {b b' : Nat} (hb : b' ≠ b) (x0 x1 x2 x3 : Value) : ((((w.setCell ⟨b, 0, none⟩ x0).setCell ⟨b, 1, none⟩ x1).setCell ⟨b, 2, none⟩ x2).setCell ⟨b, 3, none⟩ x3).heap[b']? = w.heap[b']? := by
  rw [Below.heap_setCell _ _ _ _ hb, Below.heap_setCell _ _ _ _ hb, Below.heap_setCell _ _ _ _ hb, Below.heap_setCell _ _ _ _ hb]
structure MRel (w : World) (x : Int) (wr : World) : Prop where
  vb : VH wr (w.heap.size + 1) (1, x)
  v0 : VH wr w.heap.size (0, 0)
  bel : Below w.heap.size w wr
theorem MRel.below {w wr w1 : World} {x : Int} (h : MRel w x wr) (hb : Below wr.heap.size wr w1) : MRel w x w1 := ⟨h.vb.below hb, h.v0.below hb, h.bel.trans (hb.mono h.bel.size)⟩
theorem MRel.set {w wr : World} {x : Int} (h : MRel w x wr) (y : Int) : MRel w y ((((wr.setCell ⟨w.heap.size + 1, 0, none⟩ (.int .i64 1)).setCell ⟨w.heap.size + 1, 1, none⟩ (.int .i64 y)).setCell ⟨w.heap.size + 1, 2, none⟩ (.string ⟨#[]⟩)).setCell ⟨w.heap.size + 1, 3, none⟩ (.complex .f64 0 0)) :=
  ⟨h.vb.set4 1 y, h.v0.eq (set4_other _ (by omega) _ _ _ _), set4_below h.bel (by omega) _ _ _ _⟩
end Go.Proofs
end
