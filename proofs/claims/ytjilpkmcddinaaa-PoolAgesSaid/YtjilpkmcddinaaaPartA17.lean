/-
  Texts of a proof over the translated program: proved evaluators and walks, part 17 of 20.
-/
import Derived.Test.YtjilpkmcddinaaaPartA16
import Derived.ArgAppend
import Derived.Below
import Derived.Carry
import Derived.Deep.RegionHeld3
import Derived.Deep.RegionWith
import Derived.Great.BuildSlice
import Derived.Ground.GgzProg
import Derived.Ground.SlgmProg
import Derived.Handy
import Derived.IntWalk
import Derived.Laws.BitsLemmas
import Derived.Laws.CopyOwn
import Derived.Laws.CopyRow
import Derived.Laws.IdiomStrings
import Derived.Laws.MakeOwn
import Derived.Laws.Rows
import Derived.Lib.Hide
import Derived.Lib.SlKeysI
import Derived.LoopTactic
import Derived.MapKept
import Derived.Maps.Ext
import Derived.Maps.Own
import Derived.Maps.OwnSet
import Derived.Maps.RangeWalk
import Derived.Maps.Views
import Derived.Orders
import Derived.OwnWalk
import Derived.Scope
import Derived.ScopeJumps
import Derived.Shelf.SlIterI.Nil
import Derived.Shelf.SlIterI.Sorted
import Derived.Shelf.SortM.Plain
import Derived.Shelf.SortM.SortNone
import Derived.Test.YtjilpkmcddinaaaProg
import Derived.WalkKit
import Derived.WalkMore
import Derived.WalkSpells
set_option linter.unusedVariables false
set_option linter.unusedSimpArgs false
set_option linter.unusedSectionVars false
set_option linter.unnecessarySimpa false
section
set_option maxRecDepth 100000
namespace Go.Proofs.Ytjilpkmcddinaaa
open Go.RowKit Go.Maps
theorem Try.new {w : World} {fr k : Nat} (f1 : 1 ≤ fr) (f2 : fr ≤ 256) (k1 : 1 ≤ k) (k8 : k ≤ 8) : Calls Try.prog 8 #[.int .i64 (fr : Int), .int .i64 (k : Int)] w fun e w' => ∃ pb mb, e = .returned (.tuple #[.pointer (some ⟨pb, 0, none⟩), .int .i64 0]) ∧ PoolI w' pb mb fr k 0 [] ∧ w.heap.size ≤ pb ∧ w.heap.size ≤ mb ∧ Below w.heap.size w w' := by
  have d1 : decide ((fr : Int) < 1) = false := decide_eq_false (by omega)
  have d2 : decide ((fr : Int) > 256) = false := decide_eq_false (by omega)
  have d3 : decide ((k : Int) < 1) = false := decide_eq_false (by omega)
  have d4 : decide ((k : Int) > 8) = false := decide_eq_false (by omega)
  have hmm := @run_makeMap Try.prog
  go_enter Try.func8, Try.ntmps8
  go_wp2_with fail
  go_ret2
  refine ⟨w.heap.size + 1, w.heap.size, rfl, ?_, by omega, by omega, ((Below.refl _ w).alloc (Nat.le_refl _) _).alloc (by simp) _⟩
  have hs : (w.alloc (.map #[] 0)).heap.size = w.heap.size + 1 := by simp
  have hm := World.ownsMap_made w Try.prog 3 ptrR
  refine ⟨?_, ⟨.map [], ?_, ?_⟩, fun f hf => by simp at hf, List.Pairwise.nil, fun f hf => by simp at hf, by omega, k1, k8, f1, f2, by omega, Nat.zero_le _⟩
  · rw [← hs]; exact heap_alloc_new _ _
  · exact owns_at hm (Below.heap_alloc _ _ _ (by rw [hs]; omega))
  · exact ⟨fun a => rfl, fun f hf => by simp at hf, rfl, fun kl h => by cases h⟩
end Go.Proofs.Ytjilpkmcddinaaa
end
