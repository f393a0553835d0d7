/-
  Texts of a proof over the translated program: proved evaluators and walks, part 15 of 23.
-/
import Derived.Test.YtcogajgikmcfpaaGreatDoorPartQ14
import Derived.Below
import Derived.Deep.RegionHeld3
import Derived.Deep.RegionWith
import Derived.Handy
import Derived.IntWalk
import Derived.Laws.StructEq
import Derived.Lib.Hide
import Derived.LoopTactic
import Derived.Outline
import Derived.OwnWalk
import Derived.Scope
import Derived.ScopeJumps
import Derived.Test.YtcogajgikmcfpaaGreatDoorProg
import Derived.WalkKit
import Derived.WalkMore
import Derived.WalkSpells
set_option linter.unusedVariables false
set_option linter.unusedSimpArgs false
set_option linter.unusedSectionVars false
set_option linter.unnecessarySimpa false
section
namespace Go.Proofs.YtcogajgikmcfpaaGreatDoor
open Go.RowKit
set_option maxRecDepth 100000
def vN (n : Int) : Value := .agg #[.int .i64 1, .int .i64 n, .string ⟨#[]⟩, .complex .f64 0 0]
def vS (s : ByteArray) : Value := .agg #[.int .i64 2, .int .i64 0, .string s, .complex .f64 0 0]
def v0 : Value := .agg #[.int .i64 0, .int .i64 0, .string ⟨#[]⟩, .complex .f64 0 0]
theorem storeC (x y : Nat) (w : World) (a : Addr) (m : Mode) : (store a (.complex .f64 x y) m).run Tryz.prog w = stored Tryz.prog w a (.complex .f64 x y) m := run_store Tryz.prog w a _ m rfl
theorem Tryz.nn (n : Int) (w : World) : Calls Tryz.prog 12 #[.int .i64 n] w fun e w' => e = .returned (vN n) ∧ Below w.heap.size w w' := by
  have hsc := storeC
  go_enter Tryz.func12, Tryz.ntmps12
  go_wp2_with fail
  refine bodyPost_ret (v := vN n) (by simp [results, Tryz.results14, go_sem, vN]) rfl ⟨rfl, ?_⟩
  exact (Below.refl _ w).alloc (Nat.le_refl _) _
def sgn (a b : Int) : Int := if a < b then -1 else if b < a then 1 else 0
end Go.Proofs.YtcogajgikmcfpaaGreatDoor
end
