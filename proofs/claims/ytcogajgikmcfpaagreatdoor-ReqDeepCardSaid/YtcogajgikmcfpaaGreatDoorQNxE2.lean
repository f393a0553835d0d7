/-
  Texts of a proof over the translated program: NxE2.
-/
import Derived.Test.YtcogajgikmcfpaaGreatDoorQNxM
set_option linter.unusedVariables false
set_option linter.unusedSimpArgs false
set_option linter.unusedSectionVars false
namespace Go.Proofs.YtcogajgikmcfpaaGreatDoor
open Go.RowKit Go.NW
set_option maxRecDepth 100000
def zero4 : Array Value := #[.int .i64 0, .int .i64 0, .string ⟨#[]⟩, .complex .f64 0 0]
def cells4 (k n : Int) (s : ByteArray) (x y : Nat) : Array Value := #[.int .i64 k, .int .i64 n, .string s, .complex .f64 x y]
theorem one4 (k n : Int) (s : ByteArray) (x y : Nat) : ∀ u ∈ (cells4 k n s x y).toList, u.oneCell' = true := by
  intro u hu
  simp [cells4] at hu
  rcases hu with rfl | rfl | rfl | rfl <;> rfl
theorem Tryz.size25 : ∀ n, n = 4 → (Tryz.prog.info? 25).map (·.size) = some n := fun n h => by subst h; kernel_rfl
theorem Tryz.st25 : Tryz.prog.underlying 25 = some (.struct (Tryz.prog.fieldsOf 25)) := by kernel_rfl
end Go.Proofs.YtcogajgikmcfpaaGreatDoor
