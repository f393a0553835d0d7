/-
  Texts of a proof over the translated program: NyV.
-/
import Derived.Test.YtcogajgikmcfpaaGreatDoorRows
import Derived.Test.YtcogajgikmcfpaaGreatDoorQNyD
import Derived.Lib.LaidTab
import Derived.Stop.LaidErr
import Derived.LaidLaws
import Derived.LaidMore
import Derived.Stop.Joined
import Derived.Lay
set_option linter.unusedVariables false
set_option linter.unusedSimpArgs false
set_option linter.unusedSectionVars false
namespace Go.Proofs.YtcogajgikmcfpaaGreatDoor
open Go.RowKit Go
set_option maxRecDepth 100000
theorem gTab : Tryz.prog.globalNamed "internal/strconv.uint64pow10" = some 1 := by kernel_rfl
theorem gTabType : (Tryz.prog.globals[1]?).map (·.type) = some 169 := by kernel_rfl
theorem cells146 : Tryz.prog.cellsOf 146 = 1 := by kernel_rfl
theorem cells169 : Tryz.prog.cellsOf 169 = 20 := by kernel_rfl
def laid7 : List (String × DataW Unit) := [("math/bits.deBruijn32tab", Rows.laid_math_bits_deBruijn32tab), ("math/bits.deBruijn64tab", Rows.laid_math_bits_deBruijn64tab), ("internal/strconv.uint64pow10", Rows.laid_internal_strconv_uint64pow10), ("unicode/utf8.acceptRanges", Rows.laid_unicode_utf8_acceptRanges), ("strconv.ErrRange", Rows.laid_strconv_ErrRange), ("strconv.ErrSyntax", Rows.laid_strconv_ErrSyntax), ("unicode/utf8.first", Rows.laid_unicode_utf8_first)]
theorem deepL (a : Int) (b : Bool) (W : World) (hL : laidMet Tryz.prog laid7 W) (ha : (Lit.int .u8 a).wf = true) :
    Calls Tryz.prog 3 #[.int .u8 a, .bool b] W fun e w' => e = .returned (.bool true) ∧ Below W.heap.size W w' :=
  deepZ a b W (Lib.tabIs_of_head gTab gTabType Tryz.underlying169 Tryz.underlying146 cells146 cells169 hL.tail.tail) ha
theorem laid_met (os : Os) (args : Array Value) : laidMet Tryz.prog laid7 ((World.laidAll Tryz.prog os laid7).forCall (fun _ _ => 0) ⟨#[], args, []⟩).memory :=
  laidMet_laidAll _ (by kernel_rfl) (by kernel_rfl)
end Go.Proofs.YtcogajgikmcfpaaGreatDoor
