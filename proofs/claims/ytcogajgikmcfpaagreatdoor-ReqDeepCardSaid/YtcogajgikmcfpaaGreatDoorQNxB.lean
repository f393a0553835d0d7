/-
  Texts of a proof over the translated program: NxB.
-/
import Derived.Test.YtcogajgikmcfpaaGreatDoorQNxA
import Derived.Laws.Strings
import Derived.Laws.Strings2
import Derived.Laws.Strings3
set_option linter.unusedVariables false
set_option linter.unusedSimpArgs false
set_option linter.unusedSectionVars false
namespace Go.Proofs.YtcogajgikmcfpaaGreatDoor
open Go.RowKit
set_option maxRecDepth 100000
def bs (l : List UInt8) : ByteArray := ⟨l.toArray⟩
theorem bs_size (l : List UInt8) : (bs l).size = l.length := by simp [bs, ByteArray.size]
theorem bs_list (l : List UInt8) : (bs l).toList = l := ByteArray.toList_mk l
theorem bs_ext (l : List UInt8) (a b : Nat) : (bs l).extract a b = bs ((l.drop a).take (b - a)) := ByteArray.extract_mk l a b
theorem Tryz.pre34 (l : List UInt8) (c : UInt8) (hl : l.length < 2 ^ 62) (w : World) : Calls Tryz.prog 117 #[.string (bs l), .string (bs [c])] w fun e w' => e = .returned (.bool (l.head? == some c)) ∧ w = w' := by
  cases l with
  | nil =>
    go_enter Tryz.func117, Tryz.ntmps117
    go_wp2_with fail
    go_ret
    exact ⟨rfl, rfl⟩
  | cons x r =>
    have h1 : (bs (x :: r)).size = r.length + 1 := by rw [bs_size]; rfl
    have h2 : (bs [c]).size = 1 := by rw [bs_size]; rfl
    have h3 : decide ((r.length : Int) + 1 ≥ 1) = true := by simp; omega
    have h4 : (((bs (x :: r)).extract 0 1).toList == (bs [c]).toList) = (x == c) := by
      rw [bs_ext, bs_list, bs_list]
      simp
    have H4 := Lib.hid h4
    clear h4
    go_enter Tryz.func117, Tryz.ntmps117
    go_wp2_with fail
    rw [H4.out]
    go_ret
    exact ⟨by simp, rfl⟩
theorem Tryz.pre (l : List UInt8) (c : UInt8) (hl : l.length < 2 ^ 62) (w : World) : Calls Tryz.prog 96 #[.string (bs l), .string (bs [c])] w fun e w' => e = .returned (.bool (l.head? == some c)) ∧ w = w' := by
  have hc := Tryz.pre34 l c hl
  go_enter Tryz.func96, Tryz.ntmps96
  go_wp2_with (go_at_call 117; refine (hc _).mono ?_; rintro e w1 ⟨rfl, rfl⟩)
  go_ret
  exact ⟨rfl, rfl⟩
end Go.Proofs.YtcogajgikmcfpaaGreatDoor
