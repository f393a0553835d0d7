/-
  Texts of a proof over the translated program: proved evaluators and walks, part 16 of 16.
-/
import Derived.Test.YtockbmppocbpjaaPartM15
import Derived.Below
import Derived.Deep.CutBlock
import Derived.Deep.Grids
import Derived.Deep.RegionHeld3
import Derived.Deep.RegionWith
import Derived.Great.BuildSlice
import Derived.Handy
import Derived.IntWalk
import Derived.Laws.AppendOwnNone
import Derived.Laws.Cells
import Derived.Laws.CopyRow
import Derived.Laws.IdiomStrings
import Derived.Laws.StructEq
import Derived.Lib.Hide
import Derived.LoopTactic
import Derived.MapKept
import Derived.Orders
import Derived.Outline
import Derived.OwnWalk
import Derived.Scope
import Derived.ScopeJumps
import Derived.Test.YtockbmppocbpjaaProg
import Derived.WalkKit
import Derived.WalkMore
import Derived.WalkSpells
set_option linter.unusedVariables false
set_option linter.unusedSimpArgs false
set_option linter.unusedSectionVars false
set_option linter.unnecessarySimpa false
section
namespace Go.Proofs
open Go.RowKit
set_option maxRecDepth 100000
theorem wf_u8n {n : Int} (h : (Lit.int .u8 n).wf = true) : 0 ≤ n ∧ n < 256 := by
  simp [Lit.wf, IntKind.min, IntKind.max, IntKind.bits, IntKind.signed] at h
  omega
theorem Try.many_all (w : World) (A : Option Addr) (n c : Nat) (zs : List Int) (w0 : IsRow .u8 w A n c zs) : Calls Try.prog 4 #[.slice A n c] w (YesV w) := by
  by_cases h : n < 2 ∨ 8 < n
  · exact Try.many_cut w A n c h
  · rcases w0 with ⟨_, rfl, _⟩ | ⟨x, rfl, p, q, hl, hc, hw⟩
    · omega
    · have key : ∀ j, j < c → 0 ≤ zs.getD j 0 ∧ zs.getD j 0 < 256 := fun j hj => wf_u8n (hw _ (by
        rw [List.getD_eq_getElem?_getD, List.getElem?_eq_getElem (by omega)]; exact List.getElem_mem _))
      refine Try.many w _ n c (fun j => if j < c then (zs.getD j 0).toNat else 0) (by omega) (fun j => ?_) p q (fun j hj => ⟨x, rfl, ?_⟩)
      · by_cases hj : j < c
        · have := key j hj
          simp only [hj, if_true]; omega
        · simp only [hj, if_false]; omega
      · have hjc : j < c := by omega
        have k := key j hjc
        have e := hc j (by omega)
        rw [e]
        simp only [hjc, if_true]
        congr 2
        omega
end Go.Proofs
end
