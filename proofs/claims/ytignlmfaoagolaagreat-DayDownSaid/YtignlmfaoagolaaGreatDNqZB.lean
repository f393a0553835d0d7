/-
  Texts of a proof over the translated program: NqZB.
-/
import Derived.Test.YtignlmfaoagolaaGreatDNqZR
set_option linter.unusedVariables false
set_option linter.unusedSimpArgs false
set_option linter.unusedSectionVars false
set_option maxRecDepth 100000
namespace Go.Proofs.YtignlmfaoagolaaGreat
open Go.FM
variable [Env]
theorem trueX_ok {Pr : Program} {D : Nat} {f : FuncId} (hc : ∀ w, Body Pr f ∧ Calls Pr f #[] w fun e w' => e = .returned (.bool true) ∧ Go.RowKit.Below w.heap.size w w') : HookOk Pr D f trueH := by
  intro args h0 c v h' c' he hv
  unfold trueH at he
  split at he
  · simp only [CR.ok.injEq] at he
    obtain ⟨rfl, rfl, rfl⟩ := he
    refine ⟨(hc default).1, CallT.still (v0 := .bool true) (fun g => rfl) fun w g vs hi ha => ?_⟩
    have : vs = [] := List.length_eq_zero_iff.1 ha.1
    subst this
    exact (hc w).2
  · cases he
end Go.Proofs.YtignlmfaoagolaaGreat
