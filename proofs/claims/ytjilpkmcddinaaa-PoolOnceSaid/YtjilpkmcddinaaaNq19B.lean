/-
  Texts of a proof over the translated program: Nq19B.
-/
import Derived.Test.YtjilpkmcddinaaaNq19K
set_option maxRecDepth 100000
namespace Go.Proofs.Ytjilpkmcddinaaa
open Go.FM
theorem trueX_ok {Pr : Program} {D : Nat} {f : FuncId} (hc : ∀ w, Body Pr f ∧ Calls Pr f #[] w fun e w' => e = .returned (.bool true) ∧ Go.RowKit.Below w.heap.size w w') : HookOk Pr D f trueH := by
  intro args h0 c v h' c' he hv
  unfold trueH at he
  split at he
  · simp only [CR.ok.injEq] at he
    obtain ⟨rfl, rfl, rfl⟩ := he
    refine ⟨(hc default).1, CallT.still (v0 := .bool true) (fun g => rfl) fun w g vs hi ha => ?_⟩
    have : vs = [] := List.length_eq_zero_iff.1 ha.1
    subst this
    exact (hc w).2
  · cases he
def ext (f : FuncId) : Option Hook := (Nat.beq f 7).casesOn (ext0 f) (some trueH)
theorem ext_ok : ExtOk Try.prog 8 ext := by
  intro f q h
  unfold ext at h
  cases hf : Nat.beq f 7 with
  | false => rw [hf] at h; exact ext0_ok f q h
  | true =>
    rw [hf] at h
    have := Nat.eq_of_beq_eq_true hf
    subst this
    simp only [Option.some.injEq] at h; subst h
    exact trueX_ok fun w => law_fast wide ext0_ok known (vs := []) args_nil w
/-- The law's run. -/
noncomputable def runs (args : List HV) : Bool := isTrue (callX Try.prog 8 10000000 ext 60 6 args .nil 0)
end Go.Proofs.Ytjilpkmcddinaaa
