/-
  Texts of a proof over the translated program: FnTold2.
-/
import Derived.Test.YtcogajgikmcfpaaGreatDoorQFnTold
set_option linter.unusedVariables false
set_option linter.unusedSimpArgs false
set_option linter.unusedSectionVars false
namespace Go.FM
noncomputable section
def orRun (r : CR) (e : CR) : CR := match r with
  | .ok v h c => .ok v h c
  | .x _ => e
def callY (Pr : Program) (D N : Nat) (ext : FuncId → Option Hook) (n : Nat) : Cl := Nat.rec (motive := fun _ => Cl) (fun _ _ _ _ => .x 51) (fun _ ih f args h c => Option.casesOn (ext f) (enter Pr D N ih (compFn Pr D f) args h c) fun q => orRun (q args h c) (enter Pr D N ih (compFn Pr D f) args h c)) n
end
noncomputable section
open Go.RowKit (Below)
variable [Env] {Pr : Program} {D : Nat}
theorem callY_ok (hmix : Pr.follows .mixedOrders = true) (N : Nat) {ext : FuncId → Option Hook} (hx : ExtOk Pr D ext) : ∀ n, ClOk Pr D (callY Pr D N ext n)
  | 0 => fun fn args h c v h' c' he => by cases he
  | n + 1 => fun fn args h c v h' c' he hv => by
    have e : callY Pr D N ext (n + 1) fn args h c = Option.casesOn (motive := fun _ => CR) (ext fn) (enter Pr D N (callY Pr D N ext n) (compFn Pr D fn) args h c) fun q => orRun (q args h c) (enter Pr D N (callY Pr D N ext n) (compFn Pr D fn) args h c) := rfl
    rw [e] at he
    cases hq : ext fn with
    | none => rw [hq] at he; exact enter_ok (callY_ok hmix N hx n) hmix he hv
    | some q =>
      rw [hq] at he
      simp only at he
      cases hr : q args h c with
      | ok v1 h1 c1 => rw [hr] at he; exact hx fn q hq args h c v h' c' (by rw [hr]; exact he) hv
      | x k => rw [hr] at he; exact enter_ok (callY_ok hmix N hx n) hmix he hv
theorem law_fastY {N n : Nat} {ext : FuncId → Option Hook} {fn : FuncId} {args : List HV} (hmix : Pr.follows .mixedOrders = true) (hx : ExtOk Pr D ext) (h : isTrue (callY Pr D N ext n fn args .nil 0) = true) {vs : List Value} (ha : TReps (fun _ => ⟨0, 1, 0, 0⟩) 0 args vs) (w : World) (hkp : ∀ b o, Env.keep b = some o → w.heap[b]? = some o := by (intro b o h; cases h)) :
    Body Pr fn ∧ Calls Pr fn vs.toArray w fun e w' => e = .returned (.bool true) ∧ Below w.heap.size w w' := by
  cases hr : callY Pr D N ext n fn args .nil 0 with
  | x k => rw [hr] at h; cases h
  | ok v h' c' =>
    rw [hr] at h
    cases v <;> try cases h
    obtain ⟨h1, h2⟩ := callY_ok hmix N hx n _ _ _ _ _ _ _ hr (by simp)
    refine ⟨h1, Calls.mono (h2 w (fun _ => ⟨0, 1, 0, 0⟩) vs (HOk.nil (Nat.zero_le _) hkp) ha) fun e w' ⟨u, g', he, q1, q2, q3⟩ => ?_⟩
    have hu : u = .bool true := q3
    subst hu
    refine ⟨he, q2.os, q2.tape, q2.out, q2.sz, fun b hb => q2.fr b hb fun ⟨k, pre, bd, hk, _⟩ => ?_⟩
    rw [hp_nil] at hk; cases hk
end
end Go.FM
