/-
  The fast machine: a closed function that answers true, as a contract of the first machine.
-/
import Derived.Test.YtignlmfaoagolaaGreatLib8
set_option linter.unusedVariables false
set_option linter.unusedSectionVars false
namespace Go.FM
noncomputable section
variable [Env]
open Go.AbsM (CallC SInv Gh Sim Fr Kp GoodC trueC Store)

theorem callC_of {Pr : Program} {f : FuncId} {D N n : Nat} (hmix : Pr.follows .mixedOrders = true) (h : isTrue (callN Pr D N n f [] .nil 0) = true) (t : Store) (S : List Store) : CallC Pr f [] (t :: S) (t :: S) (.x (.bool true)) := by
  intro may w g vs hi hm hl ha
  have : vs = [] := List.length_eq_zero_iff.1 hl
  subst this
  refine (closed_ok hmix h w).2.mono fun e w' ⟨he, k1, k2, k3, k4, k5⟩ => ?_
  have hx : Go.AbsM.Ext w w' := ⟨k3, k4, k5, k2, k1⟩
  have hs : Sim Pr may { slots := [], stores := t :: S } ⟨#[], []⟩ w g := ⟨hi, rfl, (fun t x h => by simp at h), rfl, by simp⟩
  obtain ⟨q1, q2, q3⟩ := hs.grow hm hx (M' := g.M) (fun b o h => h) (fun b o h hn => absurd h hn)
  exact ⟨_, g, he, q2, q1.inv, q3, 0, .x rfl⟩

theorem callC_nil {Pr : Program} {f : FuncId} {D N n : Nat} (hmix : Pr.follows .mixedOrders = true) (h : isTrue (callN Pr D N n f [] .nil 0) = true) : CallC Pr f [] [] [] (.x (.bool true)) := by
  intro may w g vs hi hm hl ha
  have : vs = [] := List.length_eq_zero_iff.1 hl
  subst this
  refine (closed_ok hmix h w).2.mono fun e w' ⟨he, k1, k2, k3, k4, k5⟩ => ?_
  have hx : Go.AbsM.Ext w w' := ⟨k3, k4, k5, k2, k1⟩
  have hi' : SInv Pr w g.push may ([] :: []) := hi.push
  have hs : Sim Pr may { slots := [], stores := [] :: [] } ⟨#[], []⟩ w g.push := ⟨hi', rfl, (fun t x h => by simp at h), rfl, by simp⟩
  obtain ⟨q1, q2, q3⟩ := hs.grow hm hx (M' := g.push.M) (fun b o h => h) (fun b o h hn => absurd h hn)
  exact ⟨_, g, he, q2, ⟨(fun i k cs h => by cases h), (fun i k e xs h => by cases h), (fun i k e xs h => by cases h), (fun i k o i' k' o' h => by cases h), q1.inv.mlt⟩, ⟨(fun i k cs _ h => by cases h), fun i k fz e xs _ h => by cases h⟩, 0, .x rfl⟩
/-- **A closed function that answers true.** -/
theorem good_fast {Pr : Program} {f : FuncId} {D N n : Nat} (hmix : Pr.follows .mixedOrders = true) (h : isTrue (callN Pr D N n f [] .nil 0) = true) : GoodC Pr (trueC f) where
  there := by
    obtain ⟨fn, cd, h1, h2, h3⟩ := (closed_ok hmix h default).1
    exact ⟨fn, cd, h1, h2, h3⟩
  cells := fun e t hm => by cases hm
  call := fun d _ S => by
    cases S with
    | nil => exact callC_nil hmix h
    | cons t S => exact callC_of hmix h t S
end
end Go.FM
