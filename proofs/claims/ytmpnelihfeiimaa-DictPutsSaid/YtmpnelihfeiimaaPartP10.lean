/-
  Texts of a proof over the translated program: proved evaluators and walks, part 10 of 19.
-/
import Derived.Test.YtmpnelihfeiimaaPartP9
import Derived.ScopeJumps
import Derived.WalkKit
set_option linter.unusedVariables false
set_option linter.unusedSimpArgs false
set_option linter.unusedSectionVars false
set_option linter.unnecessarySimpa false
section
namespace Go
def Exit.two (P : Program) (l m : Nat) (S : Code) (J : Act → World → Prop) (Q : Exit → Act → World → Prop) : Exit → Act → World → Prop
  | .goto l', a, w => (l' = l ∧ J a w) ∨ (l' = m ∧ S.wp P (Exit.jump l J Q) a w)
  | e, a, w => Q e a w
theorem wp_scope_two {P : Program} {a : Act} {w : World} {Q : Exit → Act → World → Prop} {c R S : Code} (l m : Nat) (J : Act → World → Prop) (μ : Act → World → Nat) (hf : findLabel c l = some (Code.skip.seq R)) (hm : findLabel c m = some S)
    (first : (∀ a w, J a w → R.wp P (Exit.two P l m S J Q) a w) → c.wp P (Exit.two P l m S J Q) a w)
    (pass : ∀ a w, J a w → R.wp P (Exit.two P l m S (fun a' w' => J a' w' ∧ μ a' w' < μ a w) Q) a w) : (Code.scope c).wp P Q a w := by
  intro b k cs
  have hg : gotoIn l (.inScope c :: k) = some (.code (Code.skip.seq R) :: .inScope c :: k) := by simp [gotoIn, hf]
  have hg2 : gotoIn m (.inScope c :: k) = some (.code S :: .inScope c :: k) := by simp [gotoIn, hm]
  have key : ∀ n a w, μ a w = n → J a w → ∃ e a' w', Q e a' w' ∧ Arrives P (lone (b.at a (.code (Code.skip.seq R) :: .inScope c :: k)) cs w) b k cs e a' w' := by
    intro n
    induction n using Nat.strongRecOn with
    | _ n ih =>
      intro a w hn hJ
      obtain ⟨e, a₁, w₁, hq, harr⟩ := wp_seq (wp_skip (pass a w hJ)) b (.inScope c :: k) cs
      cases e with
      | normal => exact ⟨.normal, a₁, w₁, hq, Steps.trans harr (.one step_inScope)⟩
      | exit id => exact ⟨.exit id, a₁, w₁, hq, fun k' hk => harr k' (by simp [exitTo, hk])⟩
      | goto l' =>
        rcases hq with ⟨rfl, hJ', hlt⟩ | ⟨rfl, hS⟩
        · obtain ⟨e₂, a₂, w₂, hq₂, harr₂⟩ := ih _ (by omega) a₁ w₁ rfl hJ'
          exact ⟨e₂, a₂, w₂, hq₂, .of_steps (harr _ hg) harr₂⟩
        · obtain ⟨e, a₃, w₃, hq, harr3⟩ := hS b (.inScope c :: k) cs
          cases e with
          | normal => exact ⟨.normal, a₃, w₃, hq, .of_steps (harr _ hg2) (Steps.trans harr3 (.one step_inScope))⟩
          | exit id => exact ⟨.exit id, a₃, w₃, hq, fun k' hk => (harr _ hg2).trans (harr3 k' (by simp [exitTo, hk]))⟩
          | goto l'' =>
            obtain ⟨rfl, hJ', hlt⟩ := hq
            obtain ⟨e₂, a₂, w₂, hq₂, harr₂⟩ := ih _ (by omega) a₃ w₃ rfl hJ'
            exact ⟨e₂, a₂, w₂, hq₂, .of_steps ((harr _ hg2).trans (harr3 _ hg)) harr₂⟩
          | ret => exact ⟨_, a₃, w₃, hq, .of_steps (harr _ hg2) harr3⟩
          | panic ch => exact ⟨_, a₃, w₃, hq, .of_steps (harr _ hg2) harr3⟩
          | outgrown => exact ⟨_, a₃, w₃, hq, .of_steps (harr _ hg2) harr3⟩
      | ret => exact ⟨_, a₁, w₁, hq, harr⟩
      | panic ch => exact ⟨_, a₁, w₁, hq, harr⟩
      | outgrown => exact ⟨_, a₁, w₁, hq, harr⟩
  have weak : ∀ a w, J a w → R.wp P (Exit.two P l m S J Q) a w := by
    intro a w h
    refine Code.wp_mono ?_ (pass a w h)
    intro e a2 w2 h2
    cases e with
    | goto l' =>
      rcases h2 with ⟨rfl, hJ', _⟩ | ⟨rfl, hS⟩
      · exact .inl ⟨rfl, hJ'⟩
      · refine .inr ⟨rfl, Code.wp_mono ?_ hS⟩
        intro e a3 w3 h3
        cases e <;> first | exact h3 | exact ⟨h3.1, h3.2.1⟩
    | _ => exact h2
  obtain ⟨e, a₁, w₁, hq, harr⟩ := first weak b (.inScope c :: k) cs
  cases e with
  | normal => exact ⟨.normal, a₁, w₁, hq, .head step_scope (Steps.trans harr (.one step_inScope))⟩
  | exit id => exact ⟨.exit id, a₁, w₁, hq, fun k' hk => .head step_scope (harr k' (by simp [exitTo, hk]))⟩
  | goto l' =>
    rcases hq with ⟨rfl, hJ'⟩ | ⟨rfl, hS⟩
    · obtain ⟨e₂, a₂, w₂, hq₂, harr₂⟩ := key _ a₁ w₁ rfl hJ'
      exact ⟨e₂, a₂, w₂, hq₂, .of_steps (.head step_scope (harr _ hg)) harr₂⟩
    · obtain ⟨e, a₃, w₃, hq, harr3⟩ := hS b (.inScope c :: k) cs
      cases e with
      | normal => exact ⟨.normal, a₃, w₃, hq, .head step_scope (Steps.trans (harr _ hg2) (Steps.trans harr3 (.one step_inScope)))⟩
      | exit id => exact ⟨.exit id, a₃, w₃, hq, fun k' hk => .head step_scope ((harr _ hg2).trans (harr3 k' (by simp [exitTo, hk])))⟩
      | goto l'' =>
        obtain ⟨rfl, hJ'⟩ := hq
        obtain ⟨e₂, a₂, w₂, hq₂, harr₂⟩ := key _ a₃ w₃ rfl hJ'
        exact ⟨e₂, a₂, w₂, hq₂, .of_steps (.head step_scope ((harr _ hg2).trans (harr3 _ hg))) harr₂⟩
      | ret => exact ⟨_, a₃, w₃, hq, .of_steps (.head step_scope (harr _ hg2)) harr3⟩
      | panic ch => exact ⟨_, a₃, w₃, hq, .of_steps (.head step_scope (harr _ hg2)) harr3⟩
      | outgrown => exact ⟨_, a₃, w₃, hq, .of_steps (.head step_scope (harr _ hg2)) harr3⟩
  | ret => exact ⟨_, a₁, w₁, hq, .of_steps (.one step_scope) harr⟩
  | panic ch => exact ⟨_, a₁, w₁, hq, .of_steps (.one step_scope) harr⟩
  | outgrown => exact ⟨_, a₁, w₁, hq, .of_steps (.one step_scope) harr⟩
end Go
end
