/-
  Texts of a proof over the translated program: NqZA.
-/
import Derived.Test.YtignlmfaoagolaaGreatDNqXSorted
import Derived.Test.YtignlmfaoagolaaGreatDNqXSumW
import Derived.Test.YtignlmfaoagolaaGreatDNqXDel
import Derived.Test.YtignlmfaoagolaaGreatDNqXPin
set_option linter.unusedVariables false
set_option linter.unusedSimpArgs false
set_option linter.unusedSectionVars false
set_option maxRecDepth 100000
namespace Go.Proofs.YtignlmfaoagolaaGreat
open Go.FM
variable [Env]
theorem mixed : Tryz.prog.follows .mixedOrders = true := by decide +kernel
theorem body_of {f : FuncId} {fn : Func} (h1 : Tryz.prog.funcs[f]? = some fn) (h2 : fn.body.isSome = true) (h3 : (fn.name == "runtime.NumGoroutine") = false) : Body Tryz.prog f := by
  obtain ⟨cd, h⟩ := Option.isSome_iff_exists.1 h2
  exact ⟨fn, cd, h1, h, h3⟩
theorem bodyS : Body Tryz.prog 46 := body_of (fn := Tryz.f46) (by kernel_rfl) (by kernel_rfl) (by kernel_rfl)
def orH (p q : Hook) : Hook := fun args h c => match p args h c with
  | .ok v h c => .ok v h c
  | .x _ => q args h c
theorem orH_ok {Pr : Program} {D : Nat} {f : FuncId} {p q : Hook} (hp : HookOk Pr D f p) (hq : HookOk Pr D f q) : HookOk Pr D f (orH p q) := by
  intro args h c v h' c' he hv
  unfold orH at he
  cases hr : p args h c with
  | ok v1 h1 c1 => rw [hr] at he; cases he; exact hp _ _ _ _ _ _ hr hv
  | x w => rw [hr] at he; exact hq _ _ _ _ _ _ he hv
noncomputable def sortH : Hook := orH (sortedH 371 6) (orH (sortedH 208 6) (orH (sortedH 82 6) (sortedH 84 6)))
theorem sortH_ok : HookOk Tryz.prog 6 46 sortH :=
  orH_ok (sortedH_ok (T := 3) (K := 3) bodyS Tryz.underlying3 Tryz.srtD) (orH_ok (sortedH_ok (T := 3) (K := 3) bodyS Tryz.underlying3 Tryz.srtC)
    (orH_ok (sortedH_ok (T := 3) (K := 3) bodyS Tryz.underlying3 Tryz.srtA) (sortedH_ok (T := 3) (K := 3) bodyS Tryz.underlying3 Tryz.srtB)))
theorem body193 : Body Tryz.prog 193 := body_of (fn := Tryz.f193) (by kernel_rfl) (by kernel_rfl) (by kernel_rfl)
theorem body50 : Body Tryz.prog 50 := body_of (fn := Tryz.f50) (by kernel_rfl) (by kernel_rfl) (by kernel_rfl)
theorem body19 : Body Tryz.prog 19 := body_of (fn := Tryz.f19) (by kernel_rfl) (by kernel_rfl) (by kernel_rfl)
noncomputable def ext0 (f : FuncId) : Option Hook := (Nat.beq f 46).casesOn ((Nat.beq f 193).casesOn ((Nat.beq f 50).casesOn ((Nat.beq f 19).casesOn none (some (pinnedH 3 1 6))) (some (delH 51 0 6))) (some (sumH 6))) (some sortH)
theorem ext0_ok : ExtOk Tryz.prog 6 ext0 := by
  intro f q h
  unfold ext0 at h
  cases hf : Nat.beq f 46 with
  | true =>
    rw [hf] at h
    have := Nat.eq_of_beq_eq_true hf
    subst this
    simp only [Option.some.injEq] at h; subst h
    exact sortH_ok
  | false =>
    rw [hf] at h
    simp only at h
    cases hg : Nat.beq f 193 with
    | true =>
      rw [hg] at h
      have := Nat.eq_of_beq_eq_true hg
      subst this
      simp only [Option.some.injEq] at h; subst h
      exact sumW_ok body193 Tryz.sum
    | false =>
      rw [hg] at h
      simp only at h
      cases hd : Nat.beq f 50 with
      | true =>
        rw [hd] at h
        have := Nat.eq_of_beq_eq_true hd
        subst this
        simp only [Option.some.injEq] at h; subst h
        exact delH_ok (K := 3) body50 Tryz.underlying3 Tryz.del50
      | false =>
        rw [hd] at h
        simp only at h
        cases hp : Nat.beq f 19 with
        | true =>
          rw [hp] at h
          have := Nat.eq_of_beq_eq_true hp
          subst this
          simp only [Option.some.injEq] at h; subst h
          exact pinnedH_ok (K := 3) body19 Tryz.underlying3 Tryz.pinned
        | false => rw [hp] at h; cases h
end Go.Proofs.YtignlmfaoagolaaGreat
