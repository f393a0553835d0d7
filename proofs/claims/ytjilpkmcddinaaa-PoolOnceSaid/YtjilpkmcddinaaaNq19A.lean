/-
  Texts of a proof over the translated program: Nq19A.
-/
import Derived.Test.YtjilpkmcddinaaaNq19Held
import Derived.Test.YtjilpkmcddinaaaNq19Pin
set_option maxRecDepth 100000
namespace Go.Proofs.Ytjilpkmcddinaaa
open Go.FM
theorem wide : Try.prog.follows .mixedOrders = true := by decide +kernel
theorem body_of {f : FuncId} {fn : Func} (h1 : Try.prog.funcs[f]? = some fn) (h2 : fn.body.isSome = true) (h3 : (fn.name == "runtime.NumGoroutine") = false) : Body Try.prog f := by
  obtain ⟨cd, h⟩ := Option.isSome_iff_exists.1 h2
  exact ⟨fn, cd, h1, h, h3⟩
theorem body20 : Body Try.prog 20 := body_of (fn := Try.f20) (by kernel_rfl) (by kernel_rfl) (by kernel_rfl)
theorem body22 : Body Try.prog 22 := body_of (fn := Try.f22) (by kernel_rfl) (by kernel_rfl) (by kernel_rfl)
def ext0 (f : FuncId) : Option Hook := (Nat.beq f 20).casesOn ((Nat.beq f 22).casesOn none (some (pinnedH 3 1 8))) (some (heldH 3 8))
theorem ext0_ok : ExtOk Try.prog 8 ext0 := by
  intro f q h
  unfold ext0 at h
  cases hf : Nat.beq f 20 with
  | true =>
    rw [hf] at h
    have := Nat.eq_of_beq_eq_true hf
    subst this
    simp only [Option.some.injEq] at h; subst h
    exact heldH_ok (T := 3) (K := 3) body20 Try.underlying3 Try.held
  | false =>
    rw [hf] at h
    simp only at h
    cases hg : Nat.beq f 22 with
    | true =>
      rw [hg] at h
      have := Nat.eq_of_beq_eq_true hg
      subst this
      simp only [Option.some.injEq] at h; subst h
      exact pinnedH_ok (K := 3) body22 Try.underlying3 Try.pinned
    | false => rw [hg] at h; cases h
end Go.Proofs.Ytjilpkmcddinaaa
