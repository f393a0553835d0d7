/-
  Texts of a proof over the translated program: Fm16LA.
-/
import Derived.Test.YtfjnopljjnofcaaLib5
import Derived.Test.YtfjnopljjnofcaaProg
set_option maxRecDepth 100000
namespace Go.Proofs.Ytfjnopljjnofcaa
open Go.FM
theorem wide : Try.prog.follows .mixedOrders = true := by decide +kernel
theorem known : isTrue (callN Try.prog 8 10000000 60 4 [] .nil 0) = true := by decide +kernel
def ext (f : FuncId) : Option Hook := (Nat.beq f 4).casesOn none (some trueH)
theorem ext_ok : ExtOk Try.prog 8 ext := by
  intro f q h
  unfold ext at h
  cases hf : Nat.beq f 4 with
  | false => rw [hf] at h; cases h
  | true =>
    rw [hf] at h
    have := Nat.eq_of_beq_eq_true hf
    subst this
    simp only [Option.some.injEq] at h; subst h
    exact trueH_fast wide known
/-- The law's run. -/
noncomputable def runs (args : List HV) : Bool := isTrue (callX Try.prog 8 10000000 ext 60 3 args .nil 0)
end Go.Proofs.Ytfjnopljjnofcaa
