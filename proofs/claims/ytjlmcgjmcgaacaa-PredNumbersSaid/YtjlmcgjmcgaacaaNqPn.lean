/-
  Texts of a proof over the translated program: NqPn.
-/
import Derived.Test.YtjlmcgjmcgaacaaLib5
import Derived.Test.YtjlmcgjmcgaacaaProg
set_option maxRecDepth 100000
namespace Go.Proofs.Ytjlmcgjmcgaacaa
open Go.FM
theorem wide : Try.prog.follows .mixedOrders = true := by decide +kernel
theorem known : isTrue (callN Try.prog 6 10000000 60 5 [] .nil 0) = true := by decide +kernel
noncomputable def ext (f : FuncId) : Option Hook := (Nat.beq f 5).casesOn none (some trueH)
theorem ext_ok [Env] : ExtOk Try.prog 6 ext := by
  intro f q h
  unfold ext at h
  cases hf : Nat.beq f 5 with
  | false => rw [hf] at h; cases h
  | true =>
    rw [hf] at h
    have := Nat.eq_of_beq_eq_true hf
    subst this
    simp only [Option.some.injEq] at h; subst h
    exact trueH_fast wide known
/-- The law's run. -/
noncomputable def runs (args : List HV) : Bool := isTrue (callX Try.prog 6 10000000 ext 60 3 args .nil 0)
theorem lt01 : runs [.sy .i64 0, .sy .i64 1] = true := by decide +kernel
theorem lt10 : runs [.sy .i64 1, .sy .i64 0] = true := by decide +kernel
theorem eq00 : runs [.sy .i64 0, .sy .i64 0] = true := by decide +kernel
/-- Two numbers, the one less than the other; one number. -/
abbrev two (x y : Int) (h : x < y) : Env := ⟨2, fun i => if i = 0 then x else y, fun i j hij hj => by
  have e : i = 0 ∧ j = 1 := by omega
  rw [e.1, e.2]; simpa using h⟩
abbrev one (x : Int) : Env := ⟨1, fun _ => x, fun i j hij hj => by omega⟩
theorem walk3 (a b : Int) (w : World) :
    Calls Try.prog 3 #[.int .i64 a, .int .i64 b] w fun e w' => e = .returned (.bool true) ∧ Go.RowKit.Below w.heap.size w w' := by
  rcases Int.lt_trichotomy a b with h | h | h
  · letI : Env := two a b h
    exact (law_fast wide ext_ok lt01 (vs := [.int .i64 a, .int .i64 b]) (args_cons (arg_sy (i := 0) (by show 0 < 2; omega)) (args_cons (arg_sy (i := 1) (by show 1 < 2; omega)) args_nil)) w).2
  · subst h
    letI : Env := one a
    exact (law_fast wide ext_ok eq00 (vs := [.int .i64 a, .int .i64 a]) (args_cons (arg_sy (i := 0) (by show 0 < 1; omega)) (args_cons (arg_sy (i := 0) (by show 0 < 1; omega)) args_nil)) w).2
  · letI : Env := two b a h
    exact (law_fast wide ext_ok lt10 (vs := [.int .i64 a, .int .i64 b]) (args_cons (arg_sy (i := 1) (by show 1 < 2; omega)) (args_cons (arg_sy (i := 0) (by show 0 < 2; omega)) args_nil)) w).2
end Go.Proofs.Ytjlmcgjmcgaacaa
