/-
  The abstract machine: its steps, for runs over values that are not known: straight pieces by kernel evaluation, these between them.
-/
import Derived.Test.YtmfegciehdjicaaAbsLaw
set_option linter.unusedVariables false
set_option linter.unusedSimpArgs false
namespace Go.AbsM

section
variable {P : Program} {E : Env} {n : Nat} {s s1 s2 : St} {x y c : Code}

theorem seq_run (h : runN P E n (.code x) s = some (.normal, s1)) : runN P E (n + 1) (.code (.seq x y)) s = runN P E n (.code y) s1 := by
  simp only [runN, stepT, h]
theorem seq_out {e : AExit} (he : e ≠ .normal) (h : runN P E n (.code x) s = some (e, s1)) : runN P E (n + 1) (.code (.seq x y)) s = some (e, s1) := by
  cases e <;> first | exact absurd rfl he | simp only [runN, stepT, h]
theorem cond_run {o : Operand} {t : Bool} (h : evalO s o = some (.x (.bool t))) : runN P E (n + 1) (.code (.cond o x y)) s = runN P E n (.code (if t then x else y)) s := by
  simp only [runN, stepT, h]
theorem cond_yes {o : Operand} (h : evalO s o = some (.x (.bool true))) : runN P E (n + 1) (.code (.cond o x y)) s = runN P E n (.code x) s := cond_run h
theorem cond_no {o : Operand} (h : evalO s o = some (.x (.bool false))) : runN P E (n + 1) (.code (.cond o x y)) s = runN P E n (.code y) s := cond_run h
theorem block_run {id : Nat} (h : runN P E n (.code c) s = some (.normal, s1)) : runN P E (n + 1) (.code (.block id c)) s = some (.normal, s1) := by
  simp only [runN, stepT, h]
theorem block_exit {id : Nat} (h : runN P E n (.code c) s = some (.exit id, s1)) : runN P E (n + 1) (.code (.block id c)) s = some (.normal, s1) := by
  simp only [runN, stepT, h, if_true]
theorem block_out {id : Nat} {e : AExit} (he : ∀ i, e ≠ .exit i) (h : runN P E n (.code c) s = some (e, s1)) : runN P E (n + 1) (.code (.block id c)) s = some (e, s1) := by
  cases e <;> first | exact absurd rfl (he _) | simp only [runN, stepT, h]
theorem loop_next (h : runN P E n (.code c) s = some (.normal, s1)) : runN P E (n + 1) (.code (.loop c)) s = runN P E n (.code (.loop c)) s1 := by
  simp only [runN, stepT, h]
theorem loop_out {e : AExit} (he : e ≠ .normal) (h : runN P E n (.code c) s = some (e, s1)) : runN P E (n + 1) (.code (.loop c)) s = some (e, s1) := by
  cases e <;> first | exact absurd rfl he | simp only [runN, stepT, h]
theorem scope_run : runN P E (n + 1) (.code (.scope c)) s = runN P E n (.within c c) s := rfl
theorem within_jump {rest rest1 : Code} {l : Nat} (h : runN P E n (.code rest) s = some (.goto l, s1)) (hf : findLabel c l = some rest1) : runN P E (n + 1) (.within c rest) s = runN P E n (.within c rest1) s1 := by
  simp only [runN, stepT, h, hf]
theorem within_out {rest : Code} {e : AExit} (he : ∀ l, e ≠ .goto l) (h : runN P E n (.code rest) s = some (e, s1)) : runN P E (n + 1) (.within c rest) s = some (e, s1) := by
  cases e <;> first | exact absurd rfl (he _) | simp only [runN, stepT, h]

/-- A call, from its body's run. -/
theorem callA_of {f : FuncId} {args : List AV} {S S' : List Store} {fn : Func} {cd : Code} {e : AExit} {l l1 vs : List AV} {t : Store} {rec : Rec} (hg : E.Γ f args = none) (hf : E.Φ f = some fn) (hb : fn.body = some cd)
    (hr : rec (.code cd) (enterA fn args S) = some (e, s1)) (he : e = .ret ∨ e = .normal) (hl : resultAll P s1 fn.results.toList = some l) (hs : settle s1 l = some (s2, l1)) (ho : outAll s2 [] l1 = some vs) (hst : s2.stores = t :: S') :
    callA P E rec f args S = some (S', oneOf vs) := by
  simp only [callA, hg, hf, hb, hr, he, if_true, hl, hs, ho, hst]
end

/-- More fuel does no harm. -/
theorem evalOs_two_eq {s : St} {x y : Operand} : evalOs s [x, y] = match evalO s x, evalO s y with | some a, some b => some [a, b] | _, _ => none := by
  simp only [evalOs]
  cases evalO s x <;> cases evalO s y <;> rfl
end Go.AbsM
