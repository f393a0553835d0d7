/-
  The abstract machine: more fuel does the same.
-/
import Derived.Test.YtmfegciehdjicaaAbsStep
set_option linter.unusedVariables false
set_option linter.unusedSimpArgs false
namespace Go.AbsM

section
variable {P : Program} {E : Env}

def RecLe (r r' : Rec) : Prop := ∀ (t : Task) (s : St) (z : AExit × St), r t s = some z → r' t s = some z

theorem callA_mono {r r' : Rec} (h : RecLe r r') {f : FuncId} {args : List AV} {S : List Store} {z : List Store × AV} (hz : callA P E r f args S = some z) : callA P E r' f args S = some z := by
  unfold callA at hz ⊢
  cases hg : E.Γ f args with
  | some q => rw [hg] at hz; exact hz
  | none =>
    rw [hg] at hz
    simp only at hz ⊢
    cases hf : E.Φ f with
    | none => rw [hf] at hz; cases hz
    | some fn =>
      rw [hf] at hz
      simp only at hz ⊢
      cases hb : fn.body with
      | none => rw [hb] at hz; cases hz
      | some c =>
        rw [hb] at hz
        simp only at hz ⊢
        cases hr : r (.code c) (enterA fn args S) with
        | none => rw [hr] at hz; cases hz
        | some q =>
          rw [hr] at hz
          rw [h _ _ _ hr]
          exact hz

theorem callOpA_mono {r r' : Rec} (h : RecLe r r') {s s1 : St} {d : Option Nat} {f : FuncId} {args : List AV} (hz : callOpA P E r s d f args = some s1) : callOpA P E r' s d f args = some s1 := by
  unfold callOpA at hz ⊢
  split at hz
  · rename_i ho
    rw [if_pos ho]
    cases hl : lendAll s args with
    | none => rw [hl] at hz; cases hz
    | some p =>
      obtain ⟨s2, as⟩ := p
      rw [hl] at hz
      simp only at hz ⊢
      cases hc : callA P E r f as s2.stores with
      | none => rw [hc] at hz; cases hz
      | some q => rw [hc] at hz; rw [callA_mono h hc]; exact hz
  · rename_i ho
    rw [if_neg ho]
    cases hl : resolveAll s args with
    | none => rw [hl] at hz; cases hz
    | some p =>
      obtain ⟨s2, as⟩ := p
      rw [hl] at hz
      simp only at hz ⊢
      cases hc : callA P E r f as [] with
      | none => rw [hc] at hz; cases hz
      | some q => rw [hc] at hz; rw [callA_mono h hc]; exact hz

theorem stepOp_mono {r r' : Rec} (h : RecLe r r') {s s1 : St} {o : Oper} (hz : stepOp P E r s o = some s1) : stepOp P E r' s o = some s1 := by
  unfold stepOp at hz ⊢
  cases ho : o.op with
  | call c =>
    rw [ho] at hz
    simp only at hz ⊢
    cases hc : c.callee with
    | value f =>
      rw [hc] at hz
      cases f with
      | func f =>
        simp only at hz ⊢
        cases he : evalOs s c.args.toList with
        | none => rw [he] at hz; cases hz
        | some as => rw [he] at hz; exact callOpA_mono h hz
      | _ => exact hz
    | _ => rw [hc] at hz; exact hz
  | _ => rw [ho] at hz; exact hz

theorem quietA_mono {r r' : Rec} (h : RecLe r r') {s s1 : St} {o : Oper} (hz : quietA P E r s o = some s1) : quietA P E r' s o = some s1 := by
  rw [quiet_eq] at hz ⊢
  obtain ⟨v, hv, rfl⟩ := Option.map_eq_some_iff.1 hz
  suffices quietF P E r' s o.op = some v by rw [this]; rfl
  cases ho : o.op with
  | call c =>
    rw [ho] at hv
    simp only [quietF] at hv ⊢
    cases hc : c.callee with
    | value f =>
      rw [hc] at hv
      cases f with
      | func f =>
        simp only at hv ⊢
        cases he : evalOs s c.args.toList with
        | none => rw [he] at hv; cases hv
        | some as =>
          rw [he] at hv
          simp only [callF] at hv ⊢
          cases hl : resolveAll s as with
          | none => rw [hl] at hv; cases hv
          | some p =>
            obtain ⟨s2, bs⟩ := p
            rw [hl] at hv
            simp only at hv ⊢
            cases hcall : callA P E r f bs [] with
            | none => rw [hcall] at hv; cases hv
            | some q => rw [hcall] at hv; rw [callA_mono h hcall]; exact hv
      | _ => exact hv
    | _ => rw [hc] at hv; exact hv
  | _ => rw [ho] at hv; exact hv

theorem drawOp_mono {r r' : Rec} (h : RecLe r r') {s s1 : St} {o : Oper} (hz : drawOp P E r s o = some s1) : drawOp P E r' s o = some s1 := by
  unfold drawOp at hz ⊢
  split at hz
  · rename_i ho; rw [if_pos ho]; exact stepOp_mono h hz
  · rename_i ho; rw [if_neg ho]; exact quietA_mono h hz

theorem opsA_mono {st st' : Oper → St → Option St} (h : ∀ o s s1, st o s = some s1 → st' o s = some s1) {ops : Array Oper} {l : List Nat} {s s1 : St} (hz : opsA st ops l s = some s1) : opsA st' ops l s = some s1 := by
  induction l generalizing s with
  | nil => exact hz
  | cons i r ih =>
    simp only [opsA] at hz ⊢
    cases hi : ops[i]? with
    | none => rw [hi] at hz; exact ih hz
    | some o =>
      rw [hi] at hz
      simp only at hz ⊢
      cases hg : guardA ops s o.guard with
      | none => rw [hg] at hz; cases hz
      | some b =>
        rw [hg] at hz
        cases b with
        | false => exact ih hz
        | true =>
          simp only at hz ⊢
          cases hs : st o s with
          | none => rw [hs] at hz; cases hz
          | some s2 => rw [hs] at hz; rw [h _ _ _ hs]; exact ih hz

theorem stepT_mono {r r' : Rec} (h : RecLe r r') : RecLe (stepT P E r) (stepT P E r') := by
  intro t s z hz
  cases t with
  | within c rest =>
    simp only [stepT] at hz ⊢
    cases h1 : r (.code rest) s with
    | none => rw [h1] at hz; cases hz
    | some q =>
      obtain ⟨e, s1⟩ := q
      rw [h1] at hz
      rw [h _ _ _ h1]
      cases e with
      | goto l =>
        simp only at hz ⊢
        cases hf : findLabel c l with
        | none => rw [hf] at hz; exact hz
        | some rest1 => rw [hf] at hz; exact h _ _ _ hz
      | _ => exact hz
  | code c =>
    cases c with
    | region id ops b =>
      cases b with
      | false =>
        simp only [stepT] at hz ⊢
        cases h1 : opsA (fun o s => stepOp P E r s o) ops (List.range ops.size) s with
        | none => rw [h1] at hz; cases hz
        | some s1 =>
          rw [h1] at hz
          rw [opsA_mono (fun o s s1 h1 => stepOp_mono h h1) h1]
          exact hz
      | true =>
        simp only [stepT] at hz ⊢
        split at hz
        · rename_i hok
          rw [if_pos hok]
          cases h1 : opsA (fun o s => drawOp P E r s o) ops (List.range ops.size) s with
          | none => rw [h1] at hz; cases hz
          | some s1 =>
            rw [h1] at hz
            rw [opsA_mono (fun o s s1 h1 => drawOp_mono h h1) h1]
            exact hz
        · cases hz
    | seq x y =>
      simp only [stepT] at hz ⊢
      cases h1 : r (.code x) s with
      | none => rw [h1] at hz; cases hz
      | some q =>
        obtain ⟨e, s1⟩ := q
        rw [h1] at hz
        rw [h _ _ _ h1]
        cases e with
        | normal => exact h _ _ _ hz
        | _ => exact hz
    | cond o x y =>
      simp only [stepT] at hz ⊢
      split at hz
      · rename_i t ht
        exact h _ _ _ hz
      · cases hz
    | block id x =>
      simp only [stepT] at hz ⊢
      cases h1 : r (.code x) s with
      | none => rw [h1] at hz; cases hz
      | some q => rw [h1] at hz; rw [h _ _ _ h1]; exact hz
    | loop x =>
      simp only [stepT] at hz ⊢
      cases h1 : r (.code x) s with
      | none => rw [h1] at hz; cases hz
      | some q =>
        obtain ⟨e, s1⟩ := q
        rw [h1] at hz
        rw [h _ _ _ h1]
        cases e with
        | normal => exact h _ _ _ hz
        | _ => exact hz
    | scope x => exact h _ _ _ hz
    | _ => exact hz

theorem runN_mono : ∀ n, RecLe (runN P E n) (runN P E (n + 1))
  | 0 => fun t s z h => by simp [runN] at h
  | n + 1 => stepT_mono (runN_mono n)

theorem runN_le {n m : Nat} (h : n ≤ m) : RecLe (runN P E n) (runN P E m) := by
  induction h with
  | refl => exact fun t s z h => h
  | step _ ih => exact fun t s z h => runN_mono _ t s z (ih t s z h)
end
end Go.AbsM
