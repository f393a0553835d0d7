/-
  The abstract machine: what a quiet operation hangs on.
-/
import Derived.Test.YtmfegciehdjicaaAbsOrder
set_option linter.unusedVariables false
set_option linter.unusedSimpArgs false
namespace Go.AbsM

section
variable {P : Program} {E : Env}

def pickF (s : St) (c a b : Operand) : Option AV :=
  match evalO s c with
  | some (.x (.bool t)) => if t then evalO s a else evalO s b
  | _ => none
def nilF (s : St) (x : Operand) : Option AV :=
  match evalO s x with
  | some (.ref i k off) => some (.ref i k off)
  | _ => none
def buildF (P : Program) (s : St) (t : TypeId) (ps : List (Nat × Operand)) : Option AV :=
  match partsA s ps with
  | some l => match zeroT P t, P.underlying t with
    | some z, some (.struct fields) => match placesT P fields.toList with
      | some places => (fillA (places[·]?) z.cells l).map .agg
      | none => none
    | some z, some (.array _ e) => match sizeT P e with
      | some n => (fillA (fun i => some (i * n, n)) z.cells l).map .agg
      | none => none
    | _, _ => none
  | none => none
def loadF (P : Program) (s : St) (t : TypeId) (x : Operand) : Option AV :=
  match evalO s x with
  | some p => loadA P s t p
  | none => none
def fieldAddrF (P : Program) (s : St) (t : TypeId) (x : Operand) (f : Nat) : Option AV :=
  match P.underlying t, evalO s x with
  | some (.struct fields), some p => match fields[f]? with
    | some fd => match sizeT P fd.type with
      | some (_ + 1) => s.fwd fd.offset p
      | _ => none
    | none => none
  | _, _ => none
def indexAddrF (P : Program) (s : St) (t : TypeId) (x y : Operand) : Option AV :=
  match evalO s x, evalO s y with
  | some p, some (.x (.int _ i)) => indexAddrA P s t p i
  | _, _ => none
def fieldF (P : Program) (s : St) (t : TypeId) (x : Operand) (f : Nat) : Option AV :=
  match P.underlying t, evalO s x with
  | some (.struct fields), some (.agg cs) => match fields[f]? with
    | some fd => partA P fd.type cs fd.offset
    | none => none
  | _, _ => none
def indexF (P : Program) (s : St) (t : TypeId) (x y : Operand) : Option AV :=
  match evalO s x, evalO s y with
  | some a, some (.x (.int _ i)) => match P.underlying t with
    | some (.array len e) => match a, sizeT P e with
      | .agg cs, some n => if 0 ≤ i ∧ i < len then partA P e cs (i.toNat * n) else none
      | _, _ => none
    | some .string => match a with
      | .str l => if 0 ≤ i then match l[i.toNat]? with
        | some b => some (.int .u8 b.toNat)
        | none => none else none
      | _ => none
    | _ => none
  | _, _ => none
def extractF (s : St) (x : Operand) (i : Nat) : Option AV :=
  match evalO s x with
  | some (.tup vs) => vs[i]?
  | _ => none
def biF (P : Program) (s : St) (b : Builtin) (ts : List TypeId) (as : List AV) : Option AV :=
  match b with
  | .len => match as, ts with
    | [a], t :: _ => match lenOfA P s t a with
      | some n => some (.int .i64 n)
      | none => none
    | _, _ => none
  | .real => match as with
    | [.x (.complex k a _)] => some (.x (.float k a))
    | _ => none
  | .imag => match as with
    | [.x (.complex k _ b)] => some (.x (.float k b))
    | _ => none
  | .complex => match as with
    | [.x (.float k a), .x (.float k' b)] => if k = k' then some (.x (.complex k a b)) else none
    | _ => none
  | .min => match as with
    | [.x (.int k a), .x (.int _ b)] => some (.int k (if b < a then b else a))
    | _ => none
  | .max => match as with
    | [.x (.int k a), .x (.int _ b)] => some (.int k (if b > a then b else a))
    | _ => none
  | _ => none
def callF (P : Program) (E : Env) (rec : Rec) (s : St) (f : FuncId) (as : List AV) : Option AV :=
  match resolveAll s as with
  | some (_, bs) => match callA P E rec f bs [] with
    | some (_, r) => if r.shut ∧ (r.hasSl = false ∨ as.all AV.isVal = true) then some r.unowns else none
    | none => none
  | none => none

/-- What a quiet operation yields. -/
def quietF (P : Program) (E : Env) (rec : Rec) (s : St) (op : Op) : Option AV :=
  match op with
  | .move x => evalO s x
  | .assign x => evalO s x
  | .pick c a b => pickF s c a b
  | .nilCheck x => nilF s x
  | .build t ps => buildF P s t ps.toList
  | .load t x => loadF P s t x
  | .fieldAddr t x f => fieldAddrF P s t x f
  | .indexAddr t x y => indexAddrF P s t x y
  | .field t x f => fieldF P s t x f
  | .index t x y => indexF P s t x y
  | .slice t x lo hi mx => match evalO s x with
    | some a => sliceA P s t a lo hi mx
    | none => none
  | .binOp op t x y _ => match evalO s x, evalO s y with
    | some a, some b => binA P s op t a b
    | _, _ => none
  | .unOp op _ x => match evalO s x with
    | some a => unA op a
    | none => none
  | .convert src dst x => match evalO s x with
    | some a => convA P s src dst a
    | none => none
  | .extract x i => extractF s x i
  | .call c => match c.callee with
    | .value (.func f) => match evalOs s c.args.toList with
      | some as => callF P E rec s f as
      | none => none
    | .builtin b => match evalOs s c.args.toList with
      | some as => biF P s b c.argTypes.toList as
      | none => none
    | _ => none
  | _ => none

theorem bi_eq (s : St) (d : Option Nat) (b : Builtin) (hb : b = .len ∨ b = .min ∨ b = .max ∨ b = .real ∨ b = .imag ∨ b = .complex) (ts : List TypeId) (as : List AV) : builtinA P s d b ts as = (biF P s b ts as).map fun v => s.put d v := by
  rcases hb with rfl | rfl | rfl | rfl | rfl | rfl
  · rcases as with _ | ⟨x, _ | ⟨y, r⟩⟩
    · rfl
    · rcases ts with _ | ⟨t, r⟩
      · rfl
      · simp only [builtinA, biF]
        cases hl : lenOfA P s t x <;> simp [hl]
    · rfl
  · rcases as with _ | ⟨x, _ | ⟨y, _ | ⟨z, r⟩⟩⟩ <;> try rfl
    · cases x <;> try rfl
      rename_i v; cases v <;> rfl
    · cases x <;> try rfl
      rename_i v
      cases v <;> try rfl
      cases y <;> try rfl
      rename_i v; cases v <;> rfl
    · cases x <;> try rfl
      rename_i v
      cases v <;> try rfl
      cases y <;> try rfl
      rename_i v; cases v <;> rfl
  · rcases as with _ | ⟨x, _ | ⟨y, _ | ⟨z, r⟩⟩⟩ <;> try rfl
    · cases x <;> try rfl
      rename_i v; cases v <;> rfl
    · cases x <;> try rfl
      rename_i v
      cases v <;> try rfl
      cases y <;> try rfl
      rename_i v; cases v <;> rfl
    · cases x <;> try rfl
      rename_i v
      cases v <;> try rfl
      cases y <;> try rfl
      rename_i v; cases v <;> rfl
  · rcases as with _ | ⟨x, _ | ⟨y, r⟩⟩ <;> try rfl
    · cases x <;> try rfl
      rename_i v; cases v <;> rfl
    · cases x <;> try rfl
      rename_i v; cases v <;> rfl
  · rcases as with _ | ⟨x, _ | ⟨y, r⟩⟩ <;> try rfl
    · cases x <;> try rfl
      rename_i v; cases v <;> rfl
    · cases x <;> try rfl
      rename_i v; cases v <;> rfl
  · rcases as with _ | ⟨x, _ | ⟨y, _ | ⟨z, r⟩⟩⟩ <;> try rfl
    · cases x <;> try rfl
      rename_i v; cases v <;> rfl
    · cases x <;> try rfl
      rename_i v
      cases v <;> try rfl
      cases y <;> try rfl
      rename_i v
      cases v <;> try rfl
      simp only [builtinA, biF]
      split <;> rfl
    · cases x <;> try rfl
      rename_i v
      cases v <;> try rfl
      cases y <;> try rfl
      rename_i v; cases v <;> rfl

theorem biF_none {s : St} {b : Builtin} {ts : List TypeId} {as : List AV} {v : AV} (h : biF P s b ts as = some v) : b = .len ∨ b = .min ∨ b = .max ∨ b = .real ∨ b = .imag ∨ b = .complex := by
  unfold biF at h
  split at h <;> simp_all

theorem quiet_eq {rec : Rec} {s : St} {o : Oper} : quietA P E rec s o = (quietF P E rec s o.op).map fun v => s.put o.dst v := by
  cases ho : o.op with
  | move x => simp only [quietA, quietF, opA, ho]
  | assign x => simp only [quietA, quietF, opA, ho]
  | pick c a b =>
    simp only [quietA, quietF, opA, ho, pickF]
    split <;> split <;> simp_all
  | nilCheck x =>
    simp only [quietA, quietF, opA, ho, nilF]
    split <;> split <;> simp_all
  | build t ps =>
    simp only [quietA, quietF, opA, ho, buildF, buildA]
    split
    · split
      · split
        · split <;> simp_all
        · first | rfl | (simp_all; done) | (simp_all; rw [if_neg (by omega)]; rfl)
      · split
        · split <;> simp_all
        · first | rfl | (simp_all; done) | (simp_all; rw [if_neg (by omega)]; rfl)
      · first | rfl | (simp_all; done) | (simp_all; rw [if_neg (by omega)]; rfl)
    · first | rfl | (simp_all; done) | (simp_all; rw [if_neg (by omega)]; rfl)
  | load t x =>
    simp only [quietA, quietF, opA, ho, loadF]
    split <;> split <;> simp_all
  | fieldAddr t x f =>
    simp only [quietA, quietF, opA, ho, fieldAddrF]
    split
    · split
      · split <;> first | rfl | (simp_all; done) | (simp_all; rw [if_neg (by omega)]; rfl)
      · first | rfl | (simp_all; done) | (simp_all; rw [if_neg (by omega)]; rfl)
    · first | rfl | (simp_all; done) | (simp_all; rw [if_neg (by omega)]; rfl)
  | indexAddr t x y =>
    simp only [quietA, quietF, opA, ho, indexAddrF]
    split <;> split <;> simp_all
  | field t x f =>
    simp only [quietA, quietF, opA, ho, fieldF]
    split
    · split <;> first | rfl | (simp_all; done) | (simp_all; rw [if_neg (by omega)]; rfl)
    · first | rfl | (simp_all; done) | (simp_all; rw [if_neg (by omega)]; rfl)
  | index t x y =>
    simp only [quietA, quietF, opA, ho, indexF]
    split
    · split
      · split
        · split <;> first | rfl | (simp_all; done) | (simp_all; rw [if_neg (by omega)]; rfl)
        · first | rfl | (simp_all; done) | (simp_all; rw [if_neg (by omega)]; rfl)
      · split
        · split
          · split <;> first | rfl | (simp_all; done) | (simp_all; rw [if_neg (by omega)]; rfl)
          · first | rfl | (simp_all; done) | (simp_all; rw [if_neg (by omega)]; rfl)
        · first | rfl | (simp_all; done) | (simp_all; rw [if_neg (by omega)]; rfl)
      · first | rfl | (simp_all; done) | (simp_all; rw [if_neg (by omega)]; rfl)
    · first | rfl | (simp_all; done) | (simp_all; rw [if_neg (by omega)]; rfl)
  | slice t x lo hi mx =>
    simp only [quietA, quietF, opA, ho]
    split <;> first | rfl | simp_all
  | binOp op t x y p =>
    simp only [quietA, quietF, opA, ho]
    split <;> first | rfl | simp_all
  | unOp op t x =>
    simp only [quietA, quietF, opA, ho]
    split <;> first | rfl | simp_all
  | convert src dst x =>
    simp only [quietA, quietF, ho]
    split <;> first | rfl | simp_all
  | extract x i =>
    simp only [quietA, quietF, opA, ho, extractF]
    split <;> split <;> simp_all
  | call c =>
    simp only [quietA, quietF, ho]
    cases hc : c.callee with
    | value f =>
      cases f with
      | func f =>
        rcases h1 : evalOs s c.args.toList with _ | as
        · rfl
        · rcases h2 : resolveAll s as with _ | ⟨s1, bs⟩
          · simp only [callF, h2]; rfl
          · rcases h3 : callA P E rec f bs [] with _ | ⟨S, r⟩
            · simp only [callF, h2, h3]; rfl
            · simp only [callF, h2, h3]
              split <;> rfl
      | _ => rfl
    | invoke r n => rfl
    | builtin b =>
      have key : (b = .len ∨ b = .min ∨ b = .max ∨ b = .real ∨ b = .imag ∨ b = .complex) → opA P s o = (match evalOs s c.args.toList with | some as => biF P s b c.argTypes.toList as | none => none).map fun v => s.put o.dst v := by
        intro hb
        simp only [opA, ho, hc]
        rcases h1 : evalOs s c.args.toList with _ | as
        · rfl
        · exact bi_eq s o.dst b hb _ _
      have other : ¬ (b = .len ∨ b = .min ∨ b = .max ∨ b = .real ∨ b = .imag ∨ b = .complex) → none = (match evalOs s c.args.toList with | some as => biF P s b c.argTypes.toList as | none => none).map fun v => s.put o.dst v := by
        intro hb
        rcases h1 : evalOs s c.args.toList with _ | as
        · rfl
        · simp only
          cases hq : biF P s b c.argTypes.toList as with
          | none => rfl
          | some v => exact absurd (biF_none hq) hb
      cases b <;> first | exact key (by simp) | exact other (by simp)
  | _ => simp only [quietA, quietF, ho]; rfl

end
end Go.AbsM
