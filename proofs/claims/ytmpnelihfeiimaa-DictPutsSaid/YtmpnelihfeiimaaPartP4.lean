/-
  Texts of a proof over the translated program: proved evaluators and walks, part 4 of 19.
-/
import Derived.Test.YtmpnelihfeiimaaPartP3
import Derived.Great.BuildSlice
import Derived.Laws.IdiomStrings
import Derived.Orders
import Derived.WalkKit
set_option linter.unusedVariables false
set_option linter.unusedSimpArgs false
set_option linter.unusedSectionVars false
set_option linter.unnecessarySimpa false
section
namespace Go.AbsM
section
variable {ops : Array Oper} {st : Oper → St → Option St}
theorem opsA_cons (i : Nat) (r : List Nat) (s : St) : opsA st ops (i :: r) s = (ab st ops i s).bind (opsA st ops r) := by
  simp only [opsA, ab]
  cases ops[i]? with
  | none => rfl
  | some o =>
    simp only
    cases guardA ops s o.guard with
    | none => rfl
    | some b =>
      cases b with
      | false => rfl
      | true =>
        simp only
        cases st o s <;> rfl
def AnyA (ab : Nat → St → Option St) (ops : Array Oper) : Nat → Array Bool → St → St → Prop
  | 0, listed, s, s' => Region.ready .any ops listed = [] ∧ s = s'
  | n + 1, listed, s, s' => (Region.ready .any ops listed = [] → s = s') ∧ ∀ i ∈ Region.ready .any ops listed, ∃ s1, ab i s = some s1 ∧ AnyA ab ops n (listed.setIfInBounds i true) s1 s'
theorem AnyA.sound : ∀ (fuel t : Nat) (listed : Array Bool) (s s' : St), AnyA (ab st ops) ops fuel listed s s' → opsA st ops (Region.linearise.go .any ops fuel t listed []) s = some s' := by
  intro fuel
  induction fuel with
  | zero => intro t listed s s' h; rw [h.2]; rfl
  | succ fuel ih =>
    intro t listed s s' h
    obtain ⟨h0, h1⟩ := h
    simp only [Region.linearise.go]
    change opsA st ops (match (Region.ready .any ops listed)[t % (Region.ready .any ops listed).length]? with
      | some i => Region.linearise.go .any ops fuel (t / (Region.ready .any ops listed).length) (listed.setIfInBounds i true) [i]
      | none => [].reverse) s = some s'
    cases hi : (Region.ready .any ops listed)[t % (Region.ready .any ops listed).length]? with
    | none =>
      have hnil : Region.ready .any ops listed = [] := by
        cases hr : Region.ready .any ops listed with
        | nil => rfl
        | cons x xs =>
          rw [hr] at hi
          have hlt : t % (x :: xs).length < (x :: xs).length := Nat.mod_lt _ (by simp)
          simp at hi
          simp at hlt
          omega
      rw [h0 hnil]; rfl
    | some i =>
      simp only []
      obtain ⟨s1, hs1, hr⟩ := h1 i (List.mem_of_getElem? hi)
      rw [linearise_go_acc, List.reverse_singleton, List.singleton_append, opsA_cons, hs1]
      exact ih _ _ _ _ hr
def Comm (ab : Nat → St → Option St) (i j : Nat) : Prop := ∀ s si sij, ab i s = some si → ab j si = some sij → ∃ sj, ab j s = some sj ∧ ab i sj = some sij
theorem getD_true_of {R : Array Bool} {j : Nat} (hj : j < R.size) (h : R.getD j false ≠ true) : R.getD j true = false := by
  simp [hj] at h ⊢; exact h
theorem AnyA.first {ab : Nat → St → Option St} {i : Nat} {R listed0 : Array Bool} (hsz : R.size = ops.size) (hcl : ∀ j, j ∈ Region.ready .any ops R → j = i) (hcomm : ∀ j, R.getD j false = true → listed0.getD j true = false → Comm ab i j) :
    ∀ (fuel : Nat) (listed : Array Bool) (s s1 s' : St), (∀ j, listed.getD j false = true → R.getD j false = true) → (∀ j, listed.getD j true = false → listed0.getD j true = false) → i ∈ Region.ready .any ops listed → ab i s = some s1 →
      AnyA ab ops fuel (listed.setIfInBounds i true) s1 s' → AnyA ab ops (fuel + 1) listed s s' := by
  intro fuel
  induction fuel with
  | zero =>
    intro listed s s1 s' hR h0 hi hab H
    refine ⟨fun h => (by rw [h] at hi; cases hi), fun j hj => ?_⟩
    by_cases hji : j = i
    · subst hji; exact ⟨s1, hab, H⟩
    · have := ready_mono hj hji
      rw [H.1] at this
      cases this
  | succ fuel ih =>
    intro listed s s1 s' hR h0 hi hab H
    refine ⟨fun h => (by rw [h] at hi; cases hi), fun j hj => ?_⟩
    by_cases hji : j = i
    · subst hji; exact ⟨s1, hab, H⟩
    · obtain ⟨s2, h2, H2⟩ := H.2 j (ready_mono hj hji)
      obtain ⟨hjun, oj, hoj, hall⟩ := mem_ready.1 hj
      have hjsz : j < ops.size := (Array.getElem?_eq_some_iff.1 hoj).1
      have hjR : R.getD j false = true := Classical.byContradiction fun hn => hji (hcl j (mem_ready.2 ⟨getD_true_of (by omega) hn, oj, hoj, fun e he hb => hR _ (hall e he hb)⟩))
      obtain ⟨sj, q1, q2⟩ := hcomm j hjR (h0 j hjun) s s1 s2 hab h2
      refine ⟨sj, q1, ih (listed.setIfInBounds j true) sj s2 s' (fun m hm => ?_) (fun m hm => ?_) (ready_mono hi (Ne.symm hji)) q2 ?_⟩
      · by_cases hmj : j = m
        · subst hmj; exact hjR
        · rw [getD_set_ne false hmj] at hm; exact hR m hm
      · by_cases hmj : j = m
        · subst hmj; exact h0 j hjun
        · rw [getD_set_ne true hmj] at hm; exact h0 m hm
      · rw [Array.setIfInBounds_comm _ _ hji]
        exact H2
def around (ops : Array Oper) (i : Nat) : Nat → Array Bool → Array Bool
  | 0, R => R
  | n + 1, R => match (Region.ready .any ops R).filter (fun j => j != i) with
    | [] => R
    | js => around ops i n (js.foldl (fun R j => R.setIfInBounds j true) R)
def commB (solo : Oper → Bool) (ops : Array Oper) (i j : Nat) : Bool :=
  match ops[i]?, ops[j]? with
  | some x, some y => !solo x && !solo y && Oper.apart ops x y
  | _, _ => false
def checkAt (solo : Oper → Bool) (ops : Array Oper) (i : Nat) (listed : Array Bool) : Bool :=
  let R := around ops i ops.size listed
  R.size == ops.size && (Region.ready .any ops R).all (· == i) && (List.range ops.size).all fun j => (!listed.getD j false || R.getD j false) && (!R.getD j false || listed.getD j true || commB solo ops i j)
def drawFrom (solo : Oper → Bool) (ops : Array Oper) : Nat → Nat → Array Bool → Bool
  | 0, _, listed => (Region.ready .any ops listed).isEmpty
  | n + 1, k, listed => (Region.ready .any ops listed).contains k && checkAt solo ops k listed && drawFrom solo ops n (k + 1) (listed.setIfInBounds k true)
def drawB (solo : Oper → Bool) (ops : Array Oper) : Bool := drawFrom solo ops ops.size 0 (Array.replicate ops.size false)
def Dep (st : Oper → St → Option St) (ops : Array Oper) (o : Oper) : Prop :=
  ∀ (s s1 : St), st o s = some s1 → ∃ v, s1 = s.put o.dst v ∧ ∀ s' : St, s'.stores = s.stores → (∀ t, t ∈ o.looksAt ops → s'.get t = s.get t) → st o s' = some (s'.put o.dst v)
theorem get_put {s : St} {d : Option Nat} {v : AV} {t : Nat} (h : d ≠ some t) : (s.put d v).get t = s.get t := by
  cases d with
  | none => rfl
  | some d =>
    have : d ≠ t := fun e => h (by rw [e])
    simp [St.put, St.get, List.getElem?_set_ne this]
theorem put_comm {s : St} {d d' : Option Nat} {v v' : AV} (h : ∀ k, d = some k → d' ≠ some k) : (s.put d v).put d' v' = (s.put d' v').put d v := by
  cases d with
  | none => rfl
  | some d =>
    cases d' with
    | none => rfl
    | some d' =>
      have : d ≠ d' := fun e => h d rfl (by rw [e])
      simp [St.put, List.set_comm _ _ this]
theorem guard_dep {s s' : St} {o : Oper} (h : ∀ t, t ∈ o.looksAt ops → s'.get t = s.get t) : guardA ops s' o.guard = guardA ops s o.guard := by
  cases hg : o.guard with
  | none => rfl
  | some p =>
    obtain ⟨j, want⟩ := p
    simp only [guardA]
    cases hd : (ops[j]?).bind (·.dst) with
    | none => rfl
    | some t =>
      have : t ∈ o.looksAt ops := by
        unfold Oper.looksAt
        simp [hg, hd]
      simp only [h t this]
theorem ab_dep {i : Nat} {o : Oper} (hi : ops[i]? = some o) (h : Dep st ops o) (s s1 : St) (h1 : ab st ops i s = some s1) :
    ∃ v, s1 = s.put o.dst v ∧ ∀ s' : St, s'.stores = s.stores → (∀ t, t ∈ o.looksAt ops → s'.get t = s.get t) → ab st ops i s' = some (s'.put o.dst v) := by
  simp only [ab, hi] at h1 ⊢
  cases hg : guardA ops s o.guard with
  | none => rw [hg] at h1; cases h1
  | some b =>
    rw [hg] at h1
    cases b with
    | false =>
      simp only [Option.some.injEq] at h1
      exact ⟨.und, h1.symm, fun s' hs hl => by rw [guard_dep hl, hg]⟩
    | true =>
      obtain ⟨v, hv, hr⟩ := h s s1 h1
      exact ⟨v, hv, fun s' hs hl => by rw [guard_dep hl, hg]; exact hr s' hs hl⟩
theorem comm_of_dep {i j : Nat} {x y : Oper} (hi : ops[i]? = some x) (hj : ops[j]? = some y) (hx : Dep st ops x) (hy : Dep st ops y) (hap : Oper.apart ops x y = true) : Comm (ab st ops) i j := by
  intro s si sij h1 h2
  obtain ⟨p1, p2, p3⟩ := Oper.apart_spec hap
  obtain ⟨v, rfl, hv⟩ := ab_dep hi hx s si h1
  obtain ⟨u, rfl, hu⟩ := ab_dep hj hy _ sij h2
  refine ⟨s.put y.dst u, hu s (put_stores _ _ _).symm fun t ht => (get_put fun hd => p1 t hd ht).symm, ?_⟩
  rw [hv (s.put y.dst u) (put_stores _ _ _) fun t ht => get_put fun hd => p3 t hd ht]
  rw [put_comm fun k hk => p2 k hk]
end
end Go.AbsM
end

section
namespace Go.AbsM
section
variable {P : Program} {E : Env}
def pickF (s : St) (c a b : Operand) : Option AV :=
  match evalO s c with
  | some (.x (.bool t)) => if t then evalO s a else evalO s b
  | _ => none
def nilF (s : St) (x : Operand) : Option AV :=
  match evalO s x with
  | some (.ref i k off) => some (.ref i k off)
  | _ => none
def nilQ (s : St) (x : Operand) : Option AV :=
  match evalO s x with
  | some a => if nilA s a then some a else none
  | none => none
def buildF (P : Program) (s : St) (t : TypeId) (ps : List (Nat × Operand)) : Option AV :=
  match partsA s ps with
  | some l => match zeroT P t, P.underlying t with
    | some z, some (.struct fields) => match placesT P fields.toList with
      | some places => (fillA (places[·]?) z.cells l).map .agg
      | none => none
    | some z, some (.array _ e) => match sizeT P e with
      | some n => (fillA (fun i => some (i * n, n)) z.cells l).map .agg
      | none => none
    | _, _ => none
  | none => none
def loadF (P : Program) (s : St) (t : TypeId) (x : Operand) : Option AV :=
  match evalO s x with
  | some p => loadA P s t p
  | none => none
def fieldAddrF (P : Program) (s : St) (t : TypeId) (x : Operand) (f : Nat) : Option AV :=
  match P.underlying t, evalO s x with
  | some (.struct fields), some p => match fields[f]? with
    | some fd => match sizeT P fd.type with
      | some (_ + 1) => s.fwd fd.offset p
      | _ => none
    | none => none
  | _, _ => none
def indexAddrF (P : Program) (s : St) (t : TypeId) (x y : Operand) : Option AV :=
  match evalO s x, evalO s y with
  | some p, some (.x (.int _ i)) => indexAddrA P s t p i
  | _, _ => none
def fieldF (P : Program) (s : St) (t : TypeId) (x : Operand) (f : Nat) : Option AV :=
  match P.underlying t, evalO s x with
  | some (.struct fields), some (.agg cs) => match fields[f]? with
    | some fd => partA P fd.type cs fd.offset
    | none => none
  | _, _ => none
def indexF (P : Program) (s : St) (t : TypeId) (x y : Operand) : Option AV :=
  match evalO s x, evalO s y with
  | some a, some (.x (.int _ i)) => match P.underlying t with
    | some (.array len e) => match a, sizeT P e with
      | .agg cs, some n => if 0 ≤ i ∧ i < len then partA P e cs (i.toNat * n) else none
      | _, _ => none
    | some .string => match a with
      | .str l => if 0 ≤ i then match l[i.toNat]? with
        | some b => some (.int .u8 b.toNat)
        | none => none else none
      | _ => none
    | _ => none
  | _, _ => none
def extractF (s : St) (x : Operand) (i : Nat) : Option AV :=
  match evalO s x with
  | some (.tup vs) => vs[i]?
  | _ => none
def biF (P : Program) (s : St) (b : Builtin) (ts : List TypeId) (as : List AV) : Option AV :=
  match b with
  | .len => match as, ts with
    | [a], t :: _ => match lenOfA P s t a with
      | some n => some (.int .i64 n)
      | none => none
    | _, _ => none
  | .real => match as with
    | [.x (.complex k a _)] => some (.x (.float k a))
    | _ => none
  | .imag => match as with
    | [.x (.complex k _ b)] => some (.x (.float k b))
    | _ => none
  | .complex => match as with
    | [.x (.float k a), .x (.float k' b)] => if k = k' then some (.x (.complex k a b)) else none
    | _ => none
  | .min => match as with
    | [.x (.int k a), .x (.int _ b)] => some (.int k (if b < a then b else a))
    | [.x (.float k a), .x (.float _ b)] => (minF k a b).map fun r => .x (.float k r)
    | _ => none
  | .max => match as with
    | [.x (.int k a), .x (.int _ b)] => some (.int k (if b > a then b else a))
    | [.x (.float k a), .x (.float _ b)] => (maxF k a b).map fun r => .x (.float k r)
    | _ => none
  | _ => none
def callF (P : Program) (E : Env) (rec : Rec) (s : St) (f : FuncId) (as : List AV) : Option AV :=
  match resolveAll s as with
  | some (_, bs) => match callA P E rec f bs [] with
    | some (_, r) => if r.shut ∧ (r.hasSl = false ∨ as.all AV.isVal = true) then some r.unowns else none
    | none => none
  | none => readA P E rec f as s.stores
def quietF (P : Program) (E : Env) (rec : Rec) (s : St) (op : Op) : Option AV :=
  match op with
  | .move x => evalO s x
  | .assign x => evalO s x
  | .pick c a b => pickF s c a b
  | .nilCheck x => nilQ s x
  | .build t ps => buildF P s t ps.toList
  | .load t x => loadF P s t x
  | .fieldAddr t x f => fieldAddrF P s t x f
  | .indexAddr t x y => indexAddrF P s t x y
  | .field t x f => fieldF P s t x f
  | .index t x y => indexF P s t x y
  | .slice t x lo hi mx => match evalO s x with
    | some a => sliceA P s t a lo hi mx
    | none => none
  | .binOp op t x y _ => match evalO s x, evalO s y with
    | some a, some b => binA P s op t a b
    | _, _ => none
  | .unOp op _ x => match evalO s x with
    | some a => unA op a
    | none => none
  | .convert src dst x => match evalO s x with
    | some a => convA P s src dst a
    | none => none
  | .extract x i => extractF s x i
  | .call c => match calleeA s c.callee with
    | some f => match evalOs s c.args.toList with
      | some as => callF P E rec s f as
      | none => none
    | none => (match c.callee with
      | .builtin b => match evalOs s c.args.toList with
        | some as => biF P s b c.argTypes.toList as
        | none => none
      | _ => none)
  | _ => none
theorem bi_eq (s : St) (d : Option Nat) (b : Builtin) (hb : b = .len ∨ b = .min ∨ b = .max ∨ b = .real ∨ b = .imag ∨ b = .complex) (ts : List TypeId) (as : List AV) : builtinA P s d b ts as = (biF P s b ts as).map fun v => s.put d v := by
  rcases hb with rfl | rfl | rfl | rfl | rfl | rfl
  · rcases as with _ | ⟨x, _ | ⟨y, r⟩⟩
    · rfl
    · rcases ts with _ | ⟨t, r⟩
      · rfl
      · simp only [builtinA, biF]
        cases hl : lenOfA P s t x <;> simp [hl]
    · rfl
  · rcases as with _ | ⟨x, _ | ⟨y, _ | ⟨z, r⟩⟩⟩ <;> try rfl
    all_goals (cases x <;> try rfl)
    all_goals (rename_i v; cases v <;> try rfl)
    all_goals (cases y <;> try rfl)
    all_goals (rename_i v; cases v <;> try rfl)
    all_goals (simp only [builtinA, biF, Option.map_map]; rfl)
  · rcases as with _ | ⟨x, _ | ⟨y, _ | ⟨z, r⟩⟩⟩ <;> try rfl
    all_goals (cases x <;> try rfl)
    all_goals (rename_i v; cases v <;> try rfl)
    all_goals (cases y <;> try rfl)
    all_goals (rename_i v; cases v <;> try rfl)
    all_goals (simp only [builtinA, biF, Option.map_map]; rfl)
  · rcases as with _ | ⟨x, _ | ⟨y, r⟩⟩ <;> try rfl
    · cases x <;> try rfl
      rename_i v; cases v <;> rfl
    · cases x <;> try rfl
      rename_i v; cases v <;> rfl
  · rcases as with _ | ⟨x, _ | ⟨y, r⟩⟩ <;> try rfl
    · cases x <;> try rfl
      rename_i v; cases v <;> rfl
    · cases x <;> try rfl
      rename_i v; cases v <;> rfl
  · rcases as with _ | ⟨x, _ | ⟨y, _ | ⟨z, r⟩⟩⟩ <;> try rfl
    · cases x <;> try rfl
      rename_i v; cases v <;> rfl
    · cases x <;> try rfl
      rename_i v
      cases v <;> try rfl
      cases y <;> try rfl
      rename_i v
      cases v <;> try rfl
      simp only [builtinA, biF]
      split <;> rfl
    · cases x <;> try rfl
      rename_i v
      cases v <;> try rfl
      cases y <;> try rfl
      rename_i v; cases v <;> rfl
theorem biF_none {s : St} {b : Builtin} {ts : List TypeId} {as : List AV} {v : AV} (h : biF P s b ts as = some v) : b = .len ∨ b = .min ∨ b = .max ∨ b = .real ∨ b = .imag ∨ b = .complex := by
  unfold biF at h
  split at h <;> simp_all
theorem quiet_eq {rec : Rec} {s : St} {o : Oper} : quietA P E rec s o = (quietF P E rec s o.op).map fun v => s.put o.dst v := by
  cases ho : o.op with
  | move x => simp only [quietA, quietF, opA, ho]
  | assign x => simp only [quietA, quietF, opA, ho]
  | pick c a b =>
    simp only [quietA, quietF, opA, ho, pickF]
    split <;> split <;> simp_all
  | nilCheck x =>
    simp only [quietA, quietF, opA, ho, nilQ]
    cases evalO s x with
    | none => rfl
    | some y => simp only; split <;> rfl
  | build t ps =>
    simp only [quietA, quietF, opA, ho, buildF, buildA]
    split
    · split
      · split
        · split <;> simp_all
        · first | rfl | (simp_all; done) | (simp_all; rw [if_neg (by omega)]; rfl)
      · split
        · split <;> simp_all
        · first | rfl | (simp_all; done) | (simp_all; rw [if_neg (by omega)]; rfl)
      · first | rfl | (simp_all; done) | (simp_all; rw [if_neg (by omega)]; rfl)
    · first | rfl | (simp_all; done) | (simp_all; rw [if_neg (by omega)]; rfl)
  | load t x =>
    simp only [quietA, quietF, opA, ho, loadF]
    split <;> split <;> simp_all
  | fieldAddr t x f =>
    simp only [quietA, quietF, opA, ho, fieldAddrF]
    split
    · split
      · split <;> first | rfl | (simp_all; done) | (simp_all; rw [if_neg (by omega)]; rfl)
      · first | rfl | (simp_all; done) | (simp_all; rw [if_neg (by omega)]; rfl)
    · first | rfl | (simp_all; done) | (simp_all; rw [if_neg (by omega)]; rfl)
  | indexAddr t x y =>
    simp only [quietA, quietF, opA, ho, indexAddrF]
    split <;> split <;> simp_all
  | field t x f =>
    simp only [quietA, quietF, opA, ho, fieldF]
    split
    · split <;> first | rfl | (simp_all; done) | (simp_all; rw [if_neg (by omega)]; rfl)
    · first | rfl | (simp_all; done) | (simp_all; rw [if_neg (by omega)]; rfl)
  | index t x y =>
    simp only [quietA, quietF, opA, ho, indexF]
    split
    · split
      · split
        · split <;> first | rfl | (simp_all; done) | (simp_all; rw [if_neg (by omega)]; rfl)
        · first | rfl | (simp_all; done) | (simp_all; rw [if_neg (by omega)]; rfl)
      · split
        · split
          · split <;> first | rfl | (simp_all; done) | (simp_all; rw [if_neg (by omega)]; rfl)
          · first | rfl | (simp_all; done) | (simp_all; rw [if_neg (by omega)]; rfl)
        · first | rfl | (simp_all; done) | (simp_all; rw [if_neg (by omega)]; rfl)
      · first | rfl | (simp_all; done) | (simp_all; rw [if_neg (by omega)]; rfl)
    · first | rfl | (simp_all; done) | (simp_all; rw [if_neg (by omega)]; rfl)
  | slice t x lo hi mx =>
    simp only [quietA, quietF, opA, ho]
    split <;> first | rfl | simp_all
  | binOp op t x y p =>
    simp only [quietA, quietF, opA, ho]
    split <;> first | rfl | simp_all
  | unOp op t x =>
    simp only [quietA, quietF, opA, ho]
    split <;> first | rfl | simp_all
  | convert src dst x =>
    simp only [quietA, quietF, ho]
    split <;> first | rfl | simp_all
  | extract x i =>
    simp only [quietA, quietF, opA, ho, extractF]
    split <;> split <;> simp_all
  | call c =>
    simp only [quietA, quietF, ho]
    rcases hce : calleeA s c.callee with _ | f
    case some =>
      simp only
      rcases h1 : evalOs s c.args.toList with _ | as
      · rfl
      · rcases h2 : resolveAll s as with _ | ⟨s1, bs⟩
        · simp only [callF, h2]
        · rcases h3 : callA P E rec f bs [] with _ | ⟨S, r⟩
          · simp only [callF, h2, h3]; rfl
          · simp only [callF, h2, h3]
            split <;> rfl
    simp only
    cases hc : c.callee with
    | value f => rfl
    | invoke r n => rfl
    | builtin b =>
      have key : (b = .len ∨ b = .min ∨ b = .max ∨ b = .real ∨ b = .imag ∨ b = .complex) → opA P s o = (match evalOs s c.args.toList with | some as => biF P s b c.argTypes.toList as | none => none).map fun v => s.put o.dst v := by
        intro hb
        simp only [opA, ho, hc]
        rcases h1 : evalOs s c.args.toList with _ | as
        · rfl
        · exact bi_eq s o.dst b hb _ _
      have other : ¬ (b = .len ∨ b = .min ∨ b = .max ∨ b = .real ∨ b = .imag ∨ b = .complex) → none = (match evalOs s c.args.toList with | some as => biF P s b c.argTypes.toList as | none => none).map fun v => s.put o.dst v := by
        intro hb
        rcases h1 : evalOs s c.args.toList with _ | as
        · rfl
        · simp only
          cases hq : biF P s b c.argTypes.toList as with
          | none => rfl
          | some v => exact absurd (biF_none hq) hb
      cases b <;> first | exact key (by simp) | exact other (by simp)
  | _ => simp only [quietA, quietF, ho]; rfl
end
end Go.AbsM
end

section
namespace Go.AbsM
section
variable {P : Program} {E : Env}
variable {s s' : St}
theorem evalO_dep {ops : Array Oper} {o : Oper} (hl : ∀ t, t ∈ o.looksAt ops → s'.get t = s.get t) {x : Operand} (hx : x ∈ o.op.operands.toList) : evalO s' x = evalO s x := by
  cases x with
  | tmp t =>
    simp only [evalO]
    rw [hl t]
    unfold Oper.looksAt
    refine List.mem_append_left _ ?_
    exact List.mem_filterMap.2 ⟨_, hx, rfl⟩
  | _ => rfl
theorem evalOs_dep {l : List Operand} (h : ∀ x, x ∈ l → evalO s' x = evalO s x) : evalOs s' l = evalOs s l := by
  induction l with
  | nil => rfl
  | cons x r ih => simp only [evalOs, h x List.mem_cons_self, ih fun y hy => h y (List.mem_cons_of_mem _ hy)]
theorem partsA_dep {l : List (Nat × Operand)} (h : ∀ x, x ∈ l.map (·.2) → evalO s' x = evalO s x) : partsA s' l = partsA s l := by
  induction l with
  | nil => rfl
  | cons x r ih =>
    obtain ⟨i, x⟩ := x
    simp only [partsA, h x (by simp), ih fun y hy => h y (by simp only [List.map_cons]; exact List.mem_cons_of_mem _ hy)]
theorem elems_dep (hs : s'.stores = s.stores) (i k lo n tot : Nat) : s'.elems i k lo n tot = s.elems i k lo n tot := by simp only [St.elems, hs]
theorem src_dep (hs : s'.stores = s.stores) (e : TypeId) (a : AV) : s'.src P e a = s.src P e a := by cases a <;> simp only [St.src, elems_dep hs]
theorem convA_dep (hs : s'.stores = s.stores) (src dst : TypeId) (a : AV) : convA P s' src dst a = convA P s src dst a := by
  cases a with
  | x v => cases v <;> simp only [convA, src_dep hs]
  | _ => simp only [convA, src_dep hs]
theorem fwd_dep (hs : s'.stores = s.stores) (n : Nat) (p : AV) : s'.fwd n p = s.fwd n p := by cases p <;> simp only [St.fwd, hs]
theorem isNilT_dep (hs : s'.stores = s.stores) (t : TypeId) (a : AV) : isNilT P s' t a = isNilT P s t a := by
  have : isNilA s' a = isNilA s a := by
    cases a with
    | arr i k e lo n tot => cases n <;> simp only [isNilA, elems_dep hs]
    | sl e xs => cases xs <;> rfl
    | _ => rfl
  simp only [isNilT, this]
theorem binA_dep (hs : s'.stores = s.stores) (op : BinOp) (t : TypeId) (x y : AV) : binA P s' op t x y = binA P s op t x y := by
  unfold binA
  simp only [isNilT_dep hs]
theorem loadA_dep (hs : s'.stores = s.stores) (t : TypeId) (p : AV) : loadA P s' t p = loadA P s t p := by cases p <;> simp only [loadA, hs]
theorem indexAddrA_dep (hs : s'.stores = s.stores) (t : TypeId) (p : AV) (i : Int) : indexAddrA P s' t p i = indexAddrA P s t p i := by
  unfold indexAddrA
  simp only [elems_dep hs, fwd_dep hs]
theorem boundA_dep {x : Option Operand} (h : ∀ y, x = some y → evalO s' y = evalO s y) (d m : Nat) : boundA s' d m x = boundA s d m x := by
  cases x with
  | none => rfl
  | some y => simp only [boundA, h y rfl]
theorem sliceA_dep (hs : s'.stores = s.stores) {lo hi mx : Option Operand} (h1 : ∀ y, lo = some y → evalO s' y = evalO s y) (h2 : ∀ y, hi = some y → evalO s' y = evalO s y) (h3 : ∀ y, mx = some y → evalO s' y = evalO s y) (t : TypeId) (a : AV) :
    sliceA P s' t a lo hi mx = sliceA P s t a lo hi mx := by
  have e1 := boundA_dep (s := s) (s' := s') h1
  have e2 := boundA_dep (s := s) (s' := s') h2
  have e3 := boundA_dep (s := s) (s' := s') h3
  cases mx with
  | none => simp only [sliceA, e1, e2, elems_dep hs]
  | some m => cases hi with
    | none => simp only [sliceA, e1, elems_dep hs]
    | some h => simp only [sliceA, e1, e2, e3, elems_dep hs]
theorem lenOfA_dep (hs : s'.stores = s.stores) (t : TypeId) (a : AV) : lenOfA P s' t a = lenOfA P s t a := by
  unfold lenOfA
  simp only [elems_dep hs]
theorem biF_dep (hs : s'.stores = s.stores) (b : Builtin) (ts : List TypeId) (as : List AV) : biF P s' b ts as = biF P s b ts as := by
  unfold biF
  simp only [lenOfA_dep hs]
theorem setFz_dep (hs : s'.stores = s.stores) (i k : Nat) : (s'.setFz i k).stores = (s.setFz i k).stores := by
  simp only [St.setFz, hs]
  split <;> first | rfl | exact hs
theorem resolve1_dep (hs : s'.stores = s.stores) (a : AV) : (resolve1 s' a).map (fun p => (p.1.stores, p.2)) = (resolve1 s a).map fun p => (p.1.stores, p.2) := by
  cases a with
  | arr i k e lo n tot =>
    simp only [resolve1, elems_dep hs]
    cases s.elems i k lo n tot with
    | none => rfl
    | some xs => simp [setFz_dep hs]
  | _ => simp [resolve1, hs]
theorem resolveL_dep : ∀ (l : List AV) (s s' : St), s'.stores = s.stores → (resolveL s' l).map (fun p => (p.1.stores, p.2)) = (resolveL s l).map fun p => (p.1.stores, p.2) := by
  intro l
  induction l with
  | nil => intro s s' hs; simp [resolveL, hs]
  | cons a r ih =>
    intro s s' hs
    have h1 := resolve1_dep hs a
    simp only [resolveL]
    cases ha : resolve1 s a with
    | none =>
      rw [ha] at h1
      simp at h1
      rw [h1]
    | some p =>
      rw [ha] at h1
      simp only [Option.map_some, Option.map_eq_some_iff] at h1
      obtain ⟨q, hq, he⟩ := h1
      rw [hq]
      obtain ⟨s1, b⟩ := p
      obtain ⟨s2, b'⟩ := q
      simp only [Prod.mk.injEq] at he
      obtain ⟨he, rfl⟩ := he
      have h2 := ih s1 s2 he
      simp only
      cases hr : resolveL s1 r with
      | none => rw [hr] at h2; simp at h2; rw [h2]
      | some p =>
        rw [hr] at h2
        simp only [Option.map_some, Option.map_eq_some_iff] at h2
        obtain ⟨q, hq, he⟩ := h2
        rw [hq]
        simp only [Prod.mk.injEq] at he
        simp [he.1, he.2]
theorem resolve_dep (hs : s'.stores = s.stores) (a : AV) : (resolve s' a).map (fun p => (p.1.stores, p.2)) = (resolve s a).map fun p => (p.1.stores, p.2) := by
  cases a with
  | agg cs =>
    have h := resolveL_dep cs s s' hs
    simp only [resolve]
    cases hr : resolveL s cs with
    | none => rw [hr] at h; simp at h; rw [h]
    | some p =>
      rw [hr] at h
      simp only [Option.map_some, Option.map_eq_some_iff] at h
      obtain ⟨q, hq, he⟩ := h
      rw [hq]
      simp only [Prod.mk.injEq] at he
      simp [he.1, he.2]
  | _ => simp only [resolve]; exact resolve1_dep hs _
theorem resolveAll_dep : ∀ (l : List AV) (s s' : St), s'.stores = s.stores → (resolveAll s' l).map (fun p => (p.1.stores, p.2)) = (resolveAll s l).map fun p => (p.1.stores, p.2) := by
  intro l
  induction l with
  | nil => intro s s' hs; simp [resolveAll, hs]
  | cons a r ih =>
    intro s s' hs
    have h1 := resolve_dep hs a
    simp only [resolveAll]
    cases ha : resolve s a with
    | none =>
      rw [ha] at h1
      simp at h1
      rw [h1]
    | some p =>
      rw [ha] at h1
      simp only [Option.map_some, Option.map_eq_some_iff] at h1
      obtain ⟨q, hq, he⟩ := h1
      rw [hq]
      obtain ⟨s1, b⟩ := p
      obtain ⟨s2, b'⟩ := q
      simp only [Prod.mk.injEq] at he
      obtain ⟨he, rfl⟩ := he
      have h2 := ih s1 s2 he
      simp only
      cases hr : resolveAll s1 r with
      | none => rw [hr] at h2; simp at h2; rw [h2]
      | some p =>
        rw [hr] at h2
        simp only [Option.map_some, Option.map_eq_some_iff] at h2
        obtain ⟨q, hq, he⟩ := h2
        rw [hq]
        simp only [Prod.mk.injEq] at he
        simp [he.1, he.2]
theorem callF_dep {rec : Rec} (hs : s'.stores = s.stores) (f : FuncId) (as : List AV) : callF P E rec s' f as = callF P E rec s f as := by
  have h := resolveAll_dep as s s' hs
  simp only [callF]
  cases hr : resolveAll s as with
  | none => rw [hr] at h; simp at h; rw [h, hs]
  | some p =>
    rw [hr] at h
    simp only [Option.map_some, Option.map_eq_some_iff] at h
    obtain ⟨q, hq, he⟩ := h
    rw [hq]
    simp only [Prod.mk.injEq] at he
    simp [he.2]
theorem nilA_dep (hs : s'.stores = s.stores) (a : AV) : nilA s' a = nilA s a := by
  cases a <;> simp only [nilA, hs]
theorem quietF_dep {rec : Rec} {op : Op} (hs : s'.stores = s.stores) (hx : ∀ x, x ∈ op.operands.toList → evalO s' x = evalO s x) : quietF P E rec s' op = quietF P E rec s op := by
  cases op with
  | move x => exact hx x (by simp [Op.operands])
  | assign x => exact hx x (by simp [Op.operands])
  | pick c a b => simp only [quietF, pickF, hx c (by simp [Op.operands]), hx a (by simp [Op.operands]), hx b (by simp [Op.operands])]
  | nilCheck x => simp only [quietF, nilQ, hx x (by simp [Op.operands]), nilA_dep hs]
  | build t ps => simp only [quietF, buildF, partsA_dep (s := s) (s' := s') (l := ps.toList) fun x hm => hx x (by simpa [Op.operands] using hm)]
  | load t x => simp only [quietF, loadF, hx x (by simp [Op.operands]), loadA_dep hs]
  | fieldAddr t x f => simp only [quietF, fieldAddrF, hx x (by simp [Op.operands]), fwd_dep hs]
  | indexAddr t x y => simp only [quietF, indexAddrF, hx x (by simp [Op.operands]), hx y (by simp [Op.operands]), indexAddrA_dep hs]
  | field t x f => simp only [quietF, fieldF, hx x (by simp [Op.operands])]
  | index t x y => simp only [quietF, indexF, hx x (by simp [Op.operands]), hx y (by simp [Op.operands])]
  | slice t x lo hi mx =>
    simp only [quietF, hx x (by simp [Op.operands])]
    have h1 : ∀ y, lo = some y → evalO s' y = evalO s y := fun y h => hx y (by subst h; simp [Op.operands])
    have h2 : ∀ y, hi = some y → evalO s' y = evalO s y := fun y h => hx y (by subst h; simp [Op.operands])
    have h3 : ∀ y, mx = some y → evalO s' y = evalO s y := fun y h => hx y (by subst h; simp [Op.operands])
    simp only [sliceA_dep hs h1 h2 h3]
  | binOp op t x y p => simp only [quietF, hx x (by simp [Op.operands]), hx y (by simp [Op.operands]), binA_dep hs]
  | unOp op t x => simp only [quietF, hx x (by simp [Op.operands])]
  | convert src dst x => simp only [quietF, hx x (by simp [Op.operands]), convA_dep hs]
  | extract x i => simp only [quietF, extractF, hx x (by simp [Op.operands])]
  | call c =>
    have ha : evalOs s' c.args.toList = evalOs s c.args.toList := evalOs_dep fun x hm => hx x (by
      simp only [Op.operands, Call.operands]
      first | (simp; simp at hm; exact .inr hm) | (simp; simp at hm; exact hm) | skip)
    have hce : calleeA s' c.callee = calleeA s c.callee := by
      cases hc : c.callee with
      | value f =>
        cases f with
        | tmp t =>
          have h1 := hx (.tmp t) (by simp [Op.operands, Call.operands, hc])
          simp only [evalO, Option.some.injEq] at h1
          simp only [calleeA, h1]
        | _ => rfl
      | _ => rfl
    simp only [quietF, ha, hce, callF_dep hs, biF_dep hs]
  | _ => rfl
theorem quiet_dep {rec : Rec} {ops : Array Oper} {o : Oper} : Dep (fun o s => quietA P E rec s o) ops o := by
  intro s s1 h
  simp only at h
  rw [quiet_eq] at h
  obtain ⟨v, hv, rfl⟩ := Option.map_eq_some_iff.1 h
  refine ⟨v, rfl, fun s' hs hl => ?_⟩
  simp only
  rw [quiet_eq, quietF_dep hs fun x hx => evalO_dep hl hx, hv]
  rfl
end
end Go.AbsM
end
