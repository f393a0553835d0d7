/-
  The abstract machine: what a quiet operation hangs on; every order does the same.
-/
import Derived.Test.YtmfegciehdjicaaAbsDepA
set_option linter.unusedVariables false
set_option linter.unusedSimpArgs false
namespace Go.AbsM

section
variable {P : Program} {E : Env}

/-! ### What it hangs on -/
variable {s s' : St}

theorem evalO_dep {ops : Array Oper} {o : Oper} (hl : ∀ t, t ∈ o.looksAt ops → s'.get t = s.get t) {x : Operand} (hx : x ∈ o.op.operands.toList) : evalO s' x = evalO s x := by
  cases x with
  | tmp t =>
    simp only [evalO]
    rw [hl t]
    unfold Oper.looksAt
    refine List.mem_append_left _ ?_
    exact List.mem_filterMap.2 ⟨_, hx, rfl⟩
  | _ => rfl

theorem evalOs_dep {l : List Operand} (h : ∀ x, x ∈ l → evalO s' x = evalO s x) : evalOs s' l = evalOs s l := by
  induction l with
  | nil => rfl
  | cons x r ih => simp only [evalOs, h x List.mem_cons_self, ih fun y hy => h y (List.mem_cons_of_mem _ hy)]

theorem partsA_dep {l : List (Nat × Operand)} (h : ∀ x, x ∈ l.map (·.2) → evalO s' x = evalO s x) : partsA s' l = partsA s l := by
  induction l with
  | nil => rfl
  | cons x r ih =>
    obtain ⟨i, x⟩ := x
    simp only [partsA, h x (by simp), ih fun y hy => h y (by simp only [List.map_cons]; exact List.mem_cons_of_mem _ hy)]

theorem elems_dep (hs : s'.stores = s.stores) (i k lo n tot : Nat) : s'.elems i k lo n tot = s.elems i k lo n tot := by simp only [St.elems, hs]

theorem src_dep (hs : s'.stores = s.stores) (e : TypeId) (a : AV) : s'.src P e a = s.src P e a := by cases a <;> simp only [St.src, elems_dep hs]

theorem convA_dep (hs : s'.stores = s.stores) (src dst : TypeId) (a : AV) : convA P s' src dst a = convA P s src dst a := by
  cases a with
  | x v => cases v <;> simp only [convA, src_dep hs]
  | _ => simp only [convA, src_dep hs]

theorem fwd_dep (hs : s'.stores = s.stores) (n : Nat) (p : AV) : s'.fwd n p = s.fwd n p := by cases p <;> simp only [St.fwd, hs]

theorem isNilT_dep (hs : s'.stores = s.stores) (t : TypeId) (a : AV) : isNilT P s' t a = isNilT P s t a := by
  have : isNilA s' a = isNilA s a := by
    cases a with
    | arr i k e lo n tot => cases n <;> simp only [isNilA, elems_dep hs]
    | sl e xs => cases xs <;> rfl
    | _ => rfl
  simp only [isNilT, this]

theorem binA_dep (hs : s'.stores = s.stores) (op : BinOp) (t : TypeId) (x y : AV) : binA P s' op t x y = binA P s op t x y := by
  unfold binA
  simp only [isNilT_dep hs]

theorem loadA_dep (hs : s'.stores = s.stores) (t : TypeId) (p : AV) : loadA P s' t p = loadA P s t p := by cases p <;> simp only [loadA, hs]

theorem indexAddrA_dep (hs : s'.stores = s.stores) (t : TypeId) (p : AV) (i : Int) : indexAddrA P s' t p i = indexAddrA P s t p i := by
  unfold indexAddrA
  simp only [elems_dep hs, fwd_dep hs]

theorem boundA_dep {x : Option Operand} (h : ∀ y, x = some y → evalO s' y = evalO s y) (d m : Nat) : boundA s' d m x = boundA s d m x := by
  cases x with
  | none => rfl
  | some y => simp only [boundA, h y rfl]

theorem sliceA_dep (hs : s'.stores = s.stores) {lo hi mx : Option Operand} (h1 : ∀ y, lo = some y → evalO s' y = evalO s y) (h2 : ∀ y, hi = some y → evalO s' y = evalO s y) (h3 : ∀ y, mx = some y → evalO s' y = evalO s y) (t : TypeId) (a : AV) :
    sliceA P s' t a lo hi mx = sliceA P s t a lo hi mx := by
  have e1 := boundA_dep (s := s) (s' := s') h1
  have e2 := boundA_dep (s := s) (s' := s') h2
  have e3 := boundA_dep (s := s) (s' := s') h3
  cases mx with
  | none => simp only [sliceA, e1, e2, elems_dep hs]
  | some m => cases hi with
    | none => simp only [sliceA, e1, elems_dep hs]
    | some h => simp only [sliceA, e1, e2, e3, elems_dep hs]

theorem lenOfA_dep (hs : s'.stores = s.stores) (t : TypeId) (a : AV) : lenOfA P s' t a = lenOfA P s t a := by
  unfold lenOfA
  simp only [elems_dep hs]

theorem biF_dep (hs : s'.stores = s.stores) (b : Builtin) (ts : List TypeId) (as : List AV) : biF P s' b ts as = biF P s b ts as := by
  unfold biF
  simp only [lenOfA_dep hs]

theorem setFz_dep (hs : s'.stores = s.stores) (i k : Nat) : (s'.setFz i k).stores = (s.setFz i k).stores := by
  simp only [St.setFz, hs]
  split <;> first | rfl | exact hs

theorem resolve1_dep (hs : s'.stores = s.stores) (a : AV) : (resolve1 s' a).map (fun p => (p.1.stores, p.2)) = (resolve1 s a).map fun p => (p.1.stores, p.2) := by
  cases a with
  | arr i k e lo n tot =>
    simp only [resolve1, elems_dep hs]
    cases s.elems i k lo n tot with
    | none => rfl
    | some xs => simp [setFz_dep hs]
  | _ => simp [resolve1, hs]

theorem resolveL_dep : ∀ (l : List AV) (s s' : St), s'.stores = s.stores → (resolveL s' l).map (fun p => (p.1.stores, p.2)) = (resolveL s l).map fun p => (p.1.stores, p.2) := by
  intro l
  induction l with
  | nil => intro s s' hs; simp [resolveL, hs]
  | cons a r ih =>
    intro s s' hs
    have h1 := resolve1_dep hs a
    simp only [resolveL]
    cases ha : resolve1 s a with
    | none =>
      rw [ha] at h1
      simp at h1
      rw [h1]
    | some p =>
      rw [ha] at h1
      simp only [Option.map_some, Option.map_eq_some_iff] at h1
      obtain ⟨q, hq, he⟩ := h1
      rw [hq]
      obtain ⟨s1, b⟩ := p
      obtain ⟨s2, b'⟩ := q
      simp only [Prod.mk.injEq] at he
      obtain ⟨he, rfl⟩ := he
      have h2 := ih s1 s2 he
      simp only
      cases hr : resolveL s1 r with
      | none => rw [hr] at h2; simp at h2; rw [h2]
      | some p =>
        rw [hr] at h2
        simp only [Option.map_some, Option.map_eq_some_iff] at h2
        obtain ⟨q, hq, he⟩ := h2
        rw [hq]
        simp only [Prod.mk.injEq] at he
        simp [he.1, he.2]

theorem resolve_dep (hs : s'.stores = s.stores) (a : AV) : (resolve s' a).map (fun p => (p.1.stores, p.2)) = (resolve s a).map fun p => (p.1.stores, p.2) := by
  cases a with
  | agg cs =>
    have h := resolveL_dep cs s s' hs
    simp only [resolve]
    cases hr : resolveL s cs with
    | none => rw [hr] at h; simp at h; rw [h]
    | some p =>
      rw [hr] at h
      simp only [Option.map_some, Option.map_eq_some_iff] at h
      obtain ⟨q, hq, he⟩ := h
      rw [hq]
      simp only [Prod.mk.injEq] at he
      simp [he.1, he.2]
  | _ => simp only [resolve]; exact resolve1_dep hs _

theorem resolveAll_dep : ∀ (l : List AV) (s s' : St), s'.stores = s.stores → (resolveAll s' l).map (fun p => (p.1.stores, p.2)) = (resolveAll s l).map fun p => (p.1.stores, p.2) := by
  intro l
  induction l with
  | nil => intro s s' hs; simp [resolveAll, hs]
  | cons a r ih =>
    intro s s' hs
    have h1 := resolve_dep hs a
    simp only [resolveAll]
    cases ha : resolve s a with
    | none =>
      rw [ha] at h1
      simp at h1
      rw [h1]
    | some p =>
      rw [ha] at h1
      simp only [Option.map_some, Option.map_eq_some_iff] at h1
      obtain ⟨q, hq, he⟩ := h1
      rw [hq]
      obtain ⟨s1, b⟩ := p
      obtain ⟨s2, b'⟩ := q
      simp only [Prod.mk.injEq] at he
      obtain ⟨he, rfl⟩ := he
      have h2 := ih s1 s2 he
      simp only
      cases hr : resolveAll s1 r with
      | none => rw [hr] at h2; simp at h2; rw [h2]
      | some p =>
        rw [hr] at h2
        simp only [Option.map_some, Option.map_eq_some_iff] at h2
        obtain ⟨q, hq, he⟩ := h2
        rw [hq]
        simp only [Prod.mk.injEq] at he
        simp [he.1, he.2]

theorem callF_dep {rec : Rec} (hs : s'.stores = s.stores) (f : FuncId) (as : List AV) : callF P E rec s' f as = callF P E rec s f as := by
  have h := resolveAll_dep as s s' hs
  simp only [callF]
  cases hr : resolveAll s as with
  | none => rw [hr] at h; simp at h; rw [h]
  | some p =>
    rw [hr] at h
    simp only [Option.map_some, Option.map_eq_some_iff] at h
    obtain ⟨q, hq, he⟩ := h
    rw [hq]
    simp only [Prod.mk.injEq] at he
    simp [he.2]

theorem quietF_dep {rec : Rec} {op : Op} (hs : s'.stores = s.stores) (hx : ∀ x, x ∈ op.operands.toList → evalO s' x = evalO s x) : quietF P E rec s' op = quietF P E rec s op := by
  cases op with
  | move x => exact hx x (by simp [Op.operands])
  | assign x => exact hx x (by simp [Op.operands])
  | pick c a b => simp only [quietF, pickF, hx c (by simp [Op.operands]), hx a (by simp [Op.operands]), hx b (by simp [Op.operands])]
  | nilCheck x => simp only [quietF, nilF, hx x (by simp [Op.operands])]
  | build t ps => simp only [quietF, buildF, partsA_dep (s := s) (s' := s') (l := ps.toList) fun x hm => hx x (by simpa [Op.operands] using hm)]
  | load t x => simp only [quietF, loadF, hx x (by simp [Op.operands]), loadA_dep hs]
  | fieldAddr t x f => simp only [quietF, fieldAddrF, hx x (by simp [Op.operands]), fwd_dep hs]
  | indexAddr t x y => simp only [quietF, indexAddrF, hx x (by simp [Op.operands]), hx y (by simp [Op.operands]), indexAddrA_dep hs]
  | field t x f => simp only [quietF, fieldF, hx x (by simp [Op.operands])]
  | index t x y => simp only [quietF, indexF, hx x (by simp [Op.operands]), hx y (by simp [Op.operands])]
  | slice t x lo hi mx =>
    simp only [quietF, hx x (by simp [Op.operands])]
    have h1 : ∀ y, lo = some y → evalO s' y = evalO s y := fun y h => hx y (by subst h; simp [Op.operands])
    have h2 : ∀ y, hi = some y → evalO s' y = evalO s y := fun y h => hx y (by subst h; simp [Op.operands])
    have h3 : ∀ y, mx = some y → evalO s' y = evalO s y := fun y h => hx y (by subst h; simp [Op.operands])
    simp only [sliceA_dep hs h1 h2 h3]
  | binOp op t x y p => simp only [quietF, hx x (by simp [Op.operands]), hx y (by simp [Op.operands]), binA_dep hs]
  | unOp op t x => simp only [quietF, hx x (by simp [Op.operands])]
  | convert src dst x => simp only [quietF, hx x (by simp [Op.operands]), convA_dep hs]
  | extract x i => simp only [quietF, extractF, hx x (by simp [Op.operands])]
  | call c =>
    have ha : evalOs s' c.args.toList = evalOs s c.args.toList := evalOs_dep fun x hm => hx x (by
      simp only [Op.operands, Call.operands]
      first | (simp; simp at hm; exact .inr hm) | (simp; simp at hm; exact hm) | skip)
    simp only [quietF, ha, callF_dep hs, biF_dep hs]
  | _ => rfl

theorem quiet_dep {rec : Rec} {ops : Array Oper} {o : Oper} : Dep (fun o s => quietA P E rec s o) ops o := by
  intro s s1 h
  simp only at h
  rw [quiet_eq] at h
  obtain ⟨v, hv, rfl⟩ := Option.map_eq_some_iff.1 h
  refine ⟨v, rfl, fun s' hs hl => ?_⟩
  simp only
  rw [quiet_eq, quietF_dep hs fun x hx => evalO_dep hl hx, hv]
  rfl

/-- **Every order does the same**, where the check says so. -/
theorem draw_ok {ops : Array Oper} (h : drawB E.solo ops = true) (rec : Rec) (s s1 : St) (t : Nat) (hr : opsA (fun o s => drawOp P E rec s o) ops (List.range ops.size) s = some s1) :
    opsA (fun o s => drawOp P E rec s o) ops (Region.schedule true ops t) s = some s1 := by
  have hsch : Region.schedule true ops t = Region.linearise.go .any ops ops.size t (Array.replicate ops.size false) [] := by simp [Region.schedule, Region.linearise]
  rw [hsch]
  refine AnyA.sound _ _ _ _ _ (AnyA.lex (solo := E.solo) (fun i j hc => ?_) ops.size 0 _ s s1 (by simp) h (by rw [← List.range_eq_range']; exact hr))
  unfold commB at hc
  split at hc
  · rename_i x y hi hj
    simp only [Bool.and_eq_true, Bool.not_eq_true'] at hc
    obtain ⟨⟨h1, h2⟩, h3⟩ := hc
    have dep : ∀ {o : Oper}, E.solo o = false → Dep (fun o s => drawOp P E rec s o) ops o := by
      intro o ho s s1 h
      simp only [drawOp, ho, Bool.false_eq_true, if_false] at h
      obtain ⟨v, hv, hq⟩ := quiet_dep (ops := ops) s s1 h
      exact ⟨v, hv, fun s' hs hl => by simp only [drawOp, ho, Bool.false_eq_true, if_false]; exact hq s' hs hl⟩
    exact comm_of_dep hi hj (dep h1) (dep h2) h3
  · cases hc

end
end Go.AbsM
