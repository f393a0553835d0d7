/-
  The typed machine: its states as the abstract machine's; what each change of one is of the other.
-/
import Derived.Test.YtmfegciehdjicaaAbtDef
import Derived.Test.YtmfegciehdjicaaAbtOrder
set_option linter.unusedVariables false
set_option linter.unusedSimpArgs false
namespace Go.AbsM

/-! ### Stores -/
def embAux (S l : TStore) : Store := l.map fun p => (p.1, p.2.emb S)

theorem look_embAux (S l : TStore) (k : Nat) : look (embAux S l) k = (lookT l k).map (TOb.emb S) := by
  induction l with
  | nil => rfl
  | cons p r ih =>
    obtain ⟨j, o⟩ := p
    simp only [embAux, List.map_cons, look, lookT]
    by_cases h : j = k
    · simp [h]
    · rw [if_neg h, if_neg h]; exact ih

theorem getOb_emb (R : List Store) (s : TSt) (k : Nat) : getOb (s.emb R).stores 0 k = (lookT s.st k).map (TOb.emb s.st) := look_embAux s.st s.st k

theorem emb_get (R : List Store) (s : TSt) (t : Nat) : (s.emb R).get t = (s.get t).emb s.st := by
  simp only [St.get, TSt.emb, TSt.get, List.getD_eq_getElem?_getD, List.getElem?_map]
  cases s.slots[t]? <;> rfl

theorem emb_put (R : List Store) (s : TSt) (d : Option Nat) (v : TV) : (s.put d v).emb R = (s.emb R).put d (v.emb s.st) := by
  cases d with
  | none => rfl
  | some d => simp [TSt.put, St.put, TSt.emb, List.map_set]

/-- The handles mean the same. -/
def Alike (S S' : TStore) : Prop := ∀ k, shapeT S k = shapeT S' k
theorem Alike.tc {S S' : TStore} (h : Alike S S') (c : TC) : c.emb S = c.emb S' := by
  cases c with
  | h k => simp only [TC.emb, h k]
  | eh k j off => simp only [TC.emb, h k]
  | _ => rfl
theorem Alike.tcs {S S' : TStore} (h : Alike S S') (cs : List TC) : cs.map (TC.emb S) = cs.map (TC.emb S') := List.map_congr_left fun c _ => h.tc c
theorem Alike.t1 {S S' : TStore} (h : Alike S S') (c : T1) : c.emb S = c.emb S' := by
  cases c with
  | c x => exact h.tc x
  | agg cs => simp only [T1.emb, h.tcs cs]
  | own => rfl
theorem Alike.t1s {S S' : TStore} (h : Alike S S') (cs : List T1) : cs.map (T1.emb S) = cs.map (T1.emb S') := List.map_congr_left fun c _ => h.t1 c
theorem Alike.tv {S S' : TStore} (h : Alike S S') (c : TV) : c.emb S = c.emb S' := by
  cases c with
  | o x => exact h.t1 x
  | tup vs => simp only [TV.emb, h.t1s vs]
  | efz => rfl
theorem Alike.tvs {S S' : TStore} (h : Alike S S') (cs : List TV) : cs.map (TV.emb S) = cs.map (TV.emb S') := List.map_congr_left fun c _ => h.tv c
theorem Alike.ob {S S' : TStore} (h : Alike S S') (o : TOb) : o.emb S = o.emb S' := by
  cases o with
  | box cs => simp only [TOb.emb, h.tcs cs]
  | arr => rfl
theorem Alike.store {S S' : TStore} (h : Alike S S') (l : TStore) : embAux S l = embAux S' l := List.map_congr_left fun p _ => by rw [h.ob]
theorem Alike.symm {S S' : TStore} (h : Alike S S') : Alike S' S := fun k => (h k).symm

theorem lookT_lay (st : TStore) (n m : Nat) (p : TOb) : lookT (layT st n p) m = if m = n then (lookT st n).map (fun _ => p) else lookT st m := by
  induction st with
  | nil => simp [layT, lookT]
  | cons x r ih =>
    obtain ⟨k, o⟩ := x
    simp only [layT]
    by_cases hk : k = n
    · subst hk
      simp only [if_pos, lookT]
      by_cases hm : m = k
      · subst hm; simp [lookT]
      · rw [if_neg (Ne.symm hm), if_neg hm, if_neg (Ne.symm hm)]
    · simp only [if_neg hk, lookT, ih]
      by_cases hm : m = n
      · subst hm; simp [hk]
      · simp [hm]
theorem lookT_drop (st : TStore) (n m : Nat) : lookT (dropT st n) m = if m = n then none else lookT st m := by
  induction st with
  | nil => simp [dropT, lookT]
  | cons x r ih =>
    obtain ⟨k, o⟩ := x
    simp only [dropT]
    by_cases hk : k = n
    · subst hk
      simp only [if_pos, ih, lookT]
      by_cases hm : m = k
      · simp [hm]
      · simp [hm, Ne.symm hm]
    · simp only [if_neg hk, lookT, ih]
      by_cases hm : m = n
      · subst hm; simp [hk]
      · simp [hm]
theorem lookT_map (f : TOb → TOb) (st : TStore) (m : Nat) : lookT (st.map fun p => (p.1, f p.2)) m = (lookT st m).map f := by
  induction st with
  | nil => rfl
  | cons x r ih =>
    obtain ⟨j, o⟩ := x
    simp only [List.map_cons, lookT, ih]
    split <;> rfl

/-- One object is laid anew: handles mean the same. -/
theorem emb_lay (R : List Store) (s : TSt) (k : Nat) (o : TOb) (h : Alike s.st (layT s.st k o)) : (s.lay k o).emb R = { s.emb R with stores := setOb (s.emb R).stores 0 k (o.emb s.st) } := by
  have e : ∀ (S l : TStore), embAux S (layT l k o) = lay (embAux S l) k (o.emb S) := by
    intro S l
    induction l with
    | nil => rfl
    | cons p r ih =>
      obtain ⟨j, q⟩ := p
      simp only [layT, embAux, List.map_cons, lay]
      by_cases hj : j = k
      · simp [hj]
      · rw [if_neg hj, if_neg hj]; simp only [List.map_cons]; congr 1
  simp only [TSt.lay, TSt.emb, setOb]
  congr 1
  · exact h.symm.tvs _
  · congr 1
    show embAux _ _ = _
    rw [← h.store, e]; rfl

theorem shape_lay {st : TStore} {k : Nat} {o o' : TOb} (hl : lookT st k = some o) (h : (match o with | .arr _ e _ xs => some (e, xs.length) | _ => none) = (match o' with | .arr _ e _ xs => some (e, xs.length) | _ => (none : Option (TypeId × Nat)))) : Alike st (layT st k o') := by
  intro m
  simp only [shapeT, lookT_lay]
  by_cases hm : m = k
  · subst hm
    rw [if_pos rfl, hl]
    cases o <;> cases o' <;> exact h
  · rw [if_neg hm]

theorem emb_fz (R : List Store) (s : TSt) (k : Nat) : (s.fz k).emb R = (s.emb R).setFz 0 k := by
  unfold TSt.fz St.setFz
  rw [getOb_emb]
  cases h : lookT s.st k with
  | none => rfl
  | some o =>
    cases o with
    | box cs => rfl
    | arr f e t xs => rw [emb_lay R s k _ (shape_lay h rfl)]; rfl
theorem fz_alike (s : TSt) (k : Nat) : Alike s.st (s.fz k).st := by
  unfold TSt.fz
  split
  · rename_i h; exact shape_lay h rfl
  · exact fun _ => rfl

/-! ### Cells -/
theorem one_one (x : AV) : x.one.one = x.one := by cases x <;> rfl
theorem one_val {x : AV} (h : x.isVal = true) : x.one = x := by cases x <;> first | rfl | simp [AV.isVal] at h
theorem one_cell {x : AV} (h : x.isCell = true) : x.one = x := by cases x <;> first | rfl | simp [AV.isCell] at h
theorem isVal_emb {c : TC} (h : c.isVal = true) (S S' : TStore) : c.emb S = c.emb S' := by
  cases c <;> first | rfl | simp [TC.isVal] at h
theorem nlAV_isVal {α : Type} (e : TypeId) (f : α → AV) (x : NL α) : (nlAV e f x).isVal = true := by cases x <;> rfl
theorem isVal_is {c : TC} (h : c.isVal = true) (S : TStore) : (c.emb S).isVal = true := by
  cases c with
  | a x => simp only [TC.isVal] at h; simp only [TC.emb, one_val h]; exact h
  | sl e t x => exact nlAV_isVal _ _ _
  | _ => simp [TC.isVal] at h
theorem noH_emb {c : T1} (h : c.noH = true) (S S' : TStore) : c.emb S = c.emb S' := by
  cases c with
  | c x => exact isVal_emb h S S'
  | agg cs =>
    simp only [T1.noH, List.all_eq_true] at h
    simp only [T1.emb]
    congr 1
    exact List.map_congr_left fun c hc => isVal_emb (h c hc) S S'
  | own => simp [T1.noH] at h

theorem cells_length (t : VT) (x : t.den) : (t.cells x).length = (t.tc x).length := by
  induction t with
  | pair a b ha hb => simp only [VT.cells, VT.tc, List.length_append, ha, hb]
  | _ => rfl
theorem tc_emb (t : VT) (x : t.den) (S : TStore) : (t.tc x).map (TC.emb S) = t.cells x := by
  induction t with
  | pair a b ha hb => simp only [VT.cells, VT.tc, List.map_append, ha, hb]
  | slc e t _ => rfl
  | _ => rfl
theorem tc_val (t : VT) (x : t.den) : ∀ c, c ∈ t.tc x → c.isVal = true := by
  induction t with
  | pair a b ha hb => intro c hc; simp only [VT.tc, List.mem_append] at hc; rcases hc with h | h; exact ha _ _ h; exact hb _ _ h
  | unit => intro c hc; simp [VT.tc] at hc
  | _ => intro c hc; simp only [VT.tc, List.mem_singleton] at hc; subst hc; rfl
theorem cells_one {t : VT} (h : t.isAgg = false) (x : t.den) : ∃ c, t.cells x = [c] ∧ c.isVal = true := by
  cases t with
  | unit => cases h
  | pair a b => cases h
  | slc e t => exact ⟨_, rfl, nlAV_isVal _ _ _⟩
  | _ => exact ⟨_, rfl, rfl⟩
theorem emb_cells (t : VT) (x : t.den) : (t.emb x).cells = t.cells x := by
  unfold VT.emb embOf
  cases h : t.isAgg with
  | true => rfl
  | false =>
    obtain ⟨c, hc, hv⟩ := cells_one h x
    rw [hc]
    cases c <;> first | rfl | simp [AV.isVal] at hv
theorem t1_emb (t : VT) (x : t.den) (S : TStore) : (t.t1 x).emb S = t.emb x := by
  unfold VT.t1 VT.emb embOf
  cases h : t.isAgg with
  | true => simp only [T1.emb, tc_emb]
  | false =>
    have := tc_emb t x S
    obtain ⟨c, hc, hv⟩ := cells_one h x
    rw [hc] at this ⊢
    cases ht : t.tc x with
    | nil => rw [ht] at this; cases this
    | cons a r => rw [ht] at this; simp at this; simp [T1.emb, this.1]

theorem ofC_emb {t : VT} {c : TC} {x : t.den} (S : TStore) (h : t.ofC c = some x) : t.cells x = [c.emb S] := by
  cases t with
  | slc e t =>
    cases c with
    | a y =>
      cases y <;> simp only [VT.ofC] at h <;> first | (cases h; rfl) | cases h
    | sl e' t' y =>
      simp only [VT.ofC] at h
      split at h
      · rename_i he
        split at h
        · rename_i ht
          subst he; subst ht
          cases h; rfl
        · cases h
      · cases h
    | _ => simp [VT.ofC] at h
  | unit => cases h
  | pair a b => cases h
  | _ =>
    simp only [VT.ofC] at h
    split at h
    · first
      | (split at h
         · rename_i hk; subst hk; cases h; rfl
         · cases h)
      | (cases h; rfl)
    · cases h

theorem ofTC_emb : ∀ (t : VT) (cs r : List TC) (x : t.den) (S : TStore), t.ofTC cs = some (x, r) → cs.map (TC.emb S) = t.cells x ++ r.map (TC.emb S) := by
  intro t
  induction t with
  | pair a b ha hb =>
    intro cs r x S h
    simp only [VT.ofTC] at h
    split at h
    · rename_i x1 r1 h1
      split at h
      · rename_i y r2 h2
        simp only [Option.some.injEq, Prod.mk.injEq] at h
        obtain ⟨rfl, rfl⟩ := h
        rw [ha _ _ _ S h1, hb _ _ _ S h2]
        simp [VT.cells]
      · cases h
    · cases h
  | unit =>
    intro cs r x S h
    simp only [VT.ofTC, Option.some.injEq, Prod.mk.injEq] at h
    obtain ⟨rfl, rfl⟩ := h
    rfl
  | _ =>
    intro cs r x S h
    simp only [VT.ofTC, ofHead] at h
    split at h
    · split at h
      · rename_i hx
        simp only [Option.some.injEq, Prod.mk.injEq] at h
        obtain ⟨rfl, rfl⟩ := h
        rw [ofC_emb S hx]; rfl
      · cases h
    · cases h

theorem ofT1_emb {t : VT} {x : T1} {y : t.den} (S : TStore) (h : t.ofT1 x = some y) : t.emb y = x.emb S := by
  unfold VT.ofT1 at h
  cases x with
  | c c =>
    simp only at h
    split at h
    · cases h
    · rename_i ha
      split at h
      · rename_i z hz
        simp only [Option.some.injEq] at h; subst h
        have := ofTC_emb _ _ _ _ S hz
        simp at this
        unfold VT.emb embOf
        rw [ha, ← this]; rfl
      · cases h
  | agg cs =>
    simp only at h
    split at h
    · rename_i ha
      split at h
      · rename_i z hz
        simp only [Option.some.injEq] at h; subst h
        have := ofTC_emb _ _ _ _ S hz
        simp at this
        unfold VT.emb embOf
        rw [ha, ← this]; rfl
      · cases h
    · cases h
  | own => cases h

/-! ### Names that are made anew, handles that grow stale -/
theorem one_kill (x : AV) (k : Nat) : (x.killCell k).one = x.one.killCell k := by
  cases x with
  | arr i j e lo n tot => cases i <;> by_cases hj : j = k <;> simp [AV.killCell, AV.one, hj]
  | ref i j off => cases i <;> by_cases hj : j = k <;> simp [AV.killCell, AV.one, hj]
  | ear i j e tot m off => cases i <;> by_cases hj : j = k <;> simp [AV.killCell, AV.one, hj]
  | _ => rfl
theorem tc_kill {S S' : TStore} {k : Nat} (h : ∀ j, j ≠ k → shapeT S j = shapeT S' j) (c : TC) : (c.kill k).emb S' = (c.emb S).killCell k := by
  cases c with
  | a x => exact one_kill x k
  | sl e t x => cases x <;> rfl
  | h j =>
    simp only [TC.kill]
    by_cases hj : j = k
    · rw [if_pos hj]; simp only [TC.emb, AV.one]
      cases shapeT S j <;> simp [AV.killCell, hj]
    · rw [if_neg hj]; simp only [TC.emb, ← h j hj]
      cases shapeT S j <;> simp [AV.killCell, hj]
  | eh j m off =>
    simp only [TC.kill]
    by_cases hj : j = k
    · rw [if_pos hj]; simp only [TC.emb, AV.one]
      cases shapeT S j <;> simp [AV.killCell, hj]
    · rw [if_neg hj]; simp only [TC.emb, ← h j hj]
      cases shapeT S j <;> simp [AV.killCell, hj]
theorem tc_simple (c : TC) (S : TStore) : ((∀ cs, c.emb S ≠ .agg cs) ∧ (∀ vs, c.emb S ≠ .tup vs) ∧ (∀ e xs, c.emb S ≠ .own e xs)) := by
  cases c with
  | a x => cases x <;> exact ⟨fun _ h => (nomatch h), fun _ h => (nomatch h), fun _ _ h => (nomatch h)⟩
  | sl e t x => cases x <;> exact ⟨fun _ h => (nomatch h), fun _ h => (nomatch h), fun _ _ h => (nomatch h)⟩
  | h j => simp only [TC.emb]; split <;> exact ⟨fun _ h => (nomatch h), fun _ h => (nomatch h), fun _ _ h => (nomatch h)⟩
  | eh j m off => simp only [TC.emb]; split <;> exact ⟨fun _ h => (nomatch h), fun _ h => (nomatch h), fun _ _ h => (nomatch h)⟩
theorem kill1_simple {x : AV} (h : ∀ cs, x ≠ .agg cs) (k : Nat) : x.kill1 k = x.killCell k := by
  cases x <;> first | rfl | exact absurd rfl (h _)
theorem kill_simple {x : AV} (h : ∀ cs, x ≠ .tup cs) (k : Nat) : x.kill k = x.kill1 k := by
  cases x <;> first | rfl | exact absurd rfl (h _)
theorem t1_simple (x : T1) (S : TStore) (vs : List AV) : x.emb S ≠ .tup vs := by
  cases x with
  | c x => exact (tc_simple x S).2.1 vs
  | agg cs => simp [T1.emb]
  | own e t xs => simp [T1.emb]
theorem t1_kill {S S' : TStore} {k : Nat} (h : ∀ j, j ≠ k → shapeT S j = shapeT S' j) (c : T1) : (c.kill k).emb S' = (c.emb S).kill1 k := by
  cases c with
  | c x => show (x.kill k).emb S' = _; rw [tc_kill h, ← kill1_simple (tc_simple x S).1]; rfl
  | agg cs =>
    simp only [T1.kill, T1.emb, AV.kill1, List.map_map]
    congr 1
    exact List.map_congr_left fun c _ => tc_kill h c
  | own e t xs => rfl
theorem tv_kill {S S' : TStore} {k : Nat} (h : ∀ j, j ≠ k → shapeT S j = shapeT S' j) (c : TV) : (c.kill k).emb S' = (c.emb S).kill k := by
  cases c with
  | o x => show (x.kill k).emb S' = _; rw [t1_kill h, ← kill_simple (t1_simple x S)]; rfl
  | tup cs =>
    simp only [TV.kill, TV.emb, AV.kill, List.map_map]
    congr 1
    exact List.map_congr_left fun c _ => t1_kill h c
  | efz t x off => rfl
theorem ob_kill {S S' : TStore} {k : Nat} (h : ∀ j, j ≠ k → shapeT S j = shapeT S' j) (c : TOb) : (c.kill k).emb S' = (c.emb S).kill k := by
  cases c with
  | box cs =>
    simp only [TOb.kill, TOb.emb, Ob.kill, List.map_map]
    congr 1
    exact List.map_congr_left fun c _ => tc_kill h c
  | arr => rfl
theorem kill_shape (o : TOb) (k : Nat) : (match o.kill k with | .arr _ e _ xs => some (e, xs.length) | _ => (none : Option (TypeId × Nat))) = (match o with | .arr _ e _ xs => some (e, xs.length) | _ => none) := by
  cases o <;> rfl
theorem shape_create (s : TSt) (k : Nat) (o : TOb) (j : Nat) (hj : j ≠ k) : shapeT s.st j = shapeT (s.create k o).st j := by
  simp only [shapeT, TSt.create, lookT, if_neg (Ne.symm hj), lookT_drop, if_neg hj, killT]
  rw [lookT_map]
  cases h : lookT s.st j with
  | none => rfl
  | some q => cases q <;> rfl

theorem emb_create (R : List Store) (s : TSt) (k : Nat) (o : TOb) : (s.create k o).emb R = (s.emb R).create k (o.emb (s.create k o).st) := by
  have hsh := shape_create s k o
  have e1 : ∀ (l : TStore), embAux (s.create k o).st (dropT (killT k l) k) = drop (killStore k (embAux s.st l)) k := by
    intro l
    induction l with
    | nil => rfl
    | cons p r ih =>
      obtain ⟨j, q⟩ := p
      simp only [killT, List.map_cons, dropT, embAux, killStore, drop]
      by_cases hj : j = k
      · rw [if_pos hj, if_pos hj]; exact ih
      · rw [if_neg hj, if_neg hj]; simp only [List.map_cons]
        rw [ob_kill hsh]; congr 1
  simp only [TSt.emb, St.create, List.map_map]
  congr 1
  · simp only [TSt.create, List.map_map]
    exact List.map_congr_left fun v _ => tv_kill hsh v
  · congr 1
    show embAux _ _ = _
    have : (s.create k o).st = (k, o) :: dropT (killT k s.st) k := rfl
    conv => lhs; rw [this]
    simp only [embAux, List.map_cons]
    congr 1
    exact e1 s.st

theorem tc_stale {S S' : TStore} {k : Nat} {e : TypeId} {n : Nat} (hk : shapeT S k = some (e, n)) (h : ∀ j, j ≠ k → shapeT S j = shapeT S' j) (c : TC) : (c.stale k e n).emb S' = c.emb S := by
  cases c with
  | a x => rfl
  | sl e t x => rfl
  | h j =>
    simp only [TC.stale]
    by_cases hj : j = k
    · subst hj; rw [if_pos rfl]; simp only [TC.emb, hk, AV.one]
    · rw [if_neg hj]; simp only [TC.emb, h j hj]
  | eh j m off =>
    simp only [TC.stale]
    by_cases hj : j = k
    · subst hj; rw [if_pos rfl]; simp only [TC.emb, hk, AV.one]
    · rw [if_neg hj]; simp only [TC.emb, h j hj]
theorem t1_stale {S S' : TStore} {k : Nat} {e : TypeId} {n : Nat} (hk : shapeT S k = some (e, n)) (h : ∀ j, j ≠ k → shapeT S j = shapeT S' j) (c : T1) : (c.stale k e n).emb S' = c.emb S := by
  cases c with
  | c x => exact tc_stale hk h x
  | agg cs =>
    simp only [T1.stale, T1.emb, List.map_map]
    congr 1
    exact List.map_congr_left fun c _ => tc_stale hk h c
  | own e t xs => rfl
theorem tv_stale {S S' : TStore} {k : Nat} {e : TypeId} {n : Nat} (hk : shapeT S k = some (e, n)) (h : ∀ j, j ≠ k → shapeT S j = shapeT S' j) (c : TV) : (c.stale k e n).emb S' = c.emb S := by
  cases c with
  | o x => exact t1_stale hk h x
  | tup cs =>
    simp only [TV.stale, TV.emb, List.map_map]
    congr 1
    exact List.map_congr_left fun c _ => t1_stale hk h c
  | efz t x off => rfl
theorem ob_stale {S S' : TStore} {k : Nat} {e : TypeId} {n : Nat} (hk : shapeT S k = some (e, n)) (h : ∀ j, j ≠ k → shapeT S j = shapeT S' j) (c : TOb) : (c.stale k e n).emb S' = c.emb S := by
  cases c with
  | box cs =>
    simp only [TOb.stale, TOb.emb, List.map_map]
    congr 1
    exact List.map_congr_left fun c _ => tc_stale hk h c
  | arr => rfl

theorem emb_grow (R : List Store) (s : TSt) (k : Nat) (e : TypeId) (n : Nat) (o : TOb) (hk : shapeT s.st k = some (e, n)) (ho : ∀ S S', o.emb S = o.emb S') :
    (s.grow k e n o).emb R = { s.emb R with stores := setOb (s.emb R).stores 0 k (o.emb s.st) } := by
  have hsh : ∀ j, j ≠ k → shapeT s.st j = shapeT (s.grow k e n o).st j := by
    intro j hj
    simp only [shapeT, TSt.grow, lookT_lay, if_neg hj]
    rw [lookT_map]
    cases h : lookT s.st j with
    | none => rfl
    | some q => cases q <;> rfl
  have e1 : ∀ (l : TStore), embAux (s.grow k e n o).st (layT (l.map fun p => (p.1, p.2.stale k e n)) k o) = lay (embAux s.st l) k (o.emb s.st) := by
    intro l
    induction l with
    | nil => rfl
    | cons p r ih =>
      obtain ⟨j, q⟩ := p
      simp only [List.map_cons, layT, embAux, lay]
      by_cases hj : j = k
      · rw [if_pos hj, if_pos hj]
        simp only [List.map_cons, List.map_map]
        rw [ho _ s.st]
        congr 1
        refine List.map_congr_left fun p _ => ?_
        simp only [Function.comp]
        rw [ob_stale hk hsh]
      · rw [if_neg hj, if_neg hj]; simp only [List.map_cons]
        rw [ob_stale hk hsh]; congr 1
  simp only [TSt.emb, setOb]
  congr 1
  · simp only [TSt.grow, List.map_map]
    exact List.map_congr_left fun v _ => tv_stale hk hsh v
  · congr 1
    exact e1 s.st
end Go.AbsM
