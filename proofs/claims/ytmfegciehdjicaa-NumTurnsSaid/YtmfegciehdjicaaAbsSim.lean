/-
  The abstract machine: a frame's state against the model's frame and memory; what each kind of change keeps.
-/
import Derived.Test.YtmfegciehdjicaaAbsRel
set_option linter.unusedVariables false
set_option linter.unusedSimpArgs false
namespace Go.AbsM

/-! ### Stores -/
theorem look_lay (st : Store) (n m : Nat) (p : Ob) : look (lay st n p) m = if m = n then (look st n).map (fun _ => p) else look st m := by
  induction st with
  | nil => simp [lay, look]
  | cons x r ih =>
    obtain ⟨k, o⟩ := x
    simp only [lay]
    by_cases hk : k = n
    · subst hk
      simp only [if_pos, look]
      by_cases hm : m = k
      · subst hm; simp [look]
      · rw [if_neg (Ne.symm hm), if_neg hm, if_neg (Ne.symm hm)]
    · simp only [if_neg hk, look, ih]
      by_cases hm : m = n
      · subst hm; simp [hk]
      · simp [hm]
theorem look_drop (st : Store) (n m : Nat) : look (drop st n) m = if m = n then none else look st m := by
  induction st with
  | nil => simp [drop, look]
  | cons x r ih =>
    obtain ⟨k, o⟩ := x
    simp only [drop]
    by_cases hk : k = n
    · subst hk
      simp only [if_pos, ih, look]
      by_cases hm : m = k
      · simp [hm]
      · simp [hm, Ne.symm hm]
    · simp only [if_neg hk, look, ih]
      by_cases hm : m = n
      · subst hm; simp [hk]
      · simp [hm]
theorem look_kill (st : Store) (k m : Nat) : look (killStore k st) m = (look st m).map (Ob.kill k) := by
  induction st with
  | nil => rfl
  | cons x r ih =>
    obtain ⟨j, o⟩ := x
    simp only [killStore, look, ih]
    split <;> rfl

theorem getOb_set (S : List Store) (i k : Nat) (o : Ob) (j m : Nat) : getOb (setOb S i k o) j m = if j = i ∧ m = k then (getOb S i k).map (fun _ => o) else getOb S j m := by
  induction S generalizing i j with
  | nil => simp [setOb, getOb]
  | cons t r ih =>
    cases i with
    | zero =>
      cases j with
      | zero => simp [setOb, getOb, look_lay]
      | succ j => simp [setOb, getOb]
    | succ i =>
      cases j with
      | zero => simp [setOb, getOb]
      | succ j => simp [setOb, getOb, ih]

theorem getOb_push (t : Store) (r : List Store) (i k : Nat) : getOb (t :: r) (i + 1) k = getOb r i k := rfl

theorem getOb_create (t : Store) (r : List Store) (k : Nat) (o : Ob) (j m : Nat) : getOb (((k, o) :: drop (killStore k t) k) :: r) j m =
    if j = 0 then (if m = k then some o else (getOb (t :: r) 0 m).map (Ob.kill k)) else getOb (t :: r) j m := by
  cases j with
  | zero =>
    simp only [getOb, look, look_drop, look_kill, if_true]
    by_cases hm : m = k
    · subst hm; simp
    · simp [hm, Ne.symm hm]
  | succ j => simp [getOb]

/-! ### What is kept -/
structure Fr (may : Nat → Prop) (w : World) (M : Nat → Nat → Prop) (w' : World) (M' : Nat → Nat → Prop) : Prop where
  os : w'.os = w.os
  tape : w'.tape = w.tape
  output : w'.output = w.output
  size : w.heap.size ≤ w'.heap.size
  heap : ∀ b, ¬ may b → w'.heap[b]? = w.heap[b]?
  sub : ∀ b o, M b o → M' b o
  cell : ∀ b o, M b o → w'.cell? ⟨b, o, none⟩ = w.cell? ⟨b, o, none⟩
  new : ∀ b o, ¬ may b → M' b o → M b o

theorem Fr.refl (may : Nat → Prop) (w : World) (M : Nat → Nat → Prop) : Fr may w M w M := ⟨rfl, rfl, rfl, Nat.le_refl _, fun _ _ => rfl, fun _ _ h => h, fun _ _ _ => rfl, fun _ _ _ h => h⟩
theorem Fr.trans {may : Nat → Prop} {w w1 w2 : World} {M M1 M2 : Nat → Nat → Prop} (h : Fr may w M w1 M1) (k : Fr may w1 M1 w2 M2) : Fr may w M w2 M2 :=
  ⟨k.os.trans h.os, k.tape.trans h.tape, k.output.trans h.output, Nat.le_trans h.size k.size, fun b hb => (k.heap b hb).trans (h.heap b hb), fun b o hm => k.sub b o (h.sub b o hm),
    fun b o hm => (k.cell b o (h.sub b o hm)).trans (h.cell b o hm), fun b o hb hm => h.new b o hb (k.new b o hb hm)⟩

structure Kp (lv : Nat) (S : List Store) (g : Gh) (S' : List Store) (g' : Gh) : Prop where
  box : ∀ i k cs, lv ≤ i → getOb S i k = some (.box cs) → (∃ cs', getOb S' i k = some (.box cs')) ∧ g'.B i k = g.B i k
  arr : ∀ i k fz e xs, lv ≤ i → getOb S i k = some (.arr fz e xs) → ∃ fz' xs', getOb S' i k = some (.arr fz' e xs') ∧ xs.length ≤ xs'.length ∧
    (xs'.length = xs.length → g'.B i k = g.B i k ∧ (fz' = false → fz = false ∧ g'.C i k = g.C i k))

theorem Kp.refl (lv : Nat) (S : List Store) (g : Gh) : Kp lv S g S g :=
  ⟨fun i k cs _ h => ⟨⟨cs, h⟩, rfl⟩, fun i k fz e xs _ h => ⟨fz, xs, h, Nat.le_refl _, fun _ => ⟨rfl, fun h => ⟨h, rfl⟩⟩⟩⟩
theorem Kp.trans {lv : Nat} {S S1 S2 : List Store} {g g1 g2 : Gh} (h : Kp lv S g S1 g1) (k : Kp lv S1 g1 S2 g2) : Kp lv S g S2 g2 := by
  refine ⟨fun i n cs hi hb => ?_, fun i n fz e xs hi ha => ?_⟩
  · obtain ⟨⟨cs1, h1⟩, e1⟩ := h.box i n cs hi hb
    obtain ⟨h2, e2⟩ := k.box i n cs1 hi h1
    exact ⟨h2, e2.trans e1⟩
  · obtain ⟨fz1, xs1, h1, l1, q1⟩ := h.arr i n fz e xs hi ha
    obtain ⟨fz2, xs2, h2, l2, q2⟩ := k.arr i n fz1 e xs1 hi h1
    refine ⟨fz2, xs2, h2, by omega, fun he => ?_⟩
    obtain ⟨b1, c1⟩ := q1 (by omega)
    obtain ⟨b2, c2⟩ := q2 (by omega)
    refine ⟨b2.trans b1, fun hf => ?_⟩
    obtain ⟨f1, d2⟩ := c2 hf
    obtain ⟨f0, d1⟩ := c1 f1
    exact ⟨f0, d2.trans d1⟩
theorem Kp.mono {lv lv' : Nat} {S S' : List Store} {g g' : Gh} (h : Kp lv S g S' g') (hl : lv ≤ lv') : Kp lv' S g S' g' :=
  ⟨fun i k cs hi => h.box i k cs (by omega), fun i k fz e xs hi => h.arr i k fz e xs (by omega)⟩

/-- Does a value name nothing of the frames from lv up? -/
def AV.from (lv : Nat) : AV → Prop
  | .arr i _ _ _ _ _ => lv ≤ i
  | .ref i _ _ => lv ≤ i
  | .ear i _ _ _ _ _ => lv ≤ i
  | _ => True

theorem AV.from_shift (c : AV) (n : Nat) : (c.shift n).from n := by cases c <;> simp [AV.shift, AV.from]
theorem AV.from_zero (c : AV) : c.from 0 := by cases c <;> simp [AV.from]

section
variable {P : Program} {w w' : World} {g g' : Gh} {S S' : List Store}

theorem CRep.keep {lv : Nat} (hs : ∀ b o, g.M b o → g'.M b o) (hc : ∀ b o, g.M b o → w'.cell? ⟨b, o, none⟩ = w.cell? ⟨b, o, none⟩) (hk : Kp lv S g S' g') {a : AV} {v : Value} (ha : a.from lv) (h : CRep P w g S a v) : CRep P w' g' S' a v := by
  cases a with
  | arr i k e lo n tot =>
    obtain ⟨fz, xs, hg, ht, hv, h1⟩ := h
    obtain ⟨fz', xs', hg', hl, hq⟩ := hk.arr i k fz e xs ha hg
    refine ⟨fz', xs', hg', by omega, fun he => ?_, h1⟩
    obtain ⟨hb, hf⟩ := hq (by omega)
    obtain ⟨hln, A, c, rfl, hnc, hcm, hA, hC⟩ := hv (by omega)
    refine ⟨hln, A, c, rfl, hnc, hcm, fun h => by rw [hb]; exact hA h, fun hff => ?_⟩
    obtain ⟨f0, d⟩ := hf hff
    rw [d]
    exact hC f0
  | ref i k off =>
    obtain ⟨⟨cs, hg⟩, hv⟩ := h
    obtain ⟨hb, he⟩ := hk.box i k cs ha hg
    exact ⟨hb, by rw [he]; exact hv⟩
  | efz cs off =>
    obtain ⟨b, o, vs, hv, hl, hr, hval, hcell⟩ := h
    exact ⟨b, o, vs, hv, hl, fun j c u h1 h2 => (hr j c u h1 h2).mono hs hc, hval, fun j u hu => ⟨(hc _ _ (hcell j u hu).2).trans (hcell j u hu).1, hs _ _ (hcell j u hu).2⟩⟩
  | ear i k e tot j off =>
    obtain ⟨fz, xs, hg, ht, hv⟩ := h
    obtain ⟨fz', xs', hg', hl, hq⟩ := hk.arr i k fz e xs ha hg
    refine ⟨fz', xs', hg', by omega, fun he => ?_⟩
    obtain ⟨hb, hf⟩ := hq (by omega)
    rw [hb]
    exact hv (by omega)
  | und => exact h
  | dead => trivial
  | agg => exact h.elim
  | tup => exact h.elim
  | own => exact h.elim
  | obj => exact h.elim
  | x => exact Rep.mono hs hc h
  | str => exact Rep.mono hs hc h
  | nils => exact Rep.mono hs hc h
  | cap0 => exact Rep.mono hs hc h
  | sl => exact Rep.mono hs hc h

theorem HRep1.keep (hs : ∀ b o, g.M b o → g'.M b o) (hc : ∀ b o, g.M b o → w'.cell? ⟨b, o, none⟩ = w.cell? ⟨b, o, none⟩) (hk : Kp 0 S g S' g') {a : AV} {v : Value} (h : HRep1 P w g S a v) : HRep1 P w' g' S' a v := by
  cases a with
  | agg cs =>
    obtain ⟨vs, hv, hl, hr⟩ := h
    exact ⟨vs, hv, hl, fun i c u h1 h2 => ⟨(hr i c u h1 h2).1.keep hs hc hk c.from_zero, (hr i c u h1 h2).2⟩⟩
  | _ =>
    unfold HRep1 at h ⊢
    exact CRep.keep hs hc hk (AV.from_zero _) h

theorem HRep.keep (hs : ∀ b o, g.M b o → g'.M b o) (hc : ∀ b o, g.M b o → w'.cell? ⟨b, o, none⟩ = w.cell? ⟨b, o, none⟩) (hk : Kp 0 S g S' g') {a : AV} {v : Value} (h : HRep P w g S a v) : HRep P w' g' S' a v := by
  cases a with
  | tup as =>
    obtain ⟨vs, hv, hl, hr⟩ := h
    exact ⟨vs, hv, hl, fun i c u h1 h2 => (hr i c u h1 h2).keep hs hc hk⟩
  | _ =>
    unfold HRep at h ⊢
    exact HRep1.keep hs hc hk h
end

/-! ### A frame -/
structure Sim (P : Program) (may : Nat → Prop) (s : St) (a : Act) (w : World) (g : Gh) : Prop where
  inv : SInv P w g may s.stores
  len : a.tmps.size = s.slots.length
  slots : ∀ (t : Nat) (x : AV), s.slots[t]? = some x → HRep P w g s.stores x (a.tmps.getD t undef)
  defers : a.defers = []
  ne : s.stores ≠ []

section
variable {P : Program} {may : Nat → Prop} {s : St} {a : Act} {w : World} {g : Gh}

theorem Sim.get (h : Sim P may s a w g) (t : Nat) : HRep P w g s.stores (s.get t) (a.tmps.getD t undef) := by
  unfold St.get
  rw [List.getD_eq_getElem?_getD]
  cases hx : s.slots[t]? with
  | none => trivial
  | some x => exact h.slots t x hx

theorem put_tmps (a : Act) (d : Nat) (v : Value) (t : Nat) : (a.put (some d) v).tmps.getD t undef = if t = d ∧ d < a.tmps.size then v else a.tmps.getD t undef := by
  simp only [Act.put, Array.getD_eq_getD_getElem?, Array.getElem?_setIfInBounds]
  by_cases h : d = t
  · subst h
    by_cases hd : d < a.tmps.size
    · simp [hd]
    · simp [hd]
  · simp [h, Ne.symm h]

theorem Sim.put (h : Sim P may s a w g) {x : AV} {v : Value} (hx : HRep P w g s.stores x v) (d : Option Nat) : Sim P may (s.put d x) (a.put d v) w g := by
  cases d with
  | none => exact h
  | some d =>
    refine ⟨h.inv, ?_, fun t y hy => ?_, h.defers, h.ne⟩
    · simp [St.put, Act.put, h.len]
    · simp only [St.put, List.getElem?_set] at hy
      rw [put_tmps]
      by_cases htd : d = t
      · subst htd
        by_cases hd : d < s.slots.length
        · simp [hd] at hy; subst hy
          rw [if_pos ⟨rfl, by rw [h.len]; exact hd⟩]; exact hx
        · simp [hd] at hy
      · rw [if_neg htd] at hy
        rw [if_neg (fun e => htd e.1.symm)]
        exact h.slots t y hy

theorem Sim.keep (h : Sim P may s a w g) {w' : World} {g' : Gh} {S' : List Store} (hs : ∀ b o, g.M b o → g'.M b o) (hc : ∀ b o, g.M b o → w'.cell? ⟨b, o, none⟩ = w.cell? ⟨b, o, none⟩) (hk : Kp 0 s.stores g S' g')
    (hi : SInv P w' g' may S') (hne : S' ≠ []) : Sim P may { s with stores := S' } a w' g' :=
  ⟨hi, h.len, fun t x hx => (h.slots t x hx).keep hs hc hk, h.defers, hne⟩

theorem setOb_ne {S : List Store} (h : S ≠ []) (i k : Nat) (o : Ob) : setOb S i k o ≠ [] := by
  cases S with
  | nil => exact absurd rfl h
  | cons t r => cases i <;> simp [setOb]
end

/-! ### Constants, operands -/
section
variable {P : Program} {w : World} {g : Gh} {S : List Store}

theorem constCell_rep {v : Value} {x : AV} (h : constCell v = some x) (M : Nat → Nat → Prop) : Rep P w M x v ∧ x.isVal = true := by
  unfold constCell at h
  split at h <;> simp at h <;> subst h <;> first
    | exact ⟨.x rfl, rfl⟩
    | exact ⟨.nils, rfl⟩
    | skip
  rename_i s
  refine ⟨?_, rfl⟩
  have : (Rep P w M (.str s.data.toList) (.string ⟨s.data.toList.toArray⟩)) := .str
  simpa using this

theorem CRep.of_rep {x : AV} {v : Value} (h : Rep P w g.M x v) (hx : x.isVal = true) : CRep P w g S x v := by
  cases x <;> first | exact h | simp [AV.isVal] at hx

theorem CRep.rep {x : AV} {v : Value} (h : CRep P w g S x v) (hx : x.isVal = true) : Rep P w g.M x v := by
  cases x <;> first | exact h | simp [AV.isVal] at hx

theorem HRep.of_cell {x : AV} {v : Value} (h : CRep P w g S x v) : HRep P w g S x v := by
  cases x <;> first | exact h | exact h.elim

theorem HRep1.of_cell {x : AV} {v : Value} (h : CRep P w g S x v) : HRep1 P w g S x v := by
  cases x <;> first | exact h | exact h.elim

theorem constCells_rep {vs : List Value} {l : List AV} (h : constCells vs = some l) (M : Nat → Nat → Prop) :
    vs.length = l.length ∧ ∀ (i : Nat) (c : AV) (u : Value), l[i]? = some c → vs[i]? = some u → Rep P w M c u ∧ c.isVal = true := by
  induction vs generalizing l with
  | nil => simp [constCells] at h; subst h; simp
  | cons v r ih =>
    simp only [constCells] at h
    split at h
    · rename_i a b ha hb
      simp at h; subst h
      obtain ⟨hl, hr⟩ := ih hb
      refine ⟨by simp [hl], fun i c u hc hu => ?_⟩
      cases i with
      | zero => simp at hc hu; subst hc; subst hu; exact constCell_rep ha M
      | succ i => simp at hc hu; exact hr i c u hc hu
    · simp at h

theorem constAV_rep {v : Value} {x : AV} (h : constAV v = some x) (M : Nat → Nat → Prop) : Rep P w M x v := by
  unfold constAV at h
  split at h
  · rename_i cs
    obtain ⟨l, hl, rfl⟩ := Option.map_eq_some_iff.1 h
    obtain ⟨h1, h2⟩ := constCells_rep (P := P) (w := w) hl M
    have : Rep P w M (.agg l) (.agg cs.toList.toArray) := .agg h1 (fun i c u hc hu => (h2 i c u hc hu).1) fun c hc => by
      obtain ⟨i, hi, rfl⟩ := List.getElem_of_mem hc
      exact (h2 i l[i] (cs.toList[i]'(by omega)) (by simp [hi]) (by simp)).2
    simpa using this
  · exact (constCell_rep h M).1

theorem HRep.of_rep {x : AV} {v : Value} (h : Rep P w g.M x v) : HRep P w g S x v := by
  cases h with
  | x h => exact Rep.x h
  | str => exact Rep.str
  | nils => exact Rep.nils
  | cap0 => exact Rep.cap0
  | sl h1 h2 h3 h4 h5 h6 h7 h8 => exact Rep.sl h1 h2 h3 h4 h5 h6 h7 h8
  | agg hl hr hv => exact ⟨_, rfl, hl, fun i c u hc hu => ⟨CRep.of_rep (hr i c u hc hu) (hv c (List.mem_of_getElem? hc)), (hr i c u hc hu).oneCell (hv c (List.mem_of_getElem? hc))⟩⟩
end

theorem Sim.evalO {P : Program} {may : Nat → Prop} {s : St} {a : Act} {w : World} {g : Gh} (h : Sim P may s a w g) {o : Operand} {x : AV} (hx : AbsM.evalO s o = some x) : HRep P w g s.stores x (a.eval o) := by
  cases o with
  | tmp t => simp only [AbsM.evalO, Option.some.injEq] at hx; subst hx; exact h.get t
  | const v => exact HRep.of_rep (constAV_rep hx g.M)
  | global => simp [AbsM.evalO] at hx
  | func => simp [AbsM.evalO] at hx

end Go.AbsM
