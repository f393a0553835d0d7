/-
  The typed machine: what holds of a run of it holds of the model's.
-/
import Derived.Test.YtmfegciehdjicaaAbtOp4
set_option linter.unusedVariables false
set_option linter.unusedSimpArgs false
namespace Go.AbsM

section
variable {P : Program} {E : Env} {w : World} {g : Gh} {may : Nat → Prop}

/-! ### Less is known -/
def AV.at : AV → Option (Nat × Nat)
  | .arr i k .. => some (i, k)
  | .ref i k _ => some (i, k)
  | .ear i k .. => some (i, k)
  | _ => none

theorem CRep.weak {S1 S2 : List Store} {a : AV} {v : Value} (h : CRep P w g S1 a v) (hk : ∀ i k, a.at = some (i, k) → getOb S2 i k = getOb S1 i k) : CRep P w g S2 a v := by
  cases a with
  | arr i k e lo n tot =>
    obtain ⟨fz, xs, h1, h2⟩ := h
    exact ⟨fz, xs, by rw [hk i k rfl]; exact h1, h2⟩
  | ref i k off => exact ⟨by rw [hk i k rfl]; exact h.1, h.2⟩
  | ear i k e tot j off =>
    obtain ⟨fz, xs, h1, h2⟩ := h
    exact ⟨fz, xs, by rw [hk i k rfl]; exact h1, h2⟩
  | _ => exact h

theorem lookT_pick (S : TStore) (ks : List Nat) (k : Nat) : lookT (pickT S ks) k = if k ∈ ks then lookT S k else none := by
  induction ks with
  | nil => rfl
  | cons j r ih =>
    simp only [pickT]
    cases hj : lookT S j with
    | none =>
      simp only [ih]
      by_cases hk : k = j
      · subst hk; simp [hj]
      · simp [hk]
    | some o =>
      simp only [lookT, ih]
      by_cases hk : j = k
      · subst hk; simp [hj]
      · simp [hk, Ne.symm hk]

theorem ok_look {S : TStore} {ks : List Nat} {k : Nat} (h : (lookT (pickT S ks) k).isSome = true) : lookT (pickT S ks) k = lookT S k := by
  rw [lookT_pick] at h ⊢
  split
  · rfl
  · rename_i hk; rw [if_neg hk] at h; cases h
theorem ok_shape {S : TStore} {ks : List Nat} {k : Nat} (h : (lookT (pickT S ks) k).isSome = true) : shapeT (pickT S ks) k = shapeT S k := by
  simp only [shapeT, ok_look h]

/-- A cell that is kept: as before; what it names is there. -/
theorem okc {S : TStore} {ks : List Nat} {c : TC} (h : c.okIn (pickT S ks) = true) : c.emb (pickT S ks) = c.emb S ∧ ∀ i k, (c.emb S).at = some (i, k) → i = 0 ∧ (lookT (pickT S ks) k).isSome = true := by
  cases c with
  | h j =>
    simp only [TC.okIn] at h
    refine ⟨by simp only [TC.emb, ok_shape h], fun i k hk => ?_⟩
    simp only [TC.emb] at hk
    split at hk
    · simp only [AV.at, Option.some.injEq, Prod.mk.injEq] at hk
      obtain ⟨rfl, rfl⟩ := hk; exact ⟨rfl, h⟩
    · cases hk
  | eh j m off =>
    simp only [TC.okIn] at h
    refine ⟨by simp only [TC.emb, ok_shape h], fun i k hk => ?_⟩
    simp only [TC.emb] at hk
    split at hk
    · simp only [AV.at, Option.some.injEq, Prod.mk.injEq] at hk
      obtain ⟨rfl, rfl⟩ := hk; exact ⟨rfl, h⟩
    · cases hk
  | sl e t x => exact ⟨rfl, fun i k hk => by cases x <;> cases hk⟩
  | a x =>
    refine ⟨rfl, fun i k hk => ?_⟩
    cases x with
    | arr i' k' e lo n tot =>
      simp only [TC.emb, AV.one, AV.at, Option.some.injEq, Prod.mk.injEq] at hk
      obtain ⟨rfl, rfl⟩ := hk
      cases i' with
      | zero => exact ⟨rfl, h⟩
      | succ i => cases h
    | ref i' k' off =>
      simp only [TC.emb, AV.one, AV.at, Option.some.injEq, Prod.mk.injEq] at hk
      obtain ⟨rfl, rfl⟩ := hk
      cases i' with
      | zero => exact ⟨rfl, h⟩
      | succ i => cases h
    | ear i' k' e tot j off =>
      simp only [TC.emb, AV.one, AV.at, Option.some.injEq, Prod.mk.injEq] at hk
      obtain ⟨rfl, rfl⟩ := hk
      cases i' with
      | zero => exact ⟨rfl, h⟩
      | succ i => cases h
    | _ => cases hk

def St2 (S : TStore) (R : List Store) : List Store := embStore S :: R
theorem getOb_st2 (S : TStore) (R : List Store) (k : Nat) : getOb (St2 S R) 0 k = (lookT S k).map (TOb.emb S) := look_embAux S S k

theorem okob {S : TStore} {ks : List Nat} (hst : (pickT S ks).all (fun p => p.2.okIn (pickT S ks)) = true) {k : Nat} {o : TOb} (h : lookT (pickT S ks) k = some o) : o.emb (pickT S ks) = o.emb S ∧ o.okIn (pickT S ks) = true := by
  have hmem : ∀ (l : TStore), lookT l k = some o → ∃ j, (j, o) ∈ l := by
    intro l
    induction l with
    | nil => intro h; cases h
    | cons p r ih =>
      obtain ⟨j, q⟩ := p
      intro h
      simp only [lookT] at h
      split at h
      · simp only [Option.some.injEq] at h; subst h; exact ⟨j, List.mem_cons_self⟩
      · obtain ⟨m, hm⟩ := ih h; exact ⟨m, List.mem_cons_of_mem _ hm⟩
  obtain ⟨j, hj⟩ := hmem _ h
  have hok := List.all_eq_true.1 hst _ hj
  refine ⟨?_, hok⟩
  cases o with
  | arr => rfl
  | box cs =>
    simp only [TOb.emb]
    congr 1
    exact List.map_congr_left fun c hc => (okc (List.all_eq_true.1 hok c hc)).1

theorem look_weak {S : TStore} {R : List Store} {ks : List Nat} (hst : (pickT S ks).all (fun p => p.2.okIn (pickT S ks)) = true) {i k : Nat} {o : Ob} (h : getOb (St2 (pickT S ks) R) i k = some o) : getOb (St2 S R) i k = some o := by
  cases i with
  | succ i => exact h
  | zero =>
    rw [getOb_st2] at h ⊢
    cases hl : lookT (pickT S ks) k with
    | none => rw [hl] at h; cases h
    | some q =>
      have h1 := ok_look (S := S) (ks := ks) (k := k) (by rw [hl]; rfl)
      rw [← h1, hl, Option.map_some, ← (okob hst hl).1, ← Option.map_some, ← hl]; exact h

theorem at_weak {S : TStore} {R : List Store} {ks : List Nat} (hst : (pickT S ks).all (fun p => p.2.okIn (pickT S ks)) = true) {c : TC} (h : c.okIn (pickT S ks) = true) (i k : Nat) (hk : (c.emb S).at = some (i, k)) : getOb (St2 (pickT S ks) R) i k = getOb (St2 S R) i k := by
  obtain ⟨rfl, hs⟩ := (okc h).2 i k hk
  rw [getOb_st2, getOb_st2, ← ok_look hs]
  cases hl : lookT (pickT S ks) k with
  | none => rfl
  | some o => simp only [Option.map_some, (okob hst hl).1]

theorem at_shift (c : AV) (n i k : Nat) (h : (c.shift n).at = some (i, k)) : n ≤ i ∧ c.at = some (i - n, k) := by
  cases c <;> simp only [AV.shift, AV.at, Option.some.injEq, Prod.mk.injEq] at h <;> first | (obtain ⟨rfl, rfl⟩ := h; exact ⟨by omega, by simp [AV.at]⟩) | cases h

theorem SInv.weak {S : TStore} {R : List Store} {ks : List Nat} (hst : (pickT S ks).all (fun p => p.2.okIn (pickT S ks)) = true) (h : SInv P w g may (St2 S R)) : SInv P w g may (St2 (pickT S ks) R) := by
  refine ⟨fun i k cs hg => ?_, fun i k e xs hg => h.arr i k e xs (look_weak hst hg), fun i k e xs hg => h.fz i k e xs (look_weak hst hg), fun i k o i' k' o' hg hg' => h.inj i k o i' k' o' (look_weak hst hg) (look_weak hst hg'), h.mlt⟩
  obtain ⟨h1, h2, vs, t, h3, h4, h5⟩ := h.box i k cs (look_weak hst hg)
  refine ⟨h1, h2, vs, t, h3, h4, fun j c u hc hu => ⟨(h5 j c u hc hu).1.weak fun i' k' hat => ?_, (h5 j c u hc hu).2⟩⟩
  cases i with
  | succ i =>
    have := (at_shift c (i + 1) i' k' hat).1
    cases i' with
    | zero => omega
    | succ i' => rfl
  | zero =>
    rw [getOb_st2] at hg
    cases hl : lookT (pickT S ks) k with
    | none => rw [hl] at hg; cases hg
    | some q =>
      rw [hl] at hg
      cases q with
      | arr => cases hg
      | box tcs =>
        simp only [Option.map_some, TOb.emb, Option.some.injEq, Ob.box.injEq] at hg
        subst hg
        have hok := (okob hst hl).2
        simp only [List.getElem?_map, Option.map_eq_some_iff] at hc
        obtain ⟨tc, htc, rfl⟩ := hc
        have htok := List.all_eq_true.1 hok tc (List.mem_of_getElem? htc)
        rw [(okc htok).1] at hat
        have := (at_shift _ 0 i' k' hat).2
        exact at_weak hst htok i' k' (by simpa using this)

theorem hrep1_weak {S : TStore} {R : List Store} {ks : List Nat} (hst : (pickT S ks).all (fun p => p.2.okIn (pickT S ks)) = true) {x : T1} (hx : x.okIn (pickT S ks) = true) {v : Value} (h : HRep1 P w g (St2 S R) (x.emb S) v) : HRep1 P w g (St2 (pickT S ks) R) (x.emb (pickT S ks)) v := by
  cases x with
  | c c =>
    have hs := tc_simple c S
    have e : (T1.c c).emb (pickT S ks) = (T1.c c).emb S := (okc hx).1
    rw [e]
    have h' : CRep P w g (St2 S R) (c.emb S) v := by
      have h : HRep1 P w g (St2 S R) (c.emb S) v := h
      cases hy : c.emb S <;> rw [hy] at h <;> first | exact h | exact absurd hy (hs.1 _)
    have h2 : CRep P w g (St2 (pickT S ks) R) (c.emb S) v := h'.weak fun i k hk => at_weak hst hx i k hk
    show HRep1 P w g (St2 (pickT S ks) R) (c.emb S) v
    cases hy : c.emb S <;> rw [hy] at h2 <;> first | exact h2 | exact absurd hy (hs.1 _)
  | agg cs =>
    have hx := List.all_eq_true.1 hx
    obtain ⟨vs, rfl, hl, hc⟩ := h
    have e : (T1.agg cs).emb (pickT S ks) = (T1.agg cs).emb S := by
      simp only [T1.emb]; congr 1
      exact List.map_congr_left fun c hc => (okc (hx c hc)).1
    rw [e]
    refine ⟨vs, rfl, hl, fun i c u hc' hu => ?_⟩
    obtain ⟨q1, q2⟩ := hc i c u hc' hu
    refine ⟨q1.weak fun i' k' hk => ?_, q2⟩
    simp only [List.getElem?_map, Option.map_eq_some_iff] at hc'
    obtain ⟨tc, htc, rfl⟩ := hc'
    exact at_weak hst (hx tc (List.mem_of_getElem? htc)) i' k' hk
  | own => cases hx

theorem hrep_weak {S : TStore} {R : List Store} {ks : List Nat} (hst : (pickT S ks).all (fun p => p.2.okIn (pickT S ks)) = true) {x : TV} (hx : x.okIn (pickT S ks) = true) {v : Value} (h : HRep P w g (St2 S R) (x.emb S) v) : HRep P w g (St2 (pickT S ks) R) (x.emb (pickT S ks)) v := by
  cases x with
  | o x =>
    have hs := t1_simple x S
    have hs2 := t1_simple x (pickT S ks)
    have h' : HRep1 P w g (St2 S R) (x.emb S) v := by
      have h : HRep P w g (St2 S R) (x.emb S) v := h
      cases hy : x.emb S <;> rw [hy] at h <;> first | exact h | exact absurd hy (hs _)
    have h2 := hrep1_weak hst hx h'
    show HRep P w g (St2 (pickT S ks) R) (x.emb (pickT S ks)) v
    cases hy : x.emb (pickT S ks) <;> rw [hy] at h2 <;> first | exact h2 | exact absurd hy (hs2 _)
  | tup xs =>
    have hx := List.all_eq_true.1 hx
    obtain ⟨vs, rfl, hl, hc⟩ := h
    refine ⟨vs, rfl, by simpa using hl, fun i c u hc' hu => ?_⟩
    simp only [List.getElem?_map, Option.map_eq_some_iff] at hc'
    obtain ⟨y, hy, rfl⟩ := hc'
    exact hrep1_weak hst (hx y (List.mem_of_getElem? hy)) (hc i (y.emb S) u (by rw [List.getElem?_map, hy]; rfl) hu)
  | efz t x off => exact h

theorem findSlot_map (ls : List Nat) (f : Nat → TV) (t : Nat) : findSlot (ls.map fun t => (t, f t)) t = if t ∈ ls then f t else .a .dead := by
  induction ls with
  | nil => rfl
  | cons j r ih =>
    simp only [List.map_cons, findSlot, ih]
    by_cases h : j = t
    · subst h; simp
    · simp [h, Ne.symm h]

theorem cleanT_ok {n : Nat} {ls ks : List Nat} {s : TSt} {K : TSt → Prop} (h : cleanT n ls ks s K) :
    ∃ s2, K s2 ∧ ∀ (R : List Store) (may : Nat → Prop) (a : Act) (w : World) (g : Gh), Sim P may (s.emb R) a w g → Sim P may (s2.emb R) a w g := by
  unfold cleanT at h
  simp only at h
  split at h
  · rename_i hc
    obtain ⟨hn, hsl, hst⟩ := hc
    refine ⟨_, h, fun R may a w g hs => ?_⟩
    refine ⟨SInv.weak hst hs.inv, ?_, fun t x hx => ?_, hs.defers, by simp [TSt.emb]⟩
    · rw [hs.len]; simp [TSt.emb, mkS, hn]
    · simp only [TSt.emb, mkS, List.map_map, List.getElem?_map, Option.map_eq_some_iff] at hx
      obtain ⟨t', ht, rfl⟩ := hx
      have htt : t' = t ∧ t < n := by
        have := List.getElem?_eq_some_iff.1 ht
        obtain ⟨hlt, he⟩ := this
        simp at hlt he
        exact ⟨he.symm, hlt⟩
      obtain ⟨rfl, hlt⟩ := htt
      simp only [Function.comp, findSlot_map]
      split
      · rename_i hm
        have hok := List.all_eq_true.1 hsl _ (List.mem_map.2 ⟨t', hm, rfl⟩)
        have := hs.get t'
        rw [emb_get] at this
        exact hrep_weak hst hok this
      · trivial
  · exact h.elim

theorem leaves_from {S S2 : TStore} {sl sl2 : List TV} {R : List Store} {s' : St} {a' : Act} {w' : World} (h : Leaves P may (TSt.emb R ⟨sl2, S2⟩) w g s' a' w') : Leaves P may (TSt.emb R ⟨sl, S⟩) w g s' a' w' := by
  obtain ⟨g', h1, h2, h3⟩ := h
  refine ⟨g', h1, h2, fun i k cs hi hb => h3.box i k cs hi ?_, fun i k fz e xs hi ha => h3.arr i k fz e xs hi ?_⟩
  · cases i with
    | zero => omega
    | succ i => exact hb
  · cases i with
    | zero => omega
    | succ i => exact ha
theorem leaves_to {s2 s1 : TSt} {s0 : St} {R : List Store} {a' : Act} {w' : World} (hw : ∀ (R : List Store) (may : Nat → Prop) (a : Act) (w : World) (g : Gh), Sim P may (s1.emb R) a w g → Sim P may (s2.emb R) a w g) (h : Leaves P may s0 w g (s1.emb R) a' w') : Leaves P may s0 w g (s2.emb R) a' w' := by
  obtain ⟨g', h1, h2, h3⟩ := h
  refine ⟨g', hw _ _ _ _ _ h1, h2, fun i k cs hi hb => ?_, fun i k fz e xs hi ha => ?_⟩
  · have := h3.box i k cs hi hb
    cases i with
    | zero => omega
    | succ i => exact this
  · have := h3.arr i k fz e xs hi ha
    cases i with
    | zero => omega
    | succ i => exact this

/-! ### Runs -/
def Ends (P : Program) (may : Nat → Prop) (R : List Store) (s : TSt) (w : World) (g : Gh) (Φ : AExit → TSt → Prop) : Exit → Act → World → Prop :=
  fun x a' w' => ∃ e s', x = e.toExit ∧ Φ e s' ∧ Leaves P may (s.emb R) w g (s'.emb R) a' w'

def Run (P : Program) (t : Task) (s : TSt) (Φ : AExit → TSt → Prop) : Prop :=
  ∀ (R : List Store) (may : Nat → Prop) (a : Act) (w : World) (g : Gh), Sim P may (s.emb R) a w g → (∀ b, w.heap.size ≤ b → may b) → Goes P t (Ends P may R s w g Φ) a w

theorem Run.of_clean {t : Task} {s : TSt} {n : Nat} {ls ks : List Nat} {Φ : AExit → TSt → Prop} {K : TSt → Prop} (h : cleanT n ls ks s K) (hK : ∀ s2, K s2 → Run P t s2 Φ) : Run P t s Φ := by
  obtain ⟨s2, hk, hw⟩ := cleanT_ok (P := P) h
  intro R may a w g hs hm
  have h2 := hK s2 hk R may a w g (hw _ _ _ _ _ hs) hm
  have step : ∀ x a' w', Ends P may R s2 w g Φ x a' w' → Ends P may R s w g Φ x a' w' := by
    rintro x a' w' ⟨e, s', hx, hp, hl⟩
    exact ⟨e, s', hx, hp, leaves_from hl⟩
  cases t with
  | within c rest =>
    intro b k cs
    obtain ⟨e, a', w', hq, harr⟩ := h2 b k cs
    exact ⟨e, a', w', step _ _ _ hq, harr⟩
  | code c =>
    cases c with
    | loop c =>
      intro b k cs
      obtain ⟨e, a', w', hq, harr⟩ := h2 b k cs
      exact ⟨e, a', w', step _ _ _ hq, harr⟩
    | _ => exact wp_mono h2 step

theorem Run.mono {t : Task} {s : TSt} {Φ Φ' : AExit → TSt → Prop} (h : Run P t s Φ) (hk : ∀ e s', Φ e s' → ∃ s2, Φ' e s2 ∧ ∀ (R : List Store) (may : Nat → Prop) (a : Act) (w : World) (g : Gh), Sim P may (s'.emb R) a w g → Sim P may (s2.emb R) a w g) : Run P t s Φ' := by
  intro R may a w g hs hm
  have h2 := h R may a w g hs hm
  have step : ∀ x a' w', Ends P may R s w g Φ x a' w' → Ends P may R s w g Φ' x a' w' := by
    rintro x a' w' ⟨e, s', hx, hp, hl⟩
    obtain ⟨s2, hp2, hw⟩ := hk e s' hp
    exact ⟨e, s2, hx, hp2, leaves_to hw hl⟩
  cases t with
  | within c rest =>
    intro b k cs
    obtain ⟨e, a', w', hq, harr⟩ := h2 b k cs
    exact ⟨e, a', w', step _ _ _ hq, harr⟩
  | code c =>
    cases c with
    | loop c =>
      intro b k cs
      obtain ⟨e, a', w', hq, harr⟩ := h2 b k cs
      exact ⟨e, a', w', step _ _ _ hq, harr⟩
    | _ => exact wp_mono h2 step

theorem Run.code {c : Code} {s : TSt} {Φ : AExit → TSt → Prop} (h : Run P (.code c) s Φ) {R : List Store} {a : Act} (hs : Sim P may (s.emb R) a w g) (hm : ∀ b, w.heap.size ≤ b → may b) : c.wp P (Ends P may R s w g Φ) a w :=
  (h R may a w g hs hm).code

/-- What follows a leave is a leave. -/
theorem Ends.trans {R : List Store} {s s1 : TSt} {Φ : AExit → TSt → Prop} {x : Exit} {a2 : Act} {w1 w2 : World} {g1 : Gh} (k2 : Fr may w g.M w1 g1.M) (k3 : Kp 1 (s.emb R).stores g (s1.emb R).stores g1) (h : Ends P may R s1 w1 g1 Φ x a2 w2) : Ends P may R s w g Φ x a2 w2 := by
  obtain ⟨e, s', hx, hp, g2, q1, q2, q3⟩ := h
  exact ⟨e, s', hx, hp, g2, q1, k2.trans q2, k3.trans q3⟩

/-- What is known of loops, of the places that are jumped to. -/
def LamOk (P : Program) (Λ : Known) : Code → Prop
  | .seq a b => LamOk P Λ a ∧ LamOk P Λ b
  | .cond _ a b => LamOk P Λ a ∧ LamOk P Λ b
  | .block id c => match Λ.blk id with
    | some ψ => ∀ s Φ, ψ s Φ → Run P (.code (.block id c)) s Φ
    | none => LamOk P Λ c
  | .scope c => LamOk P Λ c ∧ ∀ l rest ψ, findLabel c l = some rest → Λ.lab l = some ψ → ∀ s Φ, ψ s Φ → Run P (.within c rest) s Φ
  | _ => True

structure KnownOk (P : Program) (E : Env) (Λ : Known) : Prop where
  env : EnvOk P E
  lend : ∀ f j, E.lend f j = false
  ctr : CtrOk E Λ.G
  solo : E.solo = Λ.solo
  draw : ∀ ops, Λ.ok ops = true → drawM E.solo ops = true

theorem wpT_ok {Λ : Known} (hΛ : KnownOk P E Λ) : ∀ (c : Code) (s : TSt) (Φ : AExit → TSt → Prop), LamOk P Λ c → wpT P Λ c s Φ → Run P (.code c) s Φ := by
  intro c
  induction c with
  | skip => intro s Φ _ h R may a w g hs hm; exact wp_skip ⟨.normal, s, rfl, h, .same hs rfl⟩
  | label l => intro s Φ _ h R may a w g hs hm; exact wp_label ⟨.normal, s, rfl, h, .same hs rfl⟩
  | exit id => intro s Φ _ h R may a w g hs hm; exact wp_exit ⟨.exit id, s, rfl, h, .same hs rfl⟩
  | goto l => intro s Φ _ h R may a w g hs hm; exact wp_goto ⟨.goto l, s, rfl, h, .same hs rfl⟩
  | ret => intro s Φ _ h R may a w g hs hm; exact wp_ret ⟨.ret, s, rfl, h, .same hs rfl⟩
  | region id ops d =>
    intro s Φ _ h R may a w g hs hm
    let rec0 : Rec := fun _ _ => none
    have hrec : RecOk P rec0 := fun t s e s' h => by cases h
    cases d with
    | false =>
      obtain ⟨s1, h1, hp⟩ := opsT_ok (R := R) (stA := fun o s => stepOp P E rec0 s o) (fun s o K hk => stepOpT_ok hΛ.lend hΛ.ctr hk) _ s _ h
      exact wp_region (opsA_wp (fun o s s' h => stepOp_wp hΛ.env hrec h) hm (fun a' w' hl => ⟨.normal, s1, rfl, hp, hl⟩) _ _ _ _ h1 (.same hs rfl))
    | true =>
      simp only [wpT] at h
      split at h
      · rename_i hok
        obtain ⟨s1, h1, hp⟩ := opsT_ok (R := R) (stA := fun o s => drawOp P E rec0 s o) (fun s o K hk => by
          rw [← hΛ.solo] at hk; exact drawT_ok hΛ.lend hΛ.ctr hk) _ s _ h
        refine wp_region_draw fun t => ?_
        rw [hΛ.env.wide]
        have h2 := draw_okM (hΛ.draw ops hok) rec0 _ _ t h1
        have hd : Ext w { w with drawn := w.drawn + 1 } := Ext.drew w
        obtain ⟨q1, q2, q3⟩ := hs.grow hm hd (M' := g.M) (fun b o h => h) (fun b o h hn => absurd h hn)
        exact opsA_wp (fun o s s' h => drawOp_wp hΛ.env hrec h) hm (fun a' w' hl => ⟨.normal, s1, rfl, hp, hl⟩) _ _ _ _ h2 ⟨_, q1, q2, q3.mono (by omega)⟩
      · exact h.elim
  | seq x y ihx ihy =>
    intro s Φ hl h R may a w g hs hm
    refine wp_seq (wp_mono ((ihx s _ hl.1 h).code hs hm) fun ex a1 w1 ⟨e, s1, hx, hp, hlv⟩ => ?_)
    subst hx
    cases e with
    | normal =>
      obtain ⟨g1, k1, k2, k3⟩ := hlv
      exact wp_mono ((ihy s1 Φ hl.2 hp).code k1 fun b hb => hm b (Nat.le_trans k2.size hb)) fun ex a2 w2 he => he.trans k2 k3
    | exit id => exact ⟨.exit id, s1, rfl, hp, hlv⟩
    | goto l => exact ⟨.goto l, s1, rfl, hp, hlv⟩
    | ret => exact ⟨.ret, s1, rfl, hp, hlv⟩
  | cond c x y ihx ihy =>
    intro s Φ hl h R may a w g hs hm
    simp only [wpT] at h
    split at h
    · rename_i t ht
      have he : evalO (s.emb R) c = some (.x (.bool t)) := evalT_ok ht
      have := (hs.evalO he).inv_x.1
      rcases brc_cases h with ⟨rfl, h'⟩ | ⟨rfl, h'⟩
      · exact wp_cond this ((ihx s Φ hl.1 h').code hs hm)
      · exact wp_cond this ((ihy s Φ hl.2 h').code hs hm)
    · exact h.elim
  | block id c ih =>
    intro s Φ hl h R may a w g hs hm
    simp only [wpT] at h
    simp only [LamOk] at hl
    split at h
    · rename_i ψ hψ
      rw [hψ] at hl
      exact (hl s Φ h) R may a w g hs hm
    · rename_i hψ
      rw [hψ] at hl
      refine wp_block (wp_mono ((ih s _ hl h).code hs hm) fun ex a1 w1 ⟨e, s1, hx, hp, hlv⟩ => ?_)
      subst hx
      cases e with
      | normal => exact ⟨.normal, s1, rfl, hp, hlv⟩
      | goto l => exact ⟨.goto l, s1, rfl, hp, hlv⟩
      | ret => exact ⟨.ret, s1, rfl, hp, hlv⟩
      | exit i =>
        simp only [AExit.toExit, Exit.inBlock]
        simp only at hp
        split at hp
        · rename_i hi
          rw [if_pos (Nat.eq_of_beq_eq_true hi)]
          exact ⟨.normal, s1, rfl, hp, hlv⟩
        · rename_i hi
          rw [if_neg (Nat.ne_of_beq_eq_false hi)]
          exact ⟨.exit i, s1, rfl, hp, hlv⟩
  | loop c ih => intro s Φ _ h; exact h.elim
  | scope c ih =>
    intro s Φ hl h R may a w g hs hm
    have h1 := (ih s _ hl.1 h).code hs hm
    intro b k cs
    obtain ⟨ex, a1, w1, ⟨e, s1, hx, hp, hlv⟩, harr⟩ := h1 b (.inScope c :: k) cs
    subst hx
    have fin : ∀ {ex a2 w2}, Ends P may R s w g Φ ex a2 w2 → Arrives P (lone (b.at a (.code c :: .inScope c :: k)) cs w) b k cs ex a2 w2 → ∃ e a' w', Ends P may R s w g Φ e a' w' ∧ Arrives P (lone (b.at a (.code (.scope c) :: k)) cs w) b k cs e a' w' :=
      fun h1 h2 => ⟨_, _, _, h1, .of_steps (.one step_scope) h2⟩
    cases e with
    | normal => exact fin ⟨.normal, s1, rfl, hp, hlv⟩ (Steps.trans harr (.one step_inScope))
    | exit id => exact fin ⟨.exit id, s1, rfl, hp, hlv⟩ (fun k' hk => harr k' (by simp [exitTo, hk]))
    | ret => exact fin ⟨.ret, s1, rfl, hp, hlv⟩ harr
    | goto l =>
      simp only at hp
      split at hp
      · rename_i rest hf
        obtain ⟨ψ, hψ, hp⟩ := need_some hp
        obtain ⟨g1, k1, k2, k3⟩ := hlv
        obtain ⟨ex, a2, w2, he, harr2⟩ := hl.2 l rest ψ hf hψ s1 Φ hp R may a1 w1 g1 k1 (fun b hb => hm b (Nat.le_trans k2.size hb)) b k cs
        exact fin (he.trans k2 k3) (.of_steps (harr _ (gotoIn_scope hf)) harr2)
      · rename_i hf
        exact fin ⟨.goto l, s1, rfl, hp, hlv⟩ (fun k' hk => harr k' (by simp [gotoIn, hf, hk]))
  | rangeFunc => intro s Φ _ h; exact h.elim
  | refuse => intro s Φ _ h; exact h.elim
end
end Go.AbsM
