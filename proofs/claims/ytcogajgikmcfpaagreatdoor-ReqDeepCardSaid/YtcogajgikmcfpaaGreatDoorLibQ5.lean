/-
  The abstract machine and the typed machine over it: deterministic evaluators of translated code over plain values, each proved sound. Part 5 of 5.
-/
import Derived.Test.YtcogajgikmcfpaaGreatDoorLibQ4
import Derived.Laws.IdiomStrings
import Derived.Orders
import Derived.Below
set_option linter.unusedVariables false
set_option linter.unusedSimpArgs false
set_option linter.unusedSectionVars false
/-! ## AbsFrame -/
namespace Go.AbsM
section
variable {P : Program} {w : World} {g : Gh} {may : Nat → Prop} {S : List Store} {t : Store}
theorem HRep.inv_tup {as : List AV} {v : Value} {S : List Store} (h : HRep P w g S (.tup as) v) : ∃ vs : List Value, v = .tuple vs.toArray ∧ vs.length = as.length ∧ ∀ (i : Nat) (c : AV) (u : Value), as[i]? = some c → vs[i]? = some u → HRep1 P w g S c u := h
theorem HRep.of_one {x : AV} {v : Value} {S : List Store} (h : HRep1 P w g S x v) (hx : ∀ l, x ≠ .tup l) : HRep P w g S x v := by
  cases x <;> first | exact h | exact absurd rfl (hx _)
theorem HRep1.of_tup {as : List AV} {v : Value} {S : List Store} (h : HRep1 P w g S (.tup as) v) : False := h
def Gh.push (g : Gh) : Gh := { M := g.M, B := fun i k => match i with | 0 => 0 | i + 1 => g.B i k, C := fun i k => match i with | 0 => 0 | i + 1 => g.C i k }
def Gh.pop (g : Gh) : Gh := { M := g.M, B := fun i k => g.B (i + 1) k, C := fun i k => g.C (i + 1) k }
theorem AV.shift_shift (c : AV) (i : Nat) : (c.shift i).shift 1 = c.shift (i + 1) := by cases c <;> rfl
theorem CRep.push {c : AV} {v : Value} (h : CRep P w g S c v) : CRep P w g.push (t :: S) (c.shift 1) v := by cases c <;> exact h
theorem CRep.pop {c : AV} {v : Value} (h : CRep P w g (t :: S) (c.shift 1) v) : CRep P w g.pop S c v := by cases c <;> exact h
theorem HRep1.push {c : AV} {v : Value} (h : HRep1 P w g S c v) (hc : ∀ l, c ≠ .agg l) : HRep1 P w g.push (t :: S) (c.shift 1) v := by cases c <;> first | exact h | exact absurd rfl (hc _)
theorem HRep1.pop {c : AV} {v : Value} (h : HRep1 P w g (t :: S) (c.shift 1) v) (hc : ∀ l, c ≠ .agg l) : HRep1 P w g.pop S c v := by cases c <;> first | exact h | exact absurd rfl (hc _)
theorem SInv.push (h : SInv P w g may S) : SInv P w g.push may ([] :: S) := by
  refine ⟨fun i k cs hg => ?_, fun i k e xs hg => ?_, fun i k e xs hg => ?_, fun i k o i' k' o' hg hg' hl hl' he => ?_, h.mlt⟩
  · cases i with
    | zero => cases hg
    | succ i =>
      obtain ⟨h1, h2, vs, t, h3, h4, h5⟩ := h.box i k cs hg
      refine ⟨h1, h2, vs, t, h3, h4, fun j c u hc hu => ⟨?_, (h5 j c u hc hu).2⟩⟩
      rw [← AV.shift_shift]
      exact (h5 j c u hc hu).1.push
  · cases i with
    | zero => cases hg
    | succ i => exact h.arr i k e xs hg
  · cases i with
    | zero => cases hg
    | succ i => exact h.fz i k e xs hg
  · cases i with
    | zero => cases hg
    | succ i =>
      cases i' with
      | zero => cases hg'
      | succ i' =>
        have := h.inj i k o i' k' o' hg hg' hl hl' he
        exact ⟨by omega, this.2⟩
theorem SInv.pop (h : SInv P w g may (t :: S)) : SInv P w g.pop may S := by
  refine ⟨fun i k cs hg => ?_, fun i k e xs hg => h.arr (i + 1) k e xs hg, fun i k e xs hg => h.fz (i + 1) k e xs hg, fun i k o i' k' o' hg hg' hl hl' he => ?_, h.mlt⟩
  · obtain ⟨h1, h2, vs, t, h3, h4, h5⟩ := h.box (i + 1) k cs hg
    refine ⟨h1, h2, vs, t, h3, h4, fun j c u hc hu => ⟨?_, (h5 j c u hc hu).2⟩⟩
    have := (h5 j c u hc hu).1
    rw [← AV.shift_shift] at this
    exact this.pop
  · have := h.inj (i + 1) k o (i' + 1) k' o' hg hg' hl hl' he
    exact ⟨by omega, this.2⟩
theorem Kp.pop {S' : List Store} {t' : Store} {g' : Gh} (h : Kp 1 ([] :: S) g.push (t' :: S') g') : Kp 0 S g S' g'.pop :=
  ⟨fun i k cs _ hg => h.box (i + 1) k cs (by omega) hg, fun i k fz e xs _ hg => h.arr (i + 1) k fz e xs (by omega) hg⟩
def SlAt (P : Program) (w : World) (M : Nat → Nat → Prop) (e : TypeId) (xs : List AV) (v : Value) (b : Nat) : Prop :=
  0 < P.cellsOf e ∧ ∃ (cur us : List Value) (cap c : Nat), v = .slice (some ⟨b, 0, none⟩) xs.length c ∧ xs.length ≤ c ∧ c ≤ maxLen ∧ c * P.cellsOf e ≤ cur.length ∧
    w.heap[b]? = some (.cells cur.toArray e (0, 0)) ∧ cur.length = cap * P.cellsOf e ∧ cap ≤ maxLen ∧ xs.length ≤ cap ∧ RepL P w M e xs us ∧ cur.take (xs.length * P.cellsOf e) = flat us
def BoxAt (P : Program) (w : World) (M : Nat → Nat → Prop) (xs : List AV) (v : Value) (b : Nat) : Prop := ∃ cs, xs = [.agg cs] ∧
  v = .pointer (some ⟨b, 0, none⟩) ∧ cs.all AV.isVal = true ∧ ∃ (vs : List Value) (t : TypeId), w.heap[b]? = some (.cells vs.toArray t (0, 0)) ∧ vs.length = cs.length ∧
    ∀ (j : Nat) (c : AV) (u : Value), cs[j]? = some c → vs[j]? = some u → Rep P w M c u ∧ u.oneCell' = true
def OwnAt (P : Program) (may : Nat → Prop) (w : World) (g : Gh) (S : List Store) (e : TypeId) (xs : List AV) (v : Value) (b : Nat) : Prop :=
  may b ∧ (∀ o, ¬ g.M b o) ∧ (∀ i k o, getOb S i k = some o → o.loose = true → g.B i k ≠ b) ∧ ((Nat.beq e objE = false ∧ SlAt P w g.M e xs v b) ∨ (Nat.beq e objE = true ∧ BoxAt P w g.M xs v b))
def ORep (P : Program) (may : Nat → Prop) (w : World) (g : Gh) (S : List Store) (a : AV) (v : Value) (b : Nat) : Prop :=
  match a with
  | .own e xs => OwnAt P may w g S e xs v b
  | a => HRep1 P w g S a v
def OReps (P : Program) (may : Nat → Prop) (w : World) (g : Gh) (S : List Store) (as : List AV) (vs : List Value) : Prop :=
  vs.length = as.length ∧ ∃ bl : Nat → Nat, (∀ (i : Nat) (c : AV) (u : Value), as[i]? = some c → vs[i]? = some u → ORep P may w g S c u (bl i)) ∧
    ∀ (i j : Nat) (e : TypeId) (xs : List AV) (e' : TypeId) (xs' : List AV), as[i]? = some (.own e xs) → as[j]? = some (.own e' xs') → bl i = bl j → i = j
def ResRep (P : Program) (may : Nat → Prop) (w : World) (g : Gh) (S : List Store) (r : AV) (v : Value) : Prop :=
  match r with
  | .tup as => ∃ vs : List Value, v = .tuple vs.toArray ∧ OReps P may w g S as vs
  | r => ∃ b, ORep P may w g S r v b
def CallC (P : Program) (f : FuncId) (args : List AV) (S S' : List Store) (r : AV) : Prop :=
  ∀ (may : Nat → Prop) (w : World) (g : Gh) (vs : List Value), SInv P w g may S → (∀ b, w.heap.size ≤ b → may b) → vs.length = args.length →
    (∀ (i : Nat) (x : AV) (v : Value), args[i]? = some x → vs[i]? = some v → HRep P w g.push ([] :: S) x v) →
    Calls P f vs.toArray w fun e w' => ∃ v g', e = .returned v ∧ Fr may w g.M w' g'.M ∧ SInv P w' g' may S' ∧ Kp 0 S g S' g' ∧ ResRep P may w' g' S' r v
theorem loadAt_var {t : TypeId} {v u : Value} (h : (Instr.loadAt t v).run P w = .ok u w) : ∃ A, v = .pointer (some A) ∧ (loadVar t A).run P w = .ok u w := by
  cases v with
  | pointer A =>
    cases A with
    | none => simp [Instr.loadAt, Instr.sureAddr, stuck] at h
    | some A => exact ⟨A, rfl, by simpa [Instr.loadAt, Instr.sureAddr] using h⟩
  | _ => simp [Instr.loadAt, Instr.sureAddr, stuck] at h
section
variable {s s' : St} {a : Act}
def HReps (P : Program) (w : World) (g : Gh) (S : List Store) (as : List AV) (vs : List Value) : Prop :=
  vs.length = as.length ∧ ∀ (i : Nat) (c : AV) (u : Value), as[i]? = some c → vs[i]? = some u → HRep P w g S c u
theorem HReps.nil {S : List Store} : HReps P w g S [] [] := ⟨rfl, fun i c u h => by simp at h⟩
theorem HReps.cons {S : List Store} {x : AV} {as : List AV} {v : Value} {vs : List Value} (h : HRep P w g S x v) (k : HReps P w g S as vs) : HReps P w g S (x :: as) (v :: vs) := by
  refine ⟨by simp [k.1], fun i c u hc hu => ?_⟩
  cases i with
  | zero => simp at hc hu; subst hc; subst hu; exact h
  | succ i => simp at hc hu; exact k.2 i c u hc hu
theorem HReps.head {S : List Store} {x : AV} {as : List AV} {v : Value} {vs : List Value} (h : HReps P w g S (x :: as) (v :: vs)) : HRep P w g S x v := h.2 0 x v rfl rfl
theorem HReps.tail {S : List Store} {x : AV} {as : List AV} {v : Value} {vs : List Value} (h : HReps P w g S (x :: as) (v :: vs)) : HReps P w g S as vs :=
  ⟨by have := h.1; simpa using this, fun i c u hc hu => h.2 (i + 1) c u (by simpa using hc) (by simpa using hu)⟩
theorem HReps.split {S : List Store} {x : AV} {as : List AV} {vs : List Value} (h : HReps P w g S (x :: as) vs) : ∃ v us, vs = v :: us ∧ HRep P w g S x v ∧ HReps P w g S as us := by
  cases vs with
  | nil => have := h.1; simp at this
  | cons v us => exact ⟨v, us, rfl, h.head, h.tail⟩
theorem HReps.split0 {S : List Store} {vs : List Value} (h : HReps P w g S [] vs) : vs = [] := by
  have := h.1; simpa using this
theorem resultAll_sound (hs : Sim P may s a w g) {rs : List ResultVar} {l : List AV} {f : ResultVar → Sem Value} (hf : ∀ t, f (.tmp t) = pure (a.tmps.getD t undef)) (hf' : ∀ c t, f (.cell c t) = do loadVar t (← asAddr (a.tmps.getD c undef))) (h : resultAll P s rs = some l) :
    ∃ vs : List Value, (rs.mapM f).run P w = .ok vs w ∧ HReps P w g s.stores l vs := by
  induction rs generalizing l with
  | nil => simp [resultAll] at h; subst h; exact ⟨[], rfl, .nil⟩
  | cons r rs ih =>
    simp only [resultAll] at h
    split at h
    · rename_i x k hx hk
      simp only [Option.some.injEq] at h; subst h
      obtain ⟨vs, hrun, hv⟩ := ih hk
      cases r with
      | tmp t =>
        simp only [resultOne, Option.some.injEq] at hx; subst hx
        exact ⟨_ :: vs, by simp only [List.mapM_cons, hf, Sem.run_bind, Sem.run_pure, Result.andThen_ok, hrun], .cons (hs.get t) hv⟩
      | cell c t =>
        simp only [resultOne] at hx
        obtain ⟨u, h1, h2⟩ := loadA_sound hs.inv (hs.get c) hx
        obtain ⟨A, hA, h1⟩ := loadAt_var h1
        exact ⟨u :: vs, by simp only [List.mapM_cons, hf', hA, asAddr, Sem.run_bind, Sem.run_pure, Result.andThen_ok, h1, hrun], .cons h2 hv⟩
    · cases h
theorem HReps.settles {s' : St} {g' : Gh} (h : Settles P may s a w g s' g') {as : List AV} {vs : List Value} (k : HReps P w g s.stores as vs) : HReps P w g' s'.stores as vs :=
  ⟨k.1, fun i c u hc hu => h.hrep (S := []) (k.2 i c u hc hu)⟩
theorem settleOne_sound (hs : Sim P may s a w g) {x y : AV} {v : Value} (hv : HRep P w g s.stores x v) (h : settleOne s x = some (s', y)) : ∃ g', Settles P may s a w g s' g' ∧ HRep P w g' s'.stores y v := by
  unfold settleOne at h
  split at h
  · obtain ⟨g', h1, h2⟩ := resolve_sound hs hv h
    exact ⟨g', h1, HRep.of_rep h2⟩
  · split at h
    · simp only [Option.some.injEq, Prod.mk.injEq] at h
      obtain ⟨rfl, rfl⟩ := h
      exact ⟨g, .refl hs, hv⟩
    · have hv : CRep P w g s.stores (.arr 0 _ _ _ _ _) v := hv
      obtain ⟨g', h1, h2, _⟩ := resolve1_sound hs hv h
      exact ⟨g', h1, HRep.of_rep h2⟩
  · simp only [Option.some.injEq, Prod.mk.injEq] at h
    obtain ⟨rfl, rfl⟩ := h
    exact ⟨g, .refl hs, hv⟩
theorem settle_sound (hs : Sim P may s a w g) {xs ys : List AV} {vs : List Value} (hv : HReps P w g s.stores xs vs) (h : settle s xs = some (s', ys)) : ∃ g', Settles P may s a w g s' g' ∧ HReps P w g' s'.stores ys vs := by
  induction xs generalizing s g ys vs with
  | nil =>
    simp only [settle, Option.some.injEq, Prod.mk.injEq] at h
    obtain ⟨rfl, rfl⟩ := h
    exact ⟨g, .refl hs, hv⟩
  | cons x r ih =>
    simp only [settle] at h
    split at h
    · rename_i s1 b hb
      split at h
      · rename_i s2 l hl
        simp only [Option.some.injEq, Prod.mk.injEq] at h
        obtain ⟨rfl, rfl⟩ := h
        obtain ⟨v, us, rfl, hx, hr⟩ := hv.split
        obtain ⟨g1, h1, hb'⟩ := settleOne_sound hs hx hb
        obtain ⟨g2, h2, hl'⟩ := ih h1.1 (hr.settles h1) hl
        exact ⟨g2, h1.trans h2, .cons (h2.hrep (S := []) hb') hl'⟩
      · cases h
    · cases h
theorem wholeA_spec {k : Nat} {e : TypeId} {lo n tot : Nat} (h : wholeA s k e lo n tot = true) : ∃ xs, getOb s.stores 0 k = some (.arr false e xs) ∧ xs.length = tot ∧ lo = 0 ∧ n = tot := by
  unfold wholeA at h
  split at h
  · rename_i fz e' xs hg
    simp only [Bool.and_eq_true, Bool.not_eq_true', beq_iff_eq] at h
    obtain ⟨⟨⟨⟨rfl, h1⟩, rfl⟩, h2⟩, h3⟩ := h
    exact ⟨xs, hg, h1, h2, h3⟩
  · cases h
theorem outOne_sound {t : Store} {S : List Store} (hst : s.stores = t :: S) (hi : SInv P w g may s.stores) {used us' : List Nat} {x y : AV} {v : Value} (hv : HRep P w g s.stores x v) (h : outOne s used x = some (us', y)) :
    (∃ k e xs, y = .own e xs ∧ us' = k :: used ∧ k ∉ used ∧ (∃ o, getOb s.stores 0 k = some o ∧ o.loose = true) ∧ OwnAt P may w g.pop S e xs v (g.B 0 k)) ∨
    ((∀ e xs, y ≠ .own e xs) ∧ us' = used ∧ HRep1 P w g.pop S y v) := by
  unfold outOne at h
  split at h
  · rename_i k e lo n tot
    split at h
    · rename_i hc
      split at h
      · rename_i fz e' xs hg
        simp only [Option.some.injEq, Prod.mk.injEq] at h
        obtain ⟨rfl, rfl⟩ := h
        have hbx := hc.2
        obtain ⟨ys, hg', hlen, rfl, rfl⟩ := wholeA_spec hc.1.1
        rw [hg] at hg'
        simp only [Option.some.injEq, Ob.arr.injEq] at hg'
        obtain ⟨rfl, rfl, rfl⟩ := hg'
        refine .inl ⟨k, _, _, rfl, rfl, by simpa using hc.1.2, ⟨_, hg, rfl⟩, ?_⟩
        obtain ⟨fz, ys, hg2, ht, hq⟩ := hv.inv_arr
        rw [hg] at hg2
        simp only [Option.some.injEq, Ob.arr.injEq] at hg2
        obtain ⟨rfl, _, rfl⟩ := hg2
        obtain ⟨hln, A, c, rfl, hnc, hcm, hA, hC⟩ := (hq.1 hlen)
        obtain ⟨h1, h2, he, cur, us, cap, h3, h4, h5, h6, h7, h8, h9⟩ := hi.arr 0 k _ _ hg
        refine ⟨h1, h2, fun i k' o ho hl heq => ?_, .inl ⟨hbx, he, cur, us, cap, c, ?_, by omega, hcm, ?_, h3, by rw [h4, h5], h6, h7, h8, h9⟩⟩
        · have hh : getOb s.stores (i + 1) k' = some o := by rw [hst]; exact ho
          have := hi.inj (i + 1) k' o 0 k _ hh hg hl rfl heq
          omega
        · rw [hA (.inl rfl), ← hlen]; simp
        · rw [h4]; simpa using hC rfl
      · cases h
    · cases h
  · rename_i k
    split at h
    · rename_i cs hg
      split at h
      · rename_i hc
        simp only [Option.some.injEq, Prod.mk.injEq] at h
        obtain ⟨rfl, rfl⟩ := h
        refine .inl ⟨k, _, _, rfl, rfl, by simpa using hc.2, ⟨_, hg, rfl⟩, ?_⟩
        have hv' : CRep P w g s.stores (.ref 0 k 0) v := hv
        obtain ⟨_, rfl⟩ := hv'
        obtain ⟨h1, h2, vs, t0, h3, h4, h5⟩ := hi.box 0 k cs hg
        refine ⟨h1, h2, fun i k' o ho hl heq => ?_, .inr ⟨rfl, cs, rfl, rfl, hc.1, vs, t0, h3, h4, fun j c u hcj hu => ?_⟩⟩
        · have hh : getOb s.stores (i + 1) k' = some o := by rw [hst]; exact ho
          have := hi.inj (i + 1) k' o 0 k _ hh hg hl rfl heq
          omega
        · have hval := List.all_eq_true.1 hc.1 c (List.mem_of_getElem? hcj)
          obtain ⟨q1, q2⟩ := h5 j c u hcj hu
          rw [AV.shift_zero] at q1
          exact ⟨q1.rep hval, q2⟩
      · cases h
    · cases h
  · simp only [Option.some.injEq, Prod.mk.injEq] at h
    obtain ⟨rfl, rfl⟩ := h
    rw [hst] at hv
    exact .inr ⟨fun e xs => by simp, rfl, HRep1.of_cell (CRep.pop hv)⟩
  · simp only [Option.some.injEq, Prod.mk.injEq] at h
    obtain ⟨rfl, rfl⟩ := h
    rw [hst] at hv
    exact .inr ⟨fun e xs => by simp, rfl, HRep1.of_cell (CRep.pop hv)⟩
  · simp only [Option.some.injEq, Prod.mk.injEq] at h
    obtain ⟨rfl, rfl⟩ := h
    exact .inr ⟨fun e xs => by simp, rfl, hv⟩
  · simp only [Option.some.injEq, Prod.mk.injEq] at h
    obtain ⟨rfl, rfl⟩ := h
    exact .inr ⟨fun e xs => by simp, rfl, hv⟩
  · simp only [Option.some.injEq, Prod.mk.injEq] at h
    obtain ⟨rfl, rfl⟩ := h
    exact .inr ⟨fun e xs => by simp, rfl, hv⟩
  · simp only [Option.some.injEq, Prod.mk.injEq] at h
    obtain ⟨rfl, rfl⟩ := h
    exact .inr ⟨fun e xs => by simp, rfl, hv⟩
  · simp only [Option.some.injEq, Prod.mk.injEq] at h
    obtain ⟨rfl, rfl⟩ := h
    exact .inr ⟨fun e xs => by simp, rfl, hv⟩
  · rename_i cs
    split at h
    · rename_i hall
      simp only [Option.some.injEq, Prod.mk.injEq] at h
      obtain ⟨rfl, rfl⟩ := h
      refine .inr ⟨fun e xs => by simp, rfl, ?_⟩
      obtain ⟨vs, rfl, hl, hr⟩ := hv.inv_agg
      refine ⟨vs, rfl, hl, fun i c u hc hu => ⟨?_, (hr i c u hc hu).2⟩⟩
      have hval := List.all_eq_true.1 hall c (List.mem_of_getElem? hc)
      exact CRep.of_rep (g := g.pop) ((hr i c u hc hu).1.rep hval) hval
    · cases h
  · cases h
theorem outAll_sound {t : Store} {S : List Store} (hst : s.stores = t :: S) (hi : SInv P w g may s.stores) {used : List Nat} {xs ys : List AV} {vs : List Value} (hv : HReps P w g s.stores xs vs) (h : outAll s used xs = some ys) :
    vs.length = ys.length ∧ ∃ ks : Nat → Nat, (∀ (i : Nat) (c : AV) (u : Value), ys[i]? = some c → vs[i]? = some u → ORep P may w g.pop S c u (g.B 0 (ks i))) ∧
      (∀ (i : Nat) (e : TypeId) (zs : List AV), ys[i]? = some (.own e zs) → ks i ∉ used ∧ ∃ o, getOb s.stores 0 (ks i) = some o ∧ o.loose = true) ∧
      ∀ (i j : Nat) (e : TypeId) (zs : List AV) (e' : TypeId) (zs' : List AV), ys[i]? = some (.own e zs) → ys[j]? = some (.own e' zs') → ks i = ks j → i = j := by
  induction xs generalizing used ys vs with
  | nil =>
    simp only [outAll, Option.some.injEq] at h; subst h
    have := hv.split0; subst this
    exact ⟨rfl, fun _ => 0, fun i c u hc => by simp at hc, fun i e zs hc => by simp at hc, fun i j e zs e' zs' hc => by simp at hc⟩
  | cons x r ih =>
    simp only [outAll] at h
    split at h
    · rename_i u1 y hy
      split at h
      · rename_i l hl
        simp only [Option.some.injEq] at h; subst h
        obtain ⟨v, us, rfl, hx, hr⟩ := hv.split
        obtain ⟨hlen, ks, h1, h2, h3⟩ := ih hr hl
        rcases outOne_sound hst hi hx hy with ⟨k, e, zs, rfl, rfl, hk, hg, ho⟩ | ⟨hno, rfl, ho⟩
        · refine ⟨by simp [hlen], fun i => match i with | 0 => k | i + 1 => ks i, fun i c u hc hu => ?_, fun i e' zs' hc => ?_, fun i j e1 zs1 e2 zs2 hi' hj' he => ?_⟩
          · cases i with
            | zero => simp at hc hu; subst hc; subst hu; exact ho
            | succ i => simp at hc hu; exact h1 i c u hc hu
          · cases i with
            | zero => exact ⟨hk, hg⟩
            | succ i =>
              simp at hc
              obtain ⟨q1, q2⟩ := h2 i _ _ hc
              exact ⟨fun hm => q1 (List.mem_cons_of_mem _ hm), q2⟩
          · cases i with
            | zero =>
              cases j with
              | zero => rfl
              | succ j =>
                simp at hj'
                have := (h2 j _ _ hj').1
                simp only at he
                rw [← he] at this
                exact absurd List.mem_cons_self this
            | succ i =>
              cases j with
              | zero =>
                simp at hi'
                have := (h2 i _ _ hi').1
                simp only at he
                rw [he] at this
                exact absurd List.mem_cons_self this
              | succ j =>
                simp at hi' hj'
                rw [h3 i j _ _ _ _ hi' hj' he]
        · refine ⟨by simp [hlen], fun i => match i with | 0 => 0 | i + 1 => ks i, fun i c u hc hu => ?_, fun i e' zs' hc => ?_, fun i j e1 zs1 e2 zs2 hi' hj' he => ?_⟩
          · cases i with
            | zero =>
              simp at hc hu; subst hc; subst hu
              unfold ORep
              split
              · exact absurd rfl (hno _ _)
              · exact ho
            | succ i => simp at hc hu; exact h1 i c u hc hu
          · cases i with
            | zero => simp at hc; exact absurd hc (hno _ _)
            | succ i => simp at hc; exact h2 i _ _ hc
          · cases i with
            | zero => simp at hi'; exact absurd hi' (hno _ _)
            | succ i =>
              cases j with
              | zero => simp at hj'; exact absurd hj' (hno _ _)
              | succ j =>
                simp at hi' hj'
                rw [h3 i j _ _ _ _ hi' hj' he]
      · cases h
    · cases h
end
end
end Go.AbsM

/-! ## AbsBind -/
namespace Go.AbsM
section
variable {P : Program} {w : World} {g : Gh} {may : Nat → Prop} {s s' : St} {a : Act}
def Lone (g : Gh) (S : List Store) (b : Nat) : Prop := (∀ o, ¬ g.M b o) ∧ ∀ i k o, getOb S i k = some o → o.loose = true → g.B i k ≠ b
theorem Lone.create {S : List Store} (hne : S ≠ []) {b b0 c0 k : Nat} {o : Ob} (h : Lone g S b) (hb : b ≠ b0) : Lone (g.new k b0 c0) (createS S k o) b := by
  refine ⟨h.1, fun i j p hp hl he => ?_⟩
  rw [getOb_createS hne] at hp
  by_cases h0 : i = 0
  · subst h0
    rw [if_pos rfl] at hp
    by_cases hj : j = k
    · subst hj
      simp [Gh.new] at he
      exact hb he.symm
    · rw [if_neg hj] at hp
      obtain ⟨q, hq, rfl⟩ := Option.map_eq_some_iff.1 hp
      have hl' : q.loose = true := by cases q <;> exact hl
      refine h.2 0 j q hq hl' ?_
      simpa [Gh.new, hj] using he
  · rw [if_neg h0] at hp
    refine h.2 i j p hp hl ?_
    simpa [Gh.new, h0] using he
theorem own_create (hs : Sim P may s a w g) {e : TypeId} {xs : List AV} {v : Value} {b : Nat} (ho : OwnAt P may w g s.stores e xs v b) (k : Nat) (hbx : Nat.beq e objE = false) :
    ∃ c0, Sim P may (s.create k (.arr false e xs)) a w (g.new k b c0) ∧ HRep1 P w (g.new k b c0) (createS s.stores k (.arr false e xs)) (.arr 0 k e 0 xs.length xs.length) v := by
  obtain ⟨h1, h2, h3, h4⟩ := ho
  rcases h4 with ⟨_, h4⟩ | ⟨h4, _⟩
  case inr => rw [hbx] at h4; cases h4
  obtain ⟨he, cur, us, cap, c, rfl, hxc, hcm, hcc, hh, hcur, hcap, hxcap, hr, ht⟩ := h4
  refine ⟨cap * P.cellsOf e, hs.createG (Ext.refl w) h1 h2 h3 ⟨rfl, he, cur, us, cap, hh, hcur, rfl, hcap, hxcap, hr, ht⟩, false, xs, ?_, Nat.le_refl _, fun _ => ⟨by omega, _, c, rfl, hxc, hcm, fun _ => by simp [Gh.new], fun _ => ?_⟩, rfl⟩
  · rw [getOb_createS hs.ne]; simp
  · simp [Gh.new]; omega
theorem box_create (hs : Sim P may s a w g) {e : TypeId} {xs : List AV} {v : Value} {b : Nat} (ho : OwnAt P may w g s.stores e xs v b) (k : Nat) (hbx : Nat.beq e objE = true) :
    ∃ cs c0, xs = [.agg cs] ∧ Sim P may (s.create k (.box cs)) a w (g.new k b c0) ∧ HRep1 P w (g.new k b c0) (createS s.stores k (.box cs)) (.ref 0 k 0) v := by
  obtain ⟨h1, h2, h3, h4⟩ := ho
  rcases h4 with ⟨h4, _⟩ | ⟨_, h4⟩
  case inl => rw [hbx] at h4; cases h4
  obtain ⟨cs, rfl, rfl, hval, vs, t, hh, hl, hr⟩ := h4
  refine ⟨cs, 0, rfl, hs.createG (Ext.refl w) h1 h2 h3 ⟨vs, t, hh, hl, fun j c u hc hu => ⟨CRep.of_rep (g := g.new k b 0) (hr j c u hc hu).1 (List.all_eq_true.1 hval c (List.mem_of_getElem? hc)), (hr j c u hc hu).2⟩⟩, ⟨cs, ?_⟩, ?_⟩
  · rw [getOb_createS hs.ne]; simp
  · simp [Gh.new]
theorem HRep1.kill {S : List Store} {x : AV} {v : Value} (h : HRep1 P w g S x v) (k : Nat) : HRep1 P w g S (x.kill1 k) v := by
  have cell : ∀ {c : AV} {u : Value}, CRep P w g S c u → CRep P w g S (c.killCell k) u := by
    intro c u h
    cases c with
    | arr i j e lo n tot => cases i with
      | zero => simp only [AV.killCell]; split
                · trivial
                · exact h
      | succ i => exact h
    | ref i j off => cases i with
      | zero => simp only [AV.killCell]; split
                · trivial
                · exact h
      | succ i => exact h
    | ear i j e tot m off => cases i with
      | zero => simp only [AV.killCell]; split
                · trivial
                · exact h
      | succ i => exact h
    | _ => exact h
  cases x with
  | agg cs =>
    obtain ⟨vs, hv, hl, hr⟩ := h
    refine ⟨vs, hv, by simpa using hl, fun i c u hc hu => ?_⟩
    simp only [List.getElem?_map, Option.map_eq_some_iff] at hc
    obtain ⟨c', hc, rfl⟩ := hc
    exact ⟨cell (hr i c' u hc hu).1, (hr i c' u hc hu).2⟩
  | _ =>
    unfold HRep1 at h
    exact HRep1.of_cell (cell h)
theorem HRep1.kills {S : List Store} {v : Value} (n : Nat) : ∀ (k : Nat) {x : AV}, HRep1 P w g S x v → HRep1 P w g S (x.kills k n) v := by
  induction n with
  | zero => intro k x h; exact h
  | succ n ih => intro k x h; exact ih (k + 1) (h.kill k)
theorem AV.killCell_comm (k j : Nat) (x : AV) : (x.killCell k).killCell j = (x.killCell j).killCell k := by
  cases x with
  | arr i m e lo n tot => cases i with
    | zero => by_cases h1 : m = k <;> by_cases h2 : m = j <;> simp_all [AV.killCell]
    | succ i => rfl
  | ref i m off => cases i with
    | zero => by_cases h1 : m = k <;> by_cases h2 : m = j <;> simp_all [AV.killCell]
    | succ i => rfl
  | ear i m e tot q off => cases i with
    | zero => by_cases h1 : m = k <;> by_cases h2 : m = j <;> simp_all [AV.killCell]
    | succ i => rfl
  | _ => rfl
theorem AV.kill1_comm (k j : Nat) (x : AV) : (x.kill1 k).kill1 j = (x.kill1 j).kill1 k := by
  cases x with
  | agg cs => simp only [AV.kill1, List.map_map]; congr 2; funext c; exact AV.killCell_comm k j c
  | arr i m e lo n tot => cases i with
    | zero => by_cases h1 : m = k <;> by_cases h2 : m = j <;> simp_all [AV.kill1, AV.killCell]
    | succ i => rfl
  | ref i m off => cases i with
    | zero => by_cases h1 : m = k <;> by_cases h2 : m = j <;> simp_all [AV.kill1, AV.killCell]
    | succ i => rfl
  | ear i m e tot q off => cases i with
    | zero => by_cases h1 : m = k <;> by_cases h2 : m = j <;> simp_all [AV.kill1, AV.killCell]
    | succ i => rfl
  | _ => rfl
theorem AV.kills_kill1 (n : Nat) : ∀ (k j : Nat) (x : AV), (x.kill1 j).kills k n = (x.kills k n).kill1 j := by
  induction n with
  | zero => intro k j x; rfl
  | succ n ih => intro k j x; simp only [AV.kills]; rw [AV.kill1_comm, ih]
theorem kills_own (e : TypeId) (xs : List AV) (n : Nat) : ∀ k, (AV.own e xs).kills k n = .own e xs := by
  induction n with
  | zero => intro k; rfl
  | succ n ih => intro k; exact ih (k + 1)
theorem inOne_sound (hs : Sim P may s a w g) {x : AV} {v : Value} {b : Nat} (hx : ORep P may w g s.stores x v b) (k : Nat) (hk : k < 500000) :
    ∃ g', Sim P may (inOne s k x).1 a w g' ∧ g'.M = g.M ∧ Kp 1 s.stores g (inOne s k x).1.stores g' ∧ HRep1 P w g' (inOne s k x).1.stores (inOne s k x).2 v ∧
      (∀ (y : AV) (u : Value), HRep1 P w g s.stores y u → HRep1 P w g' (inOne s k x).1.stores (y.kill1 k) u) ∧ ∀ c, Lone g s.stores c → ((∃ e xs, x = .own e xs) → c ≠ b) → Lone g' (inOne s k x).1.stores c := by
  by_cases ho : ∃ e xs, x = .own e xs
  · obtain ⟨e, xs, rfl⟩ := ho
    cases hbx : Nat.beq e objE with
    | false =>
      have hin : inOne s k (.own e xs) = (s.create k (.arr false e xs), .arr 0 k e 0 xs.length xs.length) := by simp only [inOne, hbx]
      rw [hin]
      obtain ⟨c0, h1, h2⟩ := own_create hs hx k hbx
      exact ⟨_, h1, rfl, Kp.create hs.ne k hk _ b c0, h2, fun y u hy => hy.create (Ext.refl w) hs.inv.mlt hs.ne, fun c hc hne => hc.create hs.ne (hne ⟨e, xs, rfl⟩)⟩
    | true =>
      obtain ⟨cs, c0, rfl, h1, h2⟩ := box_create hs hx k hbx
      have hin : inOne s k (.own e [.agg cs]) = (s.create k (.box cs), .ref 0 k 0) := by simp only [inOne, hbx]
      rw [hin]
      exact ⟨_, h1, rfl, Kp.create hs.ne k hk _ b c0, h2, fun y u hy => hy.create (Ext.refl w) hs.inv.mlt hs.ne, fun c hc hne => hc.create hs.ne (hne ⟨e, _, rfl⟩)⟩
  · have h1 : inOne s k x = (s, x) := by cases x <;> first | rfl | exact absurd ⟨_, _, rfl⟩ ho
    rw [h1]
    refine ⟨g, hs, rfl, Kp.refl _ _ _, ?_, fun y u hy => hy.kill k, fun c hc _ => hc⟩
    cases x <;> first | exact hx | exact absurd ⟨_, _, rfl⟩ ho
theorem OwnAt.lone {S : List Store} {e : TypeId} {xs : List AV} {v : Value} {b : Nat} (h : OwnAt P may w g S e xs v b) : Lone g S b := ⟨h.2.1, h.2.2.1⟩
theorem OwnAt.move {S S' : List Store} {g' : Gh} {e : TypeId} {xs : List AV} {v : Value} {b : Nat} (h : OwnAt P may w g S e xs v b) (hM : g'.M = g.M) (hl : Lone g' S' b) : OwnAt P may w g' S' e xs v b := by
  obtain ⟨h1, h2, h3, h4⟩ := h
  exact ⟨h1, hl.1, hl.2, by rw [hM]; exact h4⟩
theorem inAll_sound (hs : Sim P may s a w g) {as : List AV} {vs : List Value} {bl : Nat → Nat} (hl : vs.length = as.length) (hr : ∀ (i : Nat) (c : AV) (u : Value), as[i]? = some c → vs[i]? = some u → ORep P may w g s.stores c u (bl i))
    (hd : ∀ (i j : Nat) (e : TypeId) (xs : List AV) (e' : TypeId) (xs' : List AV), as[i]? = some (.own e xs) → as[j]? = some (.own e' xs') → bl i = bl j → i = j) (k : Nat) (hk : k + as.length ≤ 500000) :
    ∃ g', Sim P may (inAll s k as).1 a w g' ∧ g'.M = g.M ∧ Kp 1 s.stores g (inAll s k as).1.stores g' ∧ vs.length = (inAll s k as).2.length ∧
      (∀ (i : Nat) (c : AV) (u : Value), (inAll s k as).2[i]? = some c → vs[i]? = some u → HRep1 P w g' (inAll s k as).1.stores c u) ∧
      (∀ (y : AV) (u : Value), HRep1 P w g s.stores y u → HRep1 P w g' (inAll s k as).1.stores (y.kills k as.length) u) ∧
      ∀ c, Lone g s.stores c → (∀ i e xs, as[i]? = some (.own e xs) → c ≠ bl i) → Lone g' (inAll s k as).1.stores c := by
  induction as generalizing k vs bl with
  | nil => exact ⟨g, hs, rfl, Kp.refl _ _ _, hl, fun i c u hc => by simp [inAll] at hc, fun y u hy => hy, fun c hc _ => hc⟩
  | cons x r ih =>
    cases vs with
    | nil => simp at hl
    | cons v us =>
      obtain ⟨g1, h1, hM1, hK1, hl1, hr1, ht1, hlo1⟩ := ih (vs := us) (bl := fun i => bl (i + 1)) (by simpa using hl) (fun i c u hc hu => hr (i + 1) c u (by simpa using hc) (by simpa using hu))
        (fun i j e xs e' xs' hi hj he => by have := hd (i + 1) (j + 1) e xs e' xs' (by simpa using hi) (by simpa using hj) he; omega) (k + 1) (by rw [List.length_cons] at hk; omega)
      have hx := hr 0 x v rfl rfl
      have hx1 : ORep P may w g1 (inAll s (k + 1) r).1.stores (x.kills (k + 1) r.length) v (bl 0) := by
        by_cases ho : ∃ e xs, x = .own e xs
        · obtain ⟨e, xs, rfl⟩ := ho
          rw [kills_own]
          refine OwnAt.move hx hM1 (hlo1 _ (OwnAt.lone hx) fun i e' xs' hi he => ?_)
          have := hd 0 (i + 1) e xs e' xs' rfl (by simpa using hi) he
          omega
        · have hx' : HRep1 P w g s.stores x v := by cases x <;> first | exact hx | exact absurd ⟨_, _, rfl⟩ ho
          have := ht1 x v hx'
          unfold ORep
          split
          · rename_i e; rw [e] at this; exact this.elim
          · exact this
      obtain ⟨g2, h2, hM2, hK2, hr2, ht2, hlo2⟩ := inOne_sound h1 hx1 k (by rw [List.length_cons] at hk; omega)
      refine ⟨g2, h2, hM2.trans hM1, hK1.trans hK2, by simp [inAll, hl1], fun i c u hc hu => ?_, fun y u hy => ?_, fun c hc hne => ?_⟩
      · simp only [inAll] at hc
        cases i with
        | zero => simp at hc hu; subst hc; subst hu; exact hr2
        | succ i =>
          simp only [List.getElem?_cons_succ, List.getElem?_map, Option.map_eq_some_iff] at hc hu
          obtain ⟨c', hc, rfl⟩ := hc
          exact ht2 c' u (hr1 i c' u hc hu)
      · have := ht2 _ u (ht1 y u hy)
        rw [← AV.kills_kill1] at this
        exact this
      · refine hlo2 c (hlo1 c hc fun i e xs hi => hne (i + 1) e xs (by simpa using hi)) fun ⟨e, xs, he⟩ => ?_
        by_cases ho : ∃ e xs, x = .own e xs
        · obtain ⟨e', xs', rfl⟩ := ho
          exact hne 0 e' xs' rfl
        · exfalso
          rw [he] at hx1
          have hx' : HRep1 P w g s.stores x v := by cases x <;> first | exact hx | exact absurd ⟨_, _, rfl⟩ ho
          have := ht1 x v hx'
          rw [he] at this
          exact this.elim
theorem bindA_sound (hs : Sim P may s a w g) {r : AV} {v : Value} (hr : ResRep P may w g s.stores r v) (d : Option Nat) : Leaves P may s w g (bindA s d r) (a.put d v) w := by
  cases d with
  | none => exact .same hs rfl
  | some k =>
    by_cases ht : ∃ as, r = .tup as
    · obtain ⟨as, rfl⟩ := ht
      obtain ⟨vs, rfl, hl, bl, h1, h2⟩ := hr
      by_cases hk : home k 0 + as.length ≤ 500000
      case neg =>
        have hb : bindA s (some k) (.tup as) = s.put (some k) .dead := by simp only [bindA, if_neg hk]
        rw [hb]
        exact ⟨g, hs.put (x := .dead) trivial (some k), Fr.refl _ _ _, by rw [put_stores]; exact Kp.refl _ _ _⟩
      have hb : bindA s (some k) (.tup as) = (inAll s (home k 0) as).1.put (some k) (.tup (inAll s (home k 0) as).2) := by simp only [bindA, if_pos hk]
      rw [hb]
      obtain ⟨g', q1, q2, q3, q4, q5, _⟩ := inAll_sound hs hl h1 h2 (home k 0) hk
      refine ⟨g', q1.put (x := .tup (inAll s (home k 0) as).2) ⟨vs, rfl, q4, q5⟩ (some k), ?_, q3⟩
      rw [q2]; exact Fr.refl _ _ _
    · obtain ⟨b, ho⟩ : ∃ b, ORep P may w g s.stores r v b := by cases r <;> first | exact hr | exact absurd ⟨_, rfl⟩ ht
      by_cases hk : k < 500000
      case neg =>
        have hb : bindA s (some k) r = s.put (some k) .dead := by cases r <;> first | exact absurd ⟨_, rfl⟩ ht | (simp only [bindA, if_neg hk])
        rw [hb]
        exact ⟨g, hs.put (x := .dead) trivial (some k), Fr.refl _ _ _, by rw [put_stores]; exact Kp.refl _ _ _⟩
      obtain ⟨g', q1, q2, q3, q4, _⟩ := inOne_sound hs ho k hk
      have hb : bindA s (some k) r = (inOne s k r).1.put (some k) (inOne s k r).2 := by cases r <;> first | exact absurd ⟨_, rfl⟩ ht | (simp only [bindA, if_pos hk])
      rw [hb]
      refine ⟨g', q1.put (HRep.of_one q4 fun l e => ?_) (some k), ?_, ?_⟩
      · rw [e] at q4; exact q4.elim
      · rw [q2]; exact Fr.refl _ _ _
      · rw [put_stores]; exact q3
end
end Go.AbsM

/-! ## AbsOps9 -/
namespace Go.AbsM
section
variable {P : Program} {w w' : World} {g : Gh} {may : Nat → Prop} {s : St} {a : Act}
theorem SInv.mark {S : List Store} (hi : SInv P w g may S) {B0 : Nat} (hsize : w'.heap.size = w.heap.size) (hsame : ∀ ad, w'.cell? ad = w.cell? ad) (hheap : ∀ b, b ≠ B0 → w'.heap[b]? = w.heap[b]?) (hno : ∀ i k o, getOb S i k = some o → o.loose = true → g.B i k ≠ B0) : SInv P w' g may S := by
  have hkp : Kp 0 S g S g := Kp.refl _ _ _
  refine ⟨fun i k cs h => ?_, fun i k e xs h => ?_, fun i k e xs h => ?_, hi.inj, fun b o h => by rw [hsize]; exact hi.mlt b o h⟩
  · obtain ⟨h1, h2, vs, t, h3, h4, h5⟩ := hi.box i k cs h
    exact ⟨h1, h2, vs, t, by rw [hheap _ (hno i k _ h rfl)]; exact h3, h4, fun j c u hc hu => ⟨CRep.keep (g := g) (g' := g) (S := S) (fun _ _ h => h) (fun b o _ => hsame _) hkp (AV.from_zero _) (h5 j c u hc hu).1, (h5 j c u hc hu).2⟩⟩
  · obtain ⟨h1, h2, he, cur, us, cap, h3, h4, h5, h6, h7, h8, h9⟩ := hi.arr i k e xs h
    exact ⟨h1, h2, he, cur, us, cap, by rw [hheap _ (hno i k _ h rfl)]; exact h3, h4, h5, h6, h7, h8.mono (fun _ _ h => h) (fun b o _ => hsame _), h9⟩
  · obtain ⟨he, us, hr, hc⟩ := hi.fz i k e xs h
    exact ⟨he, us, hr.mono (fun _ _ h => h) (fun b o _ => hsame _), fun m cv hm => ⟨(hsame _).trans (hc m cv hm).1, (hc m cv hm).2⟩⟩
theorem freeze_cell (w : World) (ad : Addr) (n : Nat) (b : Addr) : (w.freeze ad n).cell? b = w.cell? b := by
  unfold World.freeze
  split
  · rfl
  · unfold World.cell?
    simp only [Array.getElem?_modify]
    by_cases h : ad.block = b.block
    · rw [if_pos h]
      cases hb : w.heap[b.block]? with
      | none => rfl
      | some o => cases o <;> rfl
    · rw [if_neg h]
theorem freeze_heap (w : World) (ad : Addr) (n : Nat) (b : Nat) (h : b ≠ ad.block) : (w.freeze ad n).heap[b]? = w.heap[b]? := by
  unfold World.freeze
  split
  · rfl
  · simp only [Array.getElem?_modify]
    rw [if_neg (Ne.symm h)]
theorem freeze_size (w : World) (ad : Addr) (n : Nat) : (w.freeze ad n).heap.size = w.heap.size := by
  unfold World.freeze; split <;> simp
theorem markStringish_run (ad : Addr) : ∃ w', (markStringish ad).run P w = .ok () w' ∧ w'.os = w.os ∧ w'.tape = w.tape ∧ w'.output = w.output ∧ w'.heap.size = w.heap.size ∧ (∀ b, w'.cell? b = w.cell? b) ∧ ∀ b, b ≠ ad.block → w'.heap[b]? = w.heap[b]? := by
  unfold markStringish
  cases h : w.shape? ad.block with
  | none => exact ⟨w, by simp [h], rfl, rfl, rfl, rfl, fun _ => rfl, fun _ _ => rfl⟩
  | some x =>
    obtain ⟨e, n⟩ := x
    refine ⟨w.freeze ⟨ad.block, n, none⟩ 1, by simp [h], ?_, ?_, ?_, freeze_size _ _ _, freeze_cell _ _ _, fun b hb => freeze_heap _ _ _ b hb⟩ <;> (unfold World.freeze; split <;> rfl)
theorem convertA_sound (hs : Sim P may s a w g) (hm : ∀ b, w.heap.size ≤ b → may b) {s' : St} {d : Option Nat} {src dst : TypeId} {x : AV} {v : Value} (hv : HRep P w g s.stores x v) (h : convertA P s d src dst x = some s') :
    ∃ z w', (convert src dst v).run P w = .ok z w' ∧ Leaves P may s w g s' (a.put d z) w' := by
  unfold convertA at h
  split at h
  · rename_i r hr
    simp only [Option.some.injEq] at h; subst h
    obtain ⟨u, hrun, hu⟩ := convA_sound hs.inv hv hr
    exact ⟨u, w, hrun, Leaves.same (hs.put hu d) (put_stores _ _ _)⟩
  · split at h
    · rename_i e hus hud
      split at h
      · rename_i l hue hcn
        split at h
        · rename_i hc
          obtain ⟨hlen, hce⟩ := hc
          simp only [Option.some.injEq] at h; subst h
          have e1 := hv.inv_str; subst e1
          have hsz : (⟨l.toArray⟩ : ByteArray).size = l.length := by simp [ByteArray.size]
          have hrun := run_bytes_of_string (P := P) w src dst e ⟨l.toArray⟩ hus hud hue
          rw [hsz] at hrun
          refine ⟨_, _, hrun, ?_⟩
          have hge := grownCap_ge w l.length 0 e
          have hgm := grownCap_le_maxLen w l.length 0 e (by simp only [maxLen]; omega)
          have hx : Ext w (w.drew.alloc (.cells (bytesRow ⟨l.toArray⟩ (grownCap w l.length 0 e)) e ((bytesRow ⟨l.toArray⟩ (grownCap w l.length 0 e)).size, (bytesRow ⟨l.toArray⟩ (grownCap w l.length 0 e)).size + 1))) := (Ext.drew w).trans (Ext.alloc w.drew _)
          refine Leaves.put_rep hs hm hx (M' := fun b o => g.M b o ∨ b = w.heap.size) (fun _ _ h => .inl h) (fun b o h1 h2 => ?_) ?_ d
          · have hb : b = w.heap.size := h1.resolve_left h2
            subst hb
            exact ⟨Nat.le_refl _, by simp⟩
          · have hl : (avsOfBytes l).length = l.length := by simp [avsOfBytes]
            rw [← hl]
            refine .sl (us := l.map fun b => .int .u8 b.toNat) rfl (by simp [avsOfBytes]) (by rw [hl]; exact hge) (by rw [hl]; exact hgm) (by omega) (fun i y u hy hu => ?_) (fun u hu => ?_) fun hne => ?_
            · rw [avs_getElem?] at hy
              simp only [List.getElem?_map] at hu
              cases hli : l[i]? with
              | none => simp [hli] at hy
              | some b => simp [hli] at hy hu; subst hy; subst hu; exact .x rfl
            · obtain ⟨b, _, rfl⟩ := List.mem_map.1 hu
              rw [hce]; rfl
            · refine ⟨w.heap.size, 0, rfl, fun j cv hj => ⟨?_, .inr rfl⟩⟩
              have hf : flat (l.map fun b => Value.int .u8 b.toNat) = l.map fun b => Value.int .u8 b.toNat := by
                generalize l = m
                induction m with
                | nil => rfl
                | cons b r ih => rw [List.map_cons, flat_cons, ih]; rfl
              rw [hf] at hj
              have hjl : j < l.length := by
                have := (List.getElem?_eq_some_iff.1 hj).1
                simpa using this
              have hnew := heap_alloc_new w.drew (.cells (bytesRow ⟨l.toArray⟩ (grownCap w (avsOfBytes l).length 0 e)) e ((bytesRow ⟨l.toArray⟩ (grownCap w (avsOfBytes l).length 0 e)).size, (bytesRow ⟨l.toArray⟩ (grownCap w (avsOfBytes l).length 0 e)).size + 1))
              rw [Nat.zero_add]
              have hcr := cell_of_row _ w.heap.size j _ e _ hnew
              rw [hcr]
              simp only [bytesRow, List.map_toArray]
              rw [Array.getElem?_append_left (by simpa using hjl)]
              simpa using hj
        · cases h
      · cases h
    · rename_i e0 e hus hud
      split at h
      · rename_i hsd
        subst hsd
        split at h
        · rename_i i k e' lo n tot hue hcn
          split at h
          · rename_i e2 ys xs hg hx
            simp only [Option.some.injEq] at h; subst h
            rw [hus] at hud
            cases hud
            obtain ⟨g1, hset, hrep⟩ := setFz_sound hs hv hx
            obtain ⟨hxl, A, c, us, rfl, h1, h2, hr, hA⟩ := hs.inv.elems hv hx
            obtain ⟨_, b, o, rfl, _⟩ := hA (by rintro rfl; simp at hxl)
            obtain ⟨fz, zs, hg', ht, hq, _⟩ := hv.inv_arr
            rw [hg] at hg'
            simp only [Option.some.injEq, Ob.arr.injEq] at hg'
            obtain ⟨rfl, rfl, rfl⟩ := hg'
            have hl : ys.length = tot := by
              simp only [St.elems, hg] at hx
              split at hx
              · assumption
              · cases hx
            obtain ⟨hln, A', c', heq, hnc, hcm, hA', hC⟩ := hq hl
            injection heq with q1 q2 q3
            rw [hA' (.inr (by omega))] at q1
            injection q1 with q1
            injection q1 with q1 q4 q5
            subst q1
            obtain ⟨w', hmk, m1, m2, m3, m4, m5, m6⟩ := markStringish_run (P := P) (w := w) ⟨g.B i k, o, none⟩
            refine ⟨.slice (some ⟨g.B i k, o, none⟩) xs.length c, w', by simp [convert, run_underlying hus, run_underlying hue, hmk], ?_⟩
            have hst : (s.setFz i k).stores = setOb s.stores i k (.arr true e2 ys) := by simp [St.setFz, hg]
            have hB1 : g1.B i k = g.B i k := by
              obtain ⟨fz', xs', hg3, hl3, hq3⟩ := hset.2.2.1.arr i k _ _ _ (.inl (Nat.zero_le _)) hg
              rw [hst, getOb_set] at hg3
              simp [hg] at hg3
              obtain ⟨rfl, rfl⟩ := hg3
              exact (hq3 rfl).1
            have hno : ∀ i' k' o', getOb (s.setFz i k).stores i' k' = some o' → o'.loose = true → g1.B i' k' ≠ g.B i k := by
              intro i' k' o' hh hlo heq2
              have hlt := hs.inv.lt hg rfl
              rw [hst, getOb_set] at hh
              by_cases hn : i' = i ∧ k' = k
              · rw [if_pos hn, hg] at hh
                simp at hh; subst hh
                simp [Ob.loose] at hlo
              · rw [if_neg hn] at hh
                have hB2 : g1.B i' k' = g.B i' k' := by
                  cases o' with
                  | box cs => exact (hset.2.2.1.box i' k' cs (.inl (Nat.zero_le _)) hh).2
                  | arr fz3 e3 xs3 =>
                    obtain ⟨fz', xs', hg3, hl3, hq3⟩ := hset.2.2.1.arr i' k' _ _ _ (.inl (Nat.zero_le _)) hh
                    rw [hst, getOb_set, if_neg hn, hh] at hg3
                    simp only [Option.some.injEq, Ob.arr.injEq] at hg3
                    obtain ⟨_, _, rfl⟩ := hg3
                    exact (hq3 rfl).1
                rw [hB2] at heq2
                exact hn (hs.inv.inj i' k' o' i k _ hh hg hlo rfl heq2)
            have hinv := hset.1.inv.mark (w' := w') (B0 := g.B i k) m4 m5 m6 hno
            have hsim : Sim P may (s.setFz i k) a w' g1 := by
              have := hset.1.keep (w' := w') (g' := g1) (S' := (s.setFz i k).stores) (fun _ _ h => h) (fun b o _ => m5 _) (Kp.refl _ _ _) hinv hset.1.ne
              exact this
            have hmay := (hs.inv.lt hg rfl).2.1
            refine ⟨g1, hsim.put (HRep.of_rep (hrep.mono (fun _ _ h => h) (fun b o _ => m5 _))) d, hset.2.1.trans ⟨m1, m2, m3, by omega, fun b hb => m6 b fun e => hb (e ▸ hmay), fun _ _ h => h, fun b o _ => m5 _, fun _ _ _ h => h⟩, ?_⟩
            rw [put_stores]
            exact hset.2.2.1.mono (by omega)
          · cases h
        · cases h
      · cases h
    · cases h
end
end Go.AbsM

/-! ## AbsOpA -/
namespace Go.AbsM
section
variable {P : Program} {w : World} {g : Gh} {may : Nat → Prop} {s s' : St} {a : Act} {o : Oper}
def OpOk (P : Program) (may : Nat → Prop) (s : St) (a : Act) (w : World) (g : Gh) (s' : St) (o : Oper) : Prop :=
  ∃ w', (∃ v, (execOp a.eval o).run P w = .ok (.value v) w' ∧ Leaves P may s w g s' (a.put o.dst v) w') ∨ ((execOp a.eval o).run P w = .ok .skip w' ∧ Leaves P may s w g s' (a.put o.dst undef) w')
theorem OpOk.value {v : Value} {w' : World} (hr : (execOp a.eval o).run P w = .ok (.value v) w') (hl : Leaves P may s w g s' (a.put o.dst v) w') : OpOk P may s a w g s' o := ⟨w', .inl ⟨v, hr, hl⟩⟩
theorem OpOk.pure (hs : Sim P may s a w g) {x : AV} {v : Value} (hr : (execOp a.eval o).run P w = .ok (.value v) w) (hx : HRep P w g s.stores x v) : OpOk P may s a w g (s.put o.dst x) o :=
  .value hr (.same (hs.put hx o.dst) (put_stores _ _ _))
theorem partsA_sound (hs : Sim P may s a w g) {ps : List (Nat × Operand)} {l : List (Nat × AV)} (h : partsA s ps = some l) : PartsRep P w g s.stores l (ps.map fun x => (x.1, a.eval x.2)) := by
  induction ps generalizing l with
  | nil => simp [partsA] at h; subst h; exact ⟨rfl, fun i x y h => by simp at h⟩
  | cons p r ih =>
    obtain ⟨i, x⟩ := p
    simp only [partsA] at h
    split at h
    · rename_i y k hy hk
      simp only [Option.some.injEq] at h; subst h
      obtain ⟨h1, h2⟩ := ih hk
      refine ⟨by simpa using h1, fun j u v hu hv => ?_⟩
      cases j with
      | zero => simp at hu hv; subst hu; subst hv; exact ⟨rfl, hs.evalO hy⟩
      | succ j => simp at hu hv; exact h2 j u v hu (by simpa using hv)
    · cases h
theorem evalOs_sound (hs : Sim P may s a w g) {ps : List Operand} {l : List AV} (h : evalOs s ps = some l) : (ps.map a.eval).length = l.length ∧ ∀ (i : Nat) (x : AV) (v : Value), l[i]? = some x → (ps.map a.eval)[i]? = some v → HRep P w g s.stores x v := by
  induction ps generalizing l with
  | nil => simp [evalOs] at h; subst h; exact ⟨rfl, fun i x y h => by simp at h⟩
  | cons p r ih =>
    simp only [evalOs] at h
    split at h
    · rename_i y k hy hk
      simp only [Option.some.injEq] at h; subst h
      obtain ⟨h1, h2⟩ := ih hk
      refine ⟨by simpa using h1, fun j u v hu hv => ?_⟩
      cases j with
      | zero => simp at hu hv; subst hu; subst hv; exact hs.evalO hy
      | succ j => simp at hu hv; exact h2 j u v hu (by simpa using hv)
    · cases h
theorem evalOs_one (hs : Sim P may s a w g) {as : Array Operand} {x : AV} (h : evalOs s as.toList = some [x]) : ∃ v, as.map a.eval = #[v] ∧ HRep P w g s.stores x v := by
  obtain ⟨h1, h2⟩ := evalOs_sound hs h
  obtain ⟨as⟩ := as
  match as, h1 with
  | [p], _ => exact ⟨a.eval p, by simp, h2 0 _ _ rfl rfl⟩
theorem evalOs_two (hs : Sim P may s a w g) {as : Array Operand} {x y : AV} (h : evalOs s as.toList = some [x, y]) : ∃ u v, as.map a.eval = #[u, v] ∧ HRep P w g s.stores x u ∧ HRep P w g s.stores y v := by
  obtain ⟨h1, h2⟩ := evalOs_sound hs h
  obtain ⟨as⟩ := as
  match as, h1 with
  | [p, q], _ => exact ⟨a.eval p, a.eval q, by simp, h2 0 _ _ rfl rfl, h2 1 _ _ rfl rfl⟩
theorem ts_cons {ts : Array TypeId} {t : TypeId} {r : List TypeId} (h : ts.toList = t :: r) : ts = (t :: r).toArray := by
  rw [← h]
theorem builtinA_sound (hs : Sim P may s a w g) (hm : ∀ b, w.heap.size ≤ b → may b) {b : Builtin} {c : Call} (hc : c.callee = .builtin b) (ho : o.op = .call c) {as : List AV} (has : evalOs s c.args.toList = some as)
    (h : builtinA P s o.dst b c.argTypes.toList as = some s') : OpOk P may s a w g s' o := by
  have hrun : (execOp a.eval o).run P w = (builtin b c.argTypes o.type (c.args.map fun | .const _ => true | _ => false) (c.args.map a.eval)).run P w := by
    simp [execOp, ho, Go.resolve, hc, invoke]
    rfl
  unfold builtinA at h
  split at h
  · split at h
    · rename_i x t r hts
      obtain ⟨n, hn, rfl⟩ : ∃ n, lenOfA P s t x = some n ∧ s.put o.dst (.int .i64 n) = s' := by
        cases hl : lenOfA P s t x with
        | none => simp [hl] at h
        | some n => exact ⟨n, rfl, by simpa [hl] using h⟩
      obtain ⟨v, hv, hx⟩ := evalOs_one hs has
      have := lenOfA_sound hs.inv hx hn r o.type
      refine OpOk.pure hs (v := .int .i64 n) ?_ (HRep.mk_int _ _)
      rw [hrun, hv, ts_cons hts]
      simp [builtin, this]
    · cases h
  · split at h
    · rename_i x y t t2 hts
      split at h
      · rename_i e he
        obtain ⟨u, v, huv, hx, hy⟩ := evalOs_two hs has
        obtain ⟨z, w', hz, hl⟩ := appendA_sound (ty := o.type) hs hm (.inl ⟨_, he⟩) hx hy h
        refine OpOk.value (v := z) (w' := w') ?_ hl
        rw [hrun, huv, ts_cons hts]
        simp [builtin, hz]
      · rename_i he
        obtain ⟨u, v, huv, hx, hy⟩ := evalOs_two hs has
        obtain ⟨z, w', hz, hl⟩ := appendA_sound (ty := o.type) hs hm (.inr he) hx hy h
        refine OpOk.value (v := z) (w' := w') ?_ hl
        rw [hrun, huv, ts_cons hts]
        simp [builtin, hz]
      · cases h
    · cases h
  · split at h
    · rename_i x y t r hts
      obtain ⟨u, v, huv, hx, hy⟩ := evalOs_two hs has
      obtain ⟨z, w', hz, hl⟩ := copyA_sound (ty := o.type) (rest := r) hs hm hx hy h
      refine OpOk.value (v := z) (w' := w') ?_ hl
      rw [hrun, huv, ts_cons hts]
      simp [builtin, hz]
    · cases h
  · split at h
    · rename_i x t r hts
      obtain ⟨v, hv, hx⟩ := evalOs_one hs has
      obtain ⟨z, w', hz, hl⟩ := clearA_sound (ty := o.type) (rest := r) hs hm hx h
      refine OpOk.value (v := z) (w' := w') ?_ hl
      rw [hrun, hv, ts_cons hts]
      simp [builtin, hz]
    · cases h
  · split at h
    · rename_i k p q
      simp only [Option.some.injEq] at h; subst h
      obtain ⟨v, hv, hx⟩ := evalOs_one hs has
      obtain ⟨rfl, _⟩ := hx.inv_x
      refine OpOk.pure hs (v := .float k p) ?_ (HRep.mk_x rfl)
      rw [hrun, hv]
      rfl
    · cases h
  · split at h
    · rename_i k p q
      simp only [Option.some.injEq] at h; subst h
      obtain ⟨v, hv, hx⟩ := evalOs_one hs has
      obtain ⟨rfl, _⟩ := hx.inv_x
      refine OpOk.pure hs (v := .float k q) ?_ (HRep.mk_x rfl)
      rw [hrun, hv]
      rfl
    · cases h
  · split at h
    · rename_i k p k' q
      split at h
      · rename_i hk
        subst hk
        simp only [Option.some.injEq] at h; subst h
        obtain ⟨u, v, huv, hx, hy⟩ := evalOs_two hs has
        obtain ⟨rfl, _⟩ := hx.inv_x
        obtain ⟨rfl, _⟩ := hy.inv_x
        refine OpOk.pure hs (v := .complex k p q) ?_ (HRep.mk_x rfl)
        rw [hrun, huv]
        have : Builtin.complex_ c.argTypes o.type #[.float k p, .float k q] = pure (.complex k p q) := by
          show (if k = k then _ else _) = _
          rw [if_pos rfl]
        simp [builtin, this]
      · cases h
    · cases h
  · split at h
    · rename_i k p k' q
      simp only [Option.some.injEq] at h; subst h
      obtain ⟨u, v, huv, hx, hy⟩ := evalOs_two hs has
      obtain ⟨rfl, _⟩ := hx.inv_x
      obtain ⟨rfl, _⟩ := hy.inv_x
      refine OpOk.pure hs (v := .int k (if q < p then q else p)) ?_ (HRep.mk_int _ _)
      rw [hrun, huv]
      simp [builtin, Builtin.min_, Builtin.min2]
    · rename_i k p k' q
      obtain ⟨r, hr, rfl⟩ := Option.map_eq_some_iff.1 h
      obtain ⟨u, v, huv, hx, hy⟩ := evalOs_two hs has
      obtain ⟨rfl, _⟩ := hx.inv_x
      obtain ⟨rfl, _⟩ := hy.inv_x
      refine OpOk.pure hs (v := .float k r) ?_ (HRep.mk_x rfl)
      rw [hrun, huv]
      unfold minF at hr
      split at hr <;> simp_all [builtin, Builtin.min_, Builtin.min2]
    · cases h
  · split at h
    · rename_i k p k' q
      simp only [Option.some.injEq] at h; subst h
      obtain ⟨u, v, huv, hx, hy⟩ := evalOs_two hs has
      obtain ⟨rfl, _⟩ := hx.inv_x
      obtain ⟨rfl, _⟩ := hy.inv_x
      refine OpOk.pure hs (v := .int k (if q > p then q else p)) ?_ (HRep.mk_int _ _)
      rw [hrun, huv]
      simp [builtin, Builtin.max_, Builtin.max2]
    · rename_i k p k' q
      obtain ⟨r, hr, rfl⟩ := Option.map_eq_some_iff.1 h
      obtain ⟨u, v, huv, hx, hy⟩ := evalOs_two hs has
      obtain ⟨rfl, _⟩ := hx.inv_x
      obtain ⟨rfl, _⟩ := hy.inv_x
      refine OpOk.pure hs (v := .float k r) ?_ (HRep.mk_x rfl)
      rw [hrun, huv]
      unfold maxF at hr
      split at hr <;> simp_all [builtin, Builtin.max_, Builtin.max2]
    · cases h
  · cases h
theorem newVar_run {t : TypeId} {v : Value} : (newVar t v).run P w = .ok ⟨w.heap.size, 0, none⟩ (w.alloc (.cells v.cells t)) := rfl
theorem nilA_sound {y : AV} {v : Value} (hr : HRep P w g s.stores y v) (h : nilA s y = true) : ∃ A, v = .pointer (some A) := by
  unfold nilA at h
  split at h
  · exact ⟨_, hr.inv_ref.2⟩
  · obtain ⟨b, o, vs, rfl, _⟩ := hr
    exact ⟨_, rfl⟩
  · split at h
    · rename_i fz e' xs hg
      obtain ⟨fz', xs', hg', _, hq⟩ := hr
      rw [hg] at hg'
      simp only [Option.some.injEq, Ob.arr.injEq] at hg'
      obtain ⟨_, _, rfl⟩ := hg'
      exact ⟨_, (hq (by simpa using h)).2⟩
    · cases h
  · cases h
theorem opA_sound (hs : Sim P may s a w g) (hm : ∀ b, w.heap.size ≤ b → may b) (h : opA P s o = some s') : OpOk P may s a w g s' o := by
  unfold opA at h
  split at h
  ·
    rename_i x ho
    obtain ⟨y, hy, rfl⟩ := Option.map_eq_some_iff.1 h
    exact .pure hs (v := a.eval x) (by simp [execOp, ho]) (hs.evalO hy)
  ·
    rename_i x ho
    obtain ⟨y, hy, rfl⟩ := Option.map_eq_some_iff.1 h
    exact .pure hs (v := a.eval x) (by simp [execOp, ho]) (hs.evalO hy)
  ·
    rename_i c x y ho
    split at h
    · rename_i t ht
      obtain ⟨hb, _⟩ := (hs.evalO ht).inv_x
      obtain ⟨z, hz, rfl⟩ := Option.map_eq_some_iff.1 h
      cases t with
      | true => exact .pure hs (v := a.eval x) (by simp [execOp, ho, hb, asBool]) (hs.evalO (by simpa using hz))
      | false => exact .pure hs (v := a.eval y) (by simp [execOp, ho, hb, asBool]) (hs.evalO (by simpa using hz))
    · cases h
  ·
    rename_i x ho
    split at h
    · rename_i y hx
      split at h
      · rename_i hnil
        simp only [Option.some.injEq] at h; subst h
        have hr := hs.evalO hx
        obtain ⟨A, he⟩ := nilA_sound hr hnil
        exact .pure hs (v := a.eval x) (by simp [execOp, ho, he]) hr
      · cases h
    · cases h
  ·
    rename_i e ho
    split at h
    · rename_i z hz
      obtain ⟨i, v, hi, hzv, hc⟩ := zeroT_some hz
      have hr : HRep P w g s.stores z v := HRep.of_rep (constAV_rep hc g.M)
      have hb := boxA_sound hs hm hr h
      refine .value (v := .pointer (some ⟨w.heap.size, 0, none⟩)) (w' := w.alloc (.cells v.cells e)) ?_ hb
      have h2 := newVar_run (P := P) (w := w) (t := e) (v := v)
      have hz2 : (zeroValue e).run P w = .ok v w := by simp [zeroValue, typeInfo, hi, hzv]
      simp [execOp, ho, Instr.alloc, hz2, h2]
    · cases h
  ·
    rename_i e x ho
    split at h
    · rename_i y hy
      have hr := hs.evalO hy
      have hb := boxA_sound hs hm hr h
      refine .value (v := .pointer (some ⟨w.heap.size, 0, none⟩)) (w' := w.alloc (.cells (a.eval x).cells e)) ?_ hb
      have h2 := newVar_run (P := P) (w := w) (t := e) (v := a.eval x)
      simp [execOp, ho, Instr.box, h2]
    · cases h
  ·
    rename_i t ps ho
    split at h
    · rename_i l hl
      have hp := partsA_sound hs hl
      obtain ⟨cs, v, rfl, hrun, hv⟩ := buildA_sound (m := ps.map fun x => (x.1, a.eval x.2)) rfl (by simpa using hp) h
      exact .pure hs (by simp [execOp, ho, hrun]) hv
    · cases h
  ·
    rename_i t len ps ho
    split at h
    · rename_i l hl
      have hp := partsA_sound hs hl
      obtain ⟨v, w', hrun, hv⟩ := buildSliceA_sound (m := ps.map fun x => (x.1, a.eval x.2)) hs hm (by simpa using hp) h
      exact .value (by simp [execOp, ho, hrun]) hv
    · cases h
  ·
    rename_i t lo co ho
    split at h
    · rename_i k1 l k2 c hl hc
      obtain ⟨e1, _⟩ := (hs.evalO hl).inv_x
      obtain ⟨e2, _⟩ := (hs.evalO hc).inv_x
      obtain ⟨v, w', hrun, hv⟩ := makeA_sound (kl := k1) (kc := k2) hs hm h
      exact .value (by simp [execOp, ho, e1, e2, hrun]) hv
    · cases h
  ·
    rename_i t x ho
    split at h
    · rename_i p hp
      obtain ⟨r, hr, rfl⟩ := Option.map_eq_some_iff.1 h
      obtain ⟨u, hrun, hu⟩ := loadA_sound hs.inv (hs.evalO hp) hr
      exact .pure hs (by simp [execOp, ho, hrun]) hu
    · cases h
  ·
    rename_i t x y ho
    split at h
    · rename_i p v hp hv
      obtain ⟨w', hrun, hl⟩ := storeA_sound hs hm (hs.evalO hp) (hs.evalO hv) h
      exact ⟨w', .inr ⟨by simp [execOp, ho, hrun], hl⟩⟩
    · cases h
  ·
    rename_i t x f ho
    split at h
    · rename_i fields p hu hp
      split at h
      · rename_i fd hf
        split at h
        · rename_i m hm'
          obtain ⟨r, hr, rfl⟩ := Option.map_eq_some_iff.1 h
          obtain ⟨u, hrun, hu⟩ := fieldAddr_sound hu hf hm' (hs.evalO hp) hr
          exact .pure hs (by simp [execOp, ho, hrun]) hu
        · cases h
      · cases h
    · cases h
  ·
    rename_i t x y ho
    split at h
    · rename_i p k i hp hi
      obtain ⟨e2, _⟩ := (hs.evalO hi).inv_x
      obtain ⟨r, hr, rfl⟩ := Option.map_eq_some_iff.1 h
      obtain ⟨u, hrun, hu⟩ := indexAddrA_sound (k := k) hs.inv (hs.evalO hp) hr
      exact .pure hs (by simp [execOp, ho, e2, hrun]) hu
    · cases h
  ·
    rename_i t x f ho
    split at h
    · rename_i fields cs hu hp
      split at h
      · rename_i fd hf
        obtain ⟨r, hr, rfl⟩ := Option.map_eq_some_iff.1 h
        obtain ⟨vs, hv, hc⟩ := (hs.evalO hp).inv_agg
        obtain ⟨u, hrun, hu'⟩ := partA_sound hc hr
        exact .pure hs (by simp [execOp, ho, Instr.field, run_underlying hu, hf, hv, asAgg, hrun]) hu'
      · cases h
    · cases h
  ·
    rename_i t x y ho
    split at h
    · rename_i p k i hp hi
      obtain ⟨e2, _⟩ := (hs.evalO hi).inv_x
      split at h
      · rename_i len e hu
        split at h
        · rename_i cs n hn
          split at h
          · rename_i hb
            obtain ⟨r, hr, rfl⟩ := Option.map_eq_some_iff.1 h
            obtain ⟨vs, hv, hc⟩ := (hs.evalO hp).inv_agg
            obtain ⟨u, hrun, hu'⟩ := partA_sound hc hr
            exact .pure hs (by simp [execOp, ho, Instr.index, asIntOf, run_underlying hu, hv, e2, hb, sizeT_run hn, hrun]) hu'
          · cases h
        · cases h
      · rename_i hu
        split at h
        · rename_i l
          split at h
          · rename_i h0
            split at h
            · rename_i b hb
              simp only [Option.some.injEq] at h; subst h
              have hv := (hs.evalO hp).inv_str
              have hb' : (⟨l.toArray⟩ : ByteArray)[i.toNat]? = some b := by
                have hlt : i.toNat < l.length := by
                  rcases Nat.lt_or_ge i.toNat l.length with h | h
                  · exact h
                  · simp [List.getElem?_eq_none h] at hb
                have hge : l[i.toNat] = b := by simpa [List.getElem?_eq_getElem hlt] using hb
                rw [getElem?_pos (⟨l.toArray⟩ : ByteArray) i.toNat (by simpa [ByteArray.size] using hlt)]
                rw [← hge]; rfl
              exact .pure hs (v := .int .u8 b.toNat) (by simp [execOp, ho, Instr.index, asIntOf, run_underlying hu, hv, e2, h0, hb']) (HRep.mk_int _ _)
            · cases h
          · cases h
        · cases h
      · cases h
    · cases h
  ·
    rename_i t x lo hi mx ho
    split at h
    · rename_i p hp
      obtain ⟨r, hr, rfl⟩ := Option.map_eq_some_iff.1 h
      obtain ⟨u, hrun, hu⟩ := sliceA_sound hs (hs.evalO hp) hr
      exact .pure hs (by simp [execOp, ho, hrun]) hu
    · cases h
  ·
    rename_i op t x y _ ho
    split at h
    · rename_i p q hp hq
      obtain ⟨r, hr, rfl⟩ := Option.map_eq_some_iff.1 h
      obtain ⟨u, h1, h2, hu⟩ := binA_sound (ox := x) (oy := y) hs.inv (hs.evalO hp) (hs.evalO hq) hr
      exact .pure hs (by simp [execOp, ho, h1, h2]) hu
    · cases h
  ·
    rename_i op t x ho
    split at h
    · rename_i p hp
      obtain ⟨r, hr, rfl⟩ := Option.map_eq_some_iff.1 h
      obtain ⟨u, h1, hu⟩ := unA_sound (hs.evalO hp) hr
      exact .pure hs (by simp [execOp, ho, h1]) hu
    · cases h
  ·
    rename_i src dst x ho
    split at h
    · rename_i p hp
      obtain ⟨z, w', hrun, hl⟩ := convertA_sound hs hm (hs.evalO hp) h
      exact .value (by simp [execOp, ho, hrun]) hl
    · cases h
  ·
    rename_i x i ho
    split at h
    · rename_i vs hx
      obtain ⟨r, hr, rfl⟩ := Option.map_eq_some_iff.1 h
      obtain ⟨us, hv, hl, hc⟩ := (hs.evalO hx).inv_tup
      have hlt : i < us.length := by
        rw [hl]
        rcases Nat.lt_or_ge i vs.length with h | h
        · exact h
        · simp [List.getElem?_eq_none h] at hr
      have h1 := hc i r us[i] hr (by simp [hlt])
      refine .pure hs (v := us[i]) (by simp [execOp, ho, Instr.extract, hv, hlt]) (HRep.of_one h1 fun l e => ?_)
      subst e; exact h1.of_tup
    · cases h
  ·
    rename_i c ho
    split at h
    · rename_i b hb
      split at h
      · rename_i as has
        exact builtinA_sound hs hm hb ho has h
      · cases h
    · cases h
  · cases h
end
end Go.AbsM

/-! ## AbsCall -/
namespace Go.AbsM
section
variable {P : Program} {w w' : World} {g : Gh} {may : Nat → Prop} {s s' : St} {a : Act}
def AExit.toExit : AExit → Exit
  | .normal => .normal
  | .exit id => .exit id
  | .goto l => .goto l
  | .ret => .ret
def Goal (P : Program) (may : Nat → Prop) (s : St) (w : World) (g : Gh) (e : AExit) (s' : St) : Exit → Act → World → Prop := fun x a' w' => x = e.toExit ∧ Leaves P may s w g s' a' w'
def CodeOk (P : Program) (c : Code) (s : St) (e : AExit) (s' : St) : Prop :=
  ∀ (may : Nat → Prop) (a : Act) (w : World) (g : Gh), Sim P may s a w g → (∀ b, w.heap.size ≤ b → may b) → c.wp P (Goal P may s w g e s') a w
theorem results_run {fn : Func} {tmps : Array Value} {vs : List Value} {f : ResultVar → Sem Value} (hf : ∀ t, f (.tmp t) = pure (tmps.getD t undef)) (hf' : ∀ c t, f (.cell c t) = do loadVar t (← asAddr (tmps.getD c undef)))
    (h : (fn.results.toList.mapM f).run P w = .ok vs w) : (results fn tmps).run P w = .ok (if h : vs.toArray.size = 1 then vs.toArray[0] else .tuple vs.toArray) w := by
  have hm : (fn.results.mapM f).run P w = .ok vs.toArray w := by
    rw [Array.mapM_eq_mapM_toList]
    simp only [map_eq_pure_bind, Sem.run_bind, h, Result.andThen_ok, Sem.run_pure]
  have he : results fn tmps = (do let vs ← fn.results.mapM f; pure (if h : vs.size = 1 then vs[0] else .tuple vs)) := by
    unfold results
    congr 1
    congr 1
    funext x
    cases x with
    | tmp t => exact (hf t).symm
    | cell c t => exact (hf' c t).symm
  rw [he]
  simp only [Sem.run_bind, hm, Result.andThen_ok, Sem.run_pure]
theorem enter_sim {fn : Func} {args : List AV} {S : List Store} {vs : List Value} (hi : SInv P w g may S) (hl : vs.length = args.length)
    (hr : ∀ (i : Nat) (x : AV) (v : Value), args[i]? = some x → vs[i]? = some v → HRep P w g.push ([] :: S) x v) :
    Sim P may (enterA fn args S) { tmps := vs.toArray ++ Array.replicate (fn.ntmps - vs.toArray.size) undef, defers := [] } w g.push := by
  refine ⟨hi.push, ?_, fun t x hx => ?_, rfl, by simp [enterA]⟩
  · simp [enterA, hl]
  · simp only [enterA] at hx
    rw [List.getElem?_append] at hx
    split at hx
    · rename_i hlt
      have hv : vs[t]? = some (vs[t]'(by omega)) := List.getElem?_eq_getElem _
      have : (vs.toArray ++ Array.replicate (fn.ntmps - vs.toArray.size) undef).getD t undef = vs[t]'(by omega) := by
        rw [Array.getD_eq_getD_getElem?, Array.getElem?_append_left (by simp; omega)]
        simp [hl, hlt]
      rw [this]
      exact hr t x _ hx hv
    · rename_i hge
      rw [List.getElem?_replicate] at hx
      split at hx
      · rename_i hlt
        simp only [Option.some.injEq] at hx; subst hx
        show _ = undef
        rw [Array.getD_eq_getD_getElem?, Array.getElem?_append_right (by simp; omega)]
        simp only [List.size_toArray]
        rw [Array.getElem?_replicate, if_pos (by omega)]
        rfl
      · cases hx
theorem body_sound {f : FuncId} {fn : Func} {c : Code} {args : List AV} {S S' : List Store} {r : AV} {e : AExit} {s1 s2 : St} {l l1 ys : List AV} {t : Store} (hf : P.funcs[f]? = some fn) (hb : fn.body = some c) (hc : CodeOk P c (enterA fn args S) e s1)
    (he : e = .ret ∨ e = .normal) (hl : resultAll P s1 fn.results.toList = some l) (hse : settle s1 l = some (s2, l1)) (ho : outAll s2 [] l1 = some ys) (hst : s2.stores = t :: S') (hr : r = oneOf ys) : CallC P f args S S' r := by
  intro may w g vs hi hm hlen hargs
  refine calls_of_wp hf hb (wp_mono (hc may _ w _ (enter_sim hi hlen hargs) hm) fun x a' w' ⟨hx, g1, h1, h2, h3⟩ => ?_)
  have fin : a'.defers = [] ∧ ∃ v, (results fn a'.tmps).run P w' = .ok v w' ∧ (∃ v' g', Ending.returned v = Ending.returned v' ∧ Fr may w g.M w' g'.M ∧ SInv P w' g' may S' ∧ Kp 0 S g S' g' ∧ ResRep P may w' g' S' r v') := by
    refine ⟨h1.defers, ?_⟩
    obtain ⟨us, hrun, hus⟩ := resultAll_sound (f := (fun | .tmp t => pure (a'.tmps.getD t undef) | .cell c t => do loadVar t (← asAddr (a'.tmps.getD c undef)) : ResultVar → Sem Value)) h1 (fun _ => rfl) (fun _ _ => rfl) hl
    obtain ⟨g2, k1, hus1⟩ := settle_sound h1 hus hse
    obtain ⟨hul, ks, o1, o2, o3⟩ := outAll_sound hst k1.1.inv hus1 ho
    refine ⟨_, results_run (fun _ => rfl) (fun _ _ => rfl) hrun, _, g2.pop, rfl, h2.trans k1.2.1, ?_, ?_, ?_⟩
    · have := k1.1.inv; rw [hst] at this; exact this.pop
    · have := h3.trans (k1.2.2.1.mono (by omega)); rw [hst] at this; exact this.pop
    · subst hr
      have all : OReps P may w' g2.pop S' ys us := ⟨hul, fun i => g2.B 0 (ks i), o1, fun i j e xs e' xs' hi' hj' heq => by
        obtain ⟨_, o, ho1, ho2⟩ := o2 i _ _ hi'
        obtain ⟨_, p, hp1, hp2⟩ := o2 j _ _ hj'
        exact o3 i j _ _ _ _ hi' hj' (k1.1.inv.inj 0 (ks i) o 0 (ks j) p ho1 hp1 ho2 hp2 heq).2⟩
      match ys, us, hul, all with
      | [], [], _, all => exact ⟨[], rfl, all⟩
      | [y], [u], _, all =>
        obtain ⟨_, bl, q1, _⟩ := all
        have := q1 0 y u rfl rfl
        show ResRep P may w' g2.pop S' y u
        unfold ResRep
        split
        · exact this.elim
        · exact ⟨_, this⟩
      | y :: y' :: ys, u :: u' :: us, _, all => exact ⟨_, rfl, all⟩
  rcases he with rfl | rfl
  · subst hx; exact fin
  · subst hx; exact fin
theorem Sim.grow (hs : Sim P may s a w g) (hm : ∀ b, w.heap.size ≤ b → may b) (hx : Ext w w') {M' : Nat → Nat → Prop} (hM : ∀ b o, g.M b o → M' b o) (hMn : ∀ b o, M' b o → ¬ g.M b o → w.heap.size ≤ b ∧ b < w'.heap.size) :
    Sim P may s a w' { g with M := M' } ∧ Fr may w g.M w' M' ∧ Kp 0 s.stores g s.stores { g with M := M' } := by
  have hcell : ∀ b o, g.M b o → w'.cell? ⟨b, o, none⟩ = w.cell? ⟨b, o, none⟩ := fun b o h => hx.cell (hs.inv.mlt b o h) o
  let g' : Gh := { g with M := M' }
  have hkp : Kp 0 s.stores g s.stores g' := ⟨fun i k cs _ h => ⟨⟨cs, h⟩, rfl⟩, fun i k fz e xs _ h => ⟨fz, xs, h, Nat.le_refl _, fun _ => ⟨rfl, fun hf => ⟨hf, rfl⟩⟩⟩⟩
  have hnew : ∀ b o, b < w.heap.size → M' b o → g.M b o := fun b o hb h => Classical.byContradiction fun hn => by have := (hMn b o h hn).1; omega
  have hinv : SInv P w' g' may s.stores := by
    refine ⟨fun i k cs h => ?_, fun i k e xs h => ?_, fun i k e xs h => ?_, fun i k o i' k' o' h h' => hs.inv.inj i k o i' k' o' h h', fun b o h => ?_⟩
    · obtain ⟨h1, h2, vs, t, h3, h4, h5⟩ := hs.inv.box i k cs h
      exact ⟨h1, fun o ho => h2 o (hnew _ o (lt_of_heap h3) ho), vs, t, by rw [hx.heap _ (lt_of_heap h3)]; exact h3, h4, fun j c u hc hu => ⟨CRep.keep (g := g) (g' := g') (S := s.stores) hM hcell hkp (AV.from_zero _) (h5 j c u hc hu).1, (h5 j c u hc hu).2⟩⟩
    · obtain ⟨h1, h2, he, cur, us, cap, h3, h4, h5, h6, h7, h8, h9⟩ := hs.inv.arr i k e xs h
      exact ⟨h1, fun o ho => h2 o (hnew _ o (lt_of_heap h3) ho), he, cur, us, cap, by rw [hx.heap _ (lt_of_heap h3)]; exact h3, h4, h5, h6, h7, h8.mono hM hcell, h9⟩
    · obtain ⟨he, us, hr, hc⟩ := hs.inv.fz i k e xs h
      exact ⟨he, us, hr.mono hM hcell, fun m cv hm => ⟨(hcell _ _ (hc m cv hm).2).trans (hc m cv hm).1, hM _ _ (hc m cv hm).2⟩⟩
    · by_cases hg : g.M b o
      · exact Nat.lt_of_lt_of_le (hs.inv.mlt b o hg) hx.size
      · exact (hMn b o h hg).2
  exact ⟨hs.keep hM hcell hkp hinv hs.ne, ⟨hx.os, hx.tape, hx.output, hx.size, fun b hb => hx.heap b (Nat.lt_of_not_le fun hh => hb (hm b hh)), hM, hcell, fun b o hb h => hnew b o (Nat.lt_of_not_le fun hh => hb (hm b hh)) h⟩, hkp⟩
theorem Rep.flat0 {M M2 : Nat → Nat → Prop} {x : AV} {v : Value} (h : Rep P w M x v) (hx : x.flat0 = true) : Rep P w M2 x v := by
  cases h with
  | x h => exact .x h
  | str => exact .str
  | nils => exact .nils
  | cap0 => exact .cap0
  | sl => simp [AV.flat0] at hx
  | agg => simp [AV.flat0] at hx
theorem Rep.flat1 {M M2 : Nat → Nat → Prop} {x : AV} {v : Value} (h : Rep P w M x v) (hx : x.flat1 = true) : Rep P w M2 x v := by
  cases h with
  | agg hl hr hv => exact .agg hl (fun i c u hc hu => (hr i c u hc hu).flat0 (List.all_eq_true.1 hx c (List.mem_of_getElem? hc))) hv
  | x h => exact .x h
  | str => exact .str
  | nils => exact .nils
  | cap0 => exact .cap0
  | sl => simp [AV.flat1, AV.flat0] at hx
theorem RepL.flat1 {M M2 : Nat → Nat → Prop} {e : TypeId} {xs : List AV} {us : List Value} (h : RepL P w M e xs us) (hx : xs.all AV.flat1 = true) : RepL P w M2 e xs us :=
  ⟨h.1, fun i x u hc hu => (h.2.1 i x u hc hu).flat1 (List.all_eq_true.1 hx x (List.mem_of_getElem? hc)), h.2.2⟩
theorem HRep1.shut {S : List Store} {x : AV} {v : Value} (h : HRep1 P w g S x v) (hx : x.shut1 = true) (hno : ∀ e xs, x ≠ .own e xs) : Rep P w g.M x v := by
  cases x with
  | agg cs =>
    obtain ⟨vs, rfl, hl, hr⟩ := h
    have hv : ∀ c, c ∈ cs → c.isVal = true := fun c hc => List.all_eq_true.1 hx c hc
    exact .agg hl (fun i c u hc hu => (hr i c u hc hu).1.rep (hv c (List.mem_of_getElem? hc))) hv
  | own e xs => exact absurd rfl (hno e xs)
  | tup => exact h.elim
  | _ =>
    unfold HRep1 at h
    exact CRep.rep h hx
theorem HRep1.of_rep {S : List Store} {x : AV} {v : Value} (h : Rep P w g.M x v) : HRep1 P w g S x v := by
  have := HRep.of_rep (g := g) (S := S) h
  cases h <;> exact this
theorem ORep.shut {may0 : Nat → Prop} {g0 : Gh} {S0 : List Store} {g2 : Gh} {S2 : List Store} {x : AV} {v : Value} {b : Nat} (h : ORep P may0 w g0 S0 x v b) (hx : x.shut1 = true) (hM : x.flat2 = true ∨ ∀ b o, g0.M b o → g2.M b o)
    (hb : ∀ b, may0 b → (∀ o, ¬ g0.M b o) → may b ∧ (∀ o, ¬ g2.M b o) ∧ ∀ i k o, getOb S2 i k = some o → o.loose = true → g2.B i k ≠ b) : ORep P may w g2 S2 x v b := by
  by_cases ho : ∃ e xs, x = .own e xs
  · obtain ⟨e, xs, rfl⟩ := ho
    obtain ⟨h1, h2, h3, h4⟩ := h
    obtain ⟨k1, k2, k3⟩ := hb b h1 h2
    refine ⟨k1, k2, k3, ?_⟩
    rcases h4 with ⟨hbx, he, cur, us, cap, c, q1, q2, q3, q4, q5, q6, q7, q8, q9, q10⟩ | ⟨hbx, cs, rfl, q1, q2, vs, t, q3, q4, q5⟩
    · refine .inl ⟨hbx, he, cur, us, cap, c, q1, q2, q3, q4, q5, q6, q7, q8, ?_, q10⟩
      rcases hM with hM | hM
      · exact q9.flat1 hM
      · exact q9.mono hM (fun _ _ _ => rfl)
    · refine .inr ⟨hbx, cs, rfl, q1, q2, vs, t, q3, q4, fun j c u hc hu => ⟨?_, (q5 j c u hc hu).2⟩⟩
      rcases hM with hM | hM
      · have hM1 : cs.all AV.flat0 = true := by simpa [AV.flat2, AV.flat1] using hM
        exact (q5 j c u hc hu).1.flat0 (List.all_eq_true.1 hM1 c (List.mem_of_getElem? hc))
      · exact (q5 j c u hc hu).1.mono hM (fun _ _ _ => rfl)
  · have h' : HRep1 P w g0 S0 x v := by cases x <;> first | exact h | exact absurd ⟨_, _, rfl⟩ ho
    have hr := h'.shut hx fun e xs he => ho ⟨e, xs, he⟩
    have : Rep P w g2.M x v := by
      rcases hM with hM | hM
      · exact hr.flat1 (by cases x <;> first | exact hM | exact absurd ⟨_, _, rfl⟩ ho)
      · exact hr.mono hM (fun _ _ _ => rfl)
    have h2 := HRep1.of_rep (S := S2) this
    cases x <;> first | exact h2 | exact absurd ⟨_, _, rfl⟩ ho
theorem ResRep.shut {may0 : Nat → Prop} {g0 : Gh} {S0 : List Store} {g2 : Gh} {S2 : List Store} {r : AV} {v : Value} (h : ResRep P may0 w g0 S0 r v) (hx : r.shut = true) (hM : r.hasSl = false ∨ ∀ b o, g0.M b o → g2.M b o)
    (hb : ∀ b, may0 b → (∀ o, ¬ g0.M b o) → may b ∧ (∀ o, ¬ g2.M b o) ∧ ∀ i k o, getOb S2 i k = some o → o.loose = true → g2.B i k ≠ b) : ResRep P may w g2 S2 r v := by
  by_cases ht : ∃ as, r = .tup as
  · obtain ⟨as, rfl⟩ := ht
    obtain ⟨vs, rfl, hl, bl, h1, h2⟩ := h
    refine ⟨vs, rfl, hl, bl, fun i c u hc hu => (h1 i c u hc hu).shut (List.all_eq_true.1 hx c (List.mem_of_getElem? hc)) ?_ hb, h2⟩
    rcases hM with hM | hM
    · refine .inl ?_
      simp only [AV.hasSl, Bool.not_eq_false'] at hM
      exact List.all_eq_true.1 hM c (List.mem_of_getElem? hc)
    · exact .inr hM
  · obtain ⟨b, ho⟩ : ∃ b, ORep P may0 w g0 S0 r v b := by cases r <;> first | exact h | exact absurd ⟨_, rfl⟩ ht
    have := ho.shut (g2 := g2) (S2 := S2) (may := may) (by cases r <;> first | exact hx | exact absurd ⟨_, rfl⟩ ht) (by
      rcases hM with hM | hM
      · refine .inl ?_
        cases r <;> first | exact absurd ⟨_, rfl⟩ ht | (simp only [AV.hasSl, Bool.not_eq_false'] at hM; exact hM)
      · exact .inr hM) hb
    cases r <;> first | exact ⟨b, this⟩ | exact absurd ⟨_, rfl⟩ ht
end
end Go.AbsM

/-! ## AbsCall2 -/
namespace Go.AbsM
section
variable {P : Program} {w w' : World} {g : Gh} {may : Nat → Prop} {s s' : St} {a : Act}
theorem HRep.shift1 {t : Store} {S : List Store} {x : AV} {v : Value} (h : HRep P w g S x v) (hx : ∀ l, x ≠ .agg l) (hx' : ∀ l, x ≠ .tup l) : HRep P w g.push (t :: S) (x.shift 1) v := by
  cases x <;> first | exact h | exact absurd rfl (hx _) | exact absurd rfl (hx' _)
theorem Rep.hrep_any {g' : Gh} {S : List Store} {x : AV} {v : Value} (h : Rep P w g.M x v) (hM : g'.M = g.M) : HRep P w g' S x v := HRep.of_rep (by rw [hM]; exact h)
def LRep (P : Program) (w : World) (g : Gh) (S : List Store) (y : AV) (v : Value) : Prop := (∃ x, y = x.shift 1 ∧ (∀ l, x ≠ .agg l) ∧ (∀ l, x ≠ .tup l) ∧ HRep P w g S x v) ∨ Rep P w g.M y v
theorem LRep.hrep {S : List Store} {y : AV} {v : Value} (h : LRep P w g S y v) : HRep P w g.push ([] :: S) y v := by
  rcases h with ⟨x, rfl, h1, h2, h3⟩ | h
  · exact h3.shift1 h1 h2
  · exact h.hrep_any rfl
theorem LRep.settles {s' : St} {g' : Gh} (h : Settles P may s a w g s' g') {y : AV} {v : Value} (k : LRep P w g s.stores y v) : LRep P w g' s'.stores y v := by
  rcases k with ⟨x, rfl, h1, h2, h3⟩ | k
  · exact .inl ⟨x, rfl, h1, h2, h.hrep (S := []) h3⟩
  · exact .inr (h.rep k)
theorem lendAll_sound (hs : Sim P may s a w g) {xs ys : List AV} {vs : List Value} (hv : HReps P w g s.stores xs vs) (h : lendAll s xs = some (s', ys)) :
    ∃ g', Settles P may s a w g s' g' ∧ vs.length = ys.length ∧ ∀ (i : Nat) (c : AV) (u : Value), ys[i]? = some c → vs[i]? = some u → LRep P w g' s'.stores c u := by
  induction xs generalizing s' ys vs with
  | nil =>
    simp only [lendAll, Option.some.injEq, Prod.mk.injEq] at h
    obtain ⟨rfl, rfl⟩ := h
    exact ⟨g, .refl hs, hv.1, fun i c u hc => by simp at hc⟩
  | cons x r ih =>
    simp only [lendAll] at h
    split at h
    · cases h
    · rename_i s1 l hl
      obtain ⟨v, us, rfl, hx, hr⟩ := hv.split
      obtain ⟨g1, h1, h2, h3⟩ := ih hr hl
      have fin : ∀ {s2 : St} {y : AV} {g2 : Gh}, Settles P may s1 a w g1 s2 g2 → LRep P w g2 s2.stores y v →
          ∃ g', Settles P may s a w g s2 g' ∧ (v :: us).length = (y :: l).length ∧ ∀ (i : Nat) (c : AV) (u : Value), (y :: l)[i]? = some c → (v :: us)[i]? = some u → LRep P w g' s2.stores c u := by
        intro s2 y g2 k hy
        refine ⟨g2, h1.trans k, by simp [h2], fun i c u hc hu => ?_⟩
        cases i with
        | zero => simp at hc hu; subst hc; subst hu; exact hy
        | succ i => simp at hc hu; exact (h3 i c u hc hu).settles k
      split at h
      · simp only [Option.some.injEq, Prod.mk.injEq] at h
        obtain ⟨rfl, rfl⟩ := h
        exact fin (.refl h1.1) (.inl ⟨.arr _ _ _ _ _ _, rfl, fun l => by simp, fun l => by simp, h1.hrep (S := []) hx⟩)
      · simp only [Option.some.injEq, Prod.mk.injEq] at h
        obtain ⟨rfl, rfl⟩ := h
        exact fin (.refl h1.1) (.inl ⟨.ref _ _ _, rfl, fun l => by simp, fun l => by simp, h1.hrep (S := []) hx⟩)
      · split at h
        · rename_i s2 b hb
          simp only [Option.some.injEq, Prod.mk.injEq] at h
          obtain ⟨rfl, rfl⟩ := h
          obtain ⟨g2, k1, k2⟩ := resolve_sound h1.1 (h1.hrep (S := []) hx) hb
          exact fin k1 (.inr k2)
        · cases h
theorem shut_call {f : FuncId} {as : List AV} {S' : List Store} {r : AV} {s1 : St} {args : List AV} {vs : List Value} {d : Option Nat} (hs : Sim P may s a w g) (hm : ∀ b, w.heap.size ≤ b → may b) (hv : HReps P w g s.stores args vs)
    (hra : resolveAll s args = some (s1, as)) (hc : CallC P f as [] S' r) (hsh : r.shut = true) :
    Calls P f vs.toArray w fun e w' => ∃ v, e = .returned v ∧ Leaves P may s w g (bindA (if r.hasSl then s1 else s) d r) (a.put d v) w' := by
  obtain ⟨g1, k1, k2, k3⟩ := resolveAll_sound hs hv.1 hv.2 hra
  let g0 : Gh := { M := g1.M, B := fun _ _ => 0, C := fun _ _ => 0 }
  have hi0 : SInv P w g0 (fun b => w.heap.size ≤ b) [] := ⟨(fun i k cs h => by cases h), (fun i k e xs h => by cases h), (fun i k e xs h => by cases h), (fun i k o i' k' o' h => by cases h), k1.1.inv.mlt⟩
  refine (hc _ w g0 vs hi0 (fun b h => h) k2 fun i x v hx hv' => ?_).mono fun e w' ⟨v, g', he, hF, hI, _, hR⟩ => ⟨v, he, ?_⟩
  · exact (k3 i x v hx hv').hrep_any rfl
  · have hx : Ext w w' := ⟨hF.os, hF.tape, hF.output, hF.size, fun b hb => hF.heap b (by omega)⟩
    by_cases hsl : r.hasSl = true
    · rw [if_pos hsl]
      obtain ⟨q1, q2, q3⟩ := k1.1.grow hm hx (M' := g'.M) hF.sub (fun b o h hn => by
        refine ⟨Classical.byContradiction fun hb => hn (hF.new b o hb h), hI.mlt b o h⟩)
      have hR' : ResRep P may w' { g1 with M := g'.M } s1.stores r v := hR.shut hsh (.inr fun b o h => h) fun b hb hno => ⟨hm b hb, hno, fun i k o hg hl he => by
        have := (k1.1.inv.lt hg hl).1
        simp only at he hb
        omega⟩
      obtain ⟨g2, p1, p2, p3⟩ := bindA_sound q1 hR' d
      exact ⟨g2, p1, (k1.2.1.trans q2).trans p2, ((k1.2.2.1.trans q3).mono (by omega)).trans p3⟩
    · have hsl : r.hasSl = false := by simpa using hsl
      rw [if_neg (by simp [hsl])]
      obtain ⟨q1, q2, q3⟩ := hs.grow hm hx (M' := fun b o => g.M b o ∨ (w.heap.size ≤ b ∧ g'.M b o)) (fun b o h => .inl h) (fun b o h hn => by
        rcases h with h | ⟨h, h'⟩
        · exact absurd h hn
        · exact ⟨h, hI.mlt b o h'⟩)
      have hR' : ResRep P may w' { g with M := fun b o => g.M b o ∨ (w.heap.size ≤ b ∧ g'.M b o) } s.stores r v := hR.shut hsh (.inl hsl) fun b hb hno => by
        refine ⟨hm b hb, fun o h => ?_, fun i k o hg hl he => ?_⟩
        · rcases h with h | ⟨_, h⟩
          · have := hs.inv.mlt b o h; omega
          · exact hno o h
        · have := (hs.inv.lt hg hl).1
          simp only at he hb
          omega
      obtain ⟨g2, p1, p2, p3⟩ := bindA_sound q1 hR' d
      exact ⟨g2, p1, q2.trans p2, (q3.mono (by omega)).trans p3⟩
theorem open_call {f : FuncId} {as : List AV} {S' : List Store} {t : Store} {r : AV} {s1 : St} {args : List AV} {vs : List Value} {d : Option Nat} (hs : Sim P may s a w g) (hm : ∀ b, w.heap.size ≤ b → may b) (hv : HReps P w g s.stores args vs)
    (hra : lendAll s args = some (s1, as)) (hc : CallC P f as s1.stores (t :: S') r) :
    Calls P f vs.toArray w fun e w' => ∃ v, e = .returned v ∧ Leaves P may s w g (bindA { s1 with stores := t :: S' } d r) (a.put d v) w' := by
  obtain ⟨g1, k1, k2, k3⟩ := lendAll_sound hs hv hra
  refine (hc may w g1 vs k1.1.inv hm k2 fun i x v hx hv' => (k3 i x v hx hv').hrep).mono fun e w' ⟨v, g', he, hF, hI, hK, hR⟩ => ⟨v, he, ?_⟩
  have q1 : Sim P may { s1 with stores := t :: S' } a w' g' := k1.1.keep hF.sub hF.cell hK hI (by simp)
  obtain ⟨g2, p1, p2, p3⟩ := bindA_sound q1 hR d
  exact ⟨g2, p1, (k1.2.1.trans hF).trans p2, ((k1.2.2.1.trans hK).mono (by omega)).trans p3⟩
end
end Go.AbsM

/-! ## AbsRun -/
namespace Go.AbsM
section
variable {P : Program} {w w' : World} {g : Gh} {may : Nat → Prop} {s s' : St} {a : Act}
theorem Leaves.trans {s0 s1 s2 : St} {w0 w1 w2 : World} {g0 : Gh} {a1 a2 : Act} (h : Leaves P may s0 w0 g0 s1 a1 w1) (k : ∀ g1, Sim P may s1 a1 w1 g1 → Leaves P may s1 w1 g1 s2 a2 w2) : Leaves P may s0 w0 g0 s2 a2 w2 := by
  obtain ⟨g1, h1, h2, h3⟩ := h
  obtain ⟨g2, k1, k2, k3⟩ := k g1 h1
  exact ⟨g2, k1, h2.trans k2, h3.trans k3⟩
def OpWp (P : Program) (o : Oper) (s s' : St) : Prop :=
  ∀ (may : Nat → Prop) (a : Act) (w : World) (g : Gh), Sim P may s a w g → (∀ b, w.heap.size ≤ b → may b) → ∀ (next : Act → World → Prop) (Q : Exit → Act → World → Prop), (∀ a' w', Leaves P may s w g s' a' w' → next a' w') → o.wp P a w next Q
theorem opA_wp {o : Oper} (h : opA P s o = some s') : OpWp P o s s' := by
  intro may a w g hs hm next Q hn
  obtain ⟨w', h1 | h1⟩ := opA_sound hs hm h
  · obtain ⟨v, h1, h2⟩ := h1
    unfold Oper.wp; rw [h1]; exact hn _ _ h2
  · obtain ⟨h1, h2⟩ := h1
    unfold Oper.wp; rw [h1]; exact hn _ _ h2
theorem guardA_sound (hs : Sim P may s a w g) {ops : Array Oper} {o : Oper} {b : Bool} (h : guardA ops s o.guard = some b) : Region.wanted o (yielded ops a.tmps) = b := by
  unfold Region.wanted
  cases hg : o.guard with
  | none => rw [hg] at h; simp [guardA] at h; exact h.symm
  | some p =>
    obtain ⟨j, want⟩ := p
    rw [hg] at h
    simp only [guardA] at h
    split at h
    · rename_i t ht
      have hv := hs.get t
      have hy : yielded ops a.tmps j = match a.tmps[t]? with | some (.bool b) => some b | _ => none := by
        unfold yielded
        rw [ht]
        rfl
      split at h
      · rename_i c hc
        simp only [Option.some.injEq] at h
        rw [hc] at hv
        have := hv.inv_x.1
        have hsz : a.tmps[t]? = some (.bool c) := by
          rw [Array.getD_eq_getD_getElem?] at this
          cases hq : a.tmps[t]? with
          | none => rw [hq] at this; simp [undef] at this
          | some u => rw [hq] at this; simp at this; rw [this]
        simp only [hy, hsz, ← h]
        cases c <;> cases want <;> rfl
      · rename_i hc
        simp only [Option.some.injEq] at h
        rw [hc] at hv
        have hu : a.tmps.getD t undef = undef := hv
        have hn : yielded ops a.tmps j = none := by
          rw [hy]
          rw [Array.getD_eq_getD_getElem?] at hu
          cases hq : a.tmps[t]? with
          | none => rfl
          | some u => rw [hq] at hu; simp at hu; rw [hu]; rfl
        simp only [hn, ← h]
        cases want <;> rfl
      · cases h
    · cases h
theorem opsA_wp {st : Oper → St → Option St} (hst : ∀ (o : Oper) (s s' : St), st o s = some s' → OpWp P o s s') {ops : Array Oper} {Q : Exit → Act → World → Prop} {s0 s1 : St} {w0 : World} {g0 : Gh} (hm : ∀ b, w0.heap.size ≤ b → may b)
    (hQ : ∀ a' w', Leaves P may s0 w0 g0 s1 a' w' → Q .normal a' w') : ∀ (l : List Nat) (s : St) (a : Act) (w : World), opsA st ops l s = some s1 → Leaves P may s0 w0 g0 s a w → wpOps P ops Q l a w := by
  intro l
  induction l with
  | nil =>
    intro s a w h hl
    simp only [opsA, Option.some.injEq] at h; subst h
    exact hQ _ _ hl
  | cons i r ih =>
    intro s a w h hl
    simp only [opsA] at h
    simp only [wpOps]
    obtain ⟨g1, hs, hF, hK⟩ := hl
    have hl : Leaves P may s0 w0 g0 s a w := ⟨g1, hs, hF, hK⟩
    split at h
    · rename_i hi
      simp only [hi]
      exact ih s a w h hl
    · rename_i o hi
      simp only [hi]
      split at h
      · rename_i hg
        have hw := guardA_sound hs hg
        split at h
        · rename_i s2 h2
          rw [if_pos hw]
          refine .inl (hst o s s2 h2 may a w g1 hs (fun b hb => hm b (Nat.le_trans hF.size hb)) _ _ fun a' w' h' => ih s2 a' w' h ?_)
          obtain ⟨g2, k1, k2, k3⟩ := h'
          exact ⟨g2, k1, hF.trans k2, hK.trans k3⟩
        · cases h
      · rename_i hg
        have hw := guardA_sound hs hg
        rw [if_neg (by simp [hw])]
        refine ih _ _ w h ⟨g1, hs.put (x := .und) rfl o.dst, hF, ?_⟩
        rw [put_stores]; exact hK
      · cases h
structure EnvOk (P : Program) (E : Env) : Prop where
  fn : ∀ f fn, E.Φ f = some fn → P.funcs[f]? = some fn ∧ (fn.name == "runtime.NumGoroutine") = false
  ga : ∀ f args r, E.Γ f args = some r → (∃ fn c, P.funcs[f]? = some fn ∧ fn.body = some c ∧ (fn.name == "runtime.NumGoroutine") = false) ∧ ∀ S, CallC P f args S S r
  de : ∀ f args S S' r, E.Δ f args S = some (S', r) → (∃ fn c, P.funcs[f]? = some fn ∧ fn.body = some c ∧ (fn.name == "runtime.NumGoroutine") = false) ∧ CallC P f args S S' r
  wide : P.follows .mixedOrders = true
  draw : ∀ ops, E.ok ops = true → ∀ (rec : Rec) (s s1 : St) (t : Nat), opsA (fun o s => drawOp P E rec s o) ops (List.range ops.size) s = some s1 → opsA (fun o s => drawOp P E rec s o) ops (Region.schedule true ops t) s = some s1
  draw2 : ∀ ops, E.ok2 ops = true → ∀ (rec : Rec) (s s1 : St) (t : Nat), runL (ab2 (fun o s => drawIn P E rec s o) (newNames ops) ops) (List.range ops.size) s = some s1 → opsA (fun o s => drawIn P E rec s o) ops (Region.schedule true ops t) s = some s1
def Goes (P : Program) (t : Task) (Q : Exit → Act → World → Prop) (a : Act) (w : World) : Prop :=
  match t with
  | .code (.loop c) => ∀ (b : Frame) (k : List Item) (cs : List Frame), ∃ e a' w', Q e a' w' ∧ Arrives P (lone (b.at a (.code c :: .inLoop c :: k)) cs w) b k cs e a' w'
  | .code c => c.wp P Q a w
  | .within c rest => ∀ (b : Frame) (k : List Item) (cs : List Frame), ∃ e a' w', Q e a' w' ∧ Arrives P (lone (b.at a (.code rest :: .inScope c :: k)) cs w) b k cs e a' w'
def RecOk (P : Program) (rec : Rec) : Prop :=
  ∀ (t : Task) (s : St) (e : AExit) (s' : St), rec t s = some (e, s') → ∀ (may : Nat → Prop) (a : Act) (w : World) (g : Gh), Sim P may s a w g → (∀ b, w.heap.size ≤ b → may b) → Goes P t (Goal P may s w g e s') a w
theorem Goes.code {c : Code} {Q : Exit → Act → World → Prop} (h : Goes P (.code c) Q a w) : c.wp P Q a w := by
  cases c with
  | loop c =>
    intro b k cs
    obtain ⟨e, a', w', hq, harr⟩ := h b k cs
    exact ⟨e, a', w', hq, .of_steps (.one step_loop) harr⟩
  | _ => exact h
theorem RecOk.code {rec : Rec} (h : RecOk P rec) {c : Code} {e : AExit} (hr : rec (.code c) s = some (e, s')) : CodeOk P c s e s' := fun may a w g hs hm => (h _ _ _ _ hr may a w g hs hm).code
variable {E : Env}
theorem callA_sound (hE : EnvOk P E) {rec : Rec} (hrec : RecOk P rec) {f : FuncId} {args : List AV} {S S' : List Store} {r : AV} (h : callA P E rec f args S = some (S', r)) :
    (∃ fn c, P.funcs[f]? = some fn ∧ fn.body = some c ∧ (fn.name == "runtime.NumGoroutine") = false) ∧ CallC P f args S S' r := by
  unfold callA at h
  split at h
  · rename_i q hq
    simp only [Option.some.injEq, Prod.mk.injEq] at h
    obtain ⟨rfl, rfl⟩ := h
    obtain ⟨h1, h2⟩ := hE.ga _ _ _ hq
    exact ⟨h1, h2 S⟩
  · split at h
    · rename_i q hq
      simp only [Option.some.injEq] at h; subst h
      exact hE.de _ _ _ _ _ hq
    · split at h
      case h_2 => cases h
      rename_i fn hfn
      obtain ⟨hf, hname⟩ := hE.fn _ _ hfn
      split at h
      · rename_i c hc
        split at h
        · rename_i e s hb
          split at h
          · rename_i he
            split at h
            · rename_i l hl
              split at h
              · rename_i s1 l1 hse
                split at h
                · rename_i vs ho
                  split at h
                  · cases h
                  · rename_i t R hst
                    simp only [Option.some.injEq, Prod.mk.injEq] at h
                    obtain ⟨rfl, rfl⟩ := h
                    exact ⟨⟨fn, c, hf, hc, hname⟩, body_sound hf hc (hrec.code hb) he hl hse ho hst rfl⟩
                · cases h
              · cases h
            · cases h
          · cases h
        · cases h
      · cases h
theorem call_run {o : Oper} {c : Call} {f : FuncId} (ho : o.op = .call c) (hc : ∃ x, c.callee = .value x ∧ a.eval x = .func (.func f) #[] #[]) (hf : ∃ fn c, P.funcs[f]? = some fn ∧ fn.body = some c ∧ (fn.name == "runtime.NumGoroutine") = false) :
    (execOp a.eval o).run P w = .ok (.enter f (c.args.map a.eval)) w := by
  obtain ⟨fn, cd, h1, h2, h3⟩ := hf
  have hp : (callFunc f (c.args.map a.eval)).run P w = .ok (.enter f (c.args.map a.eval)) w := by
    simp only [callFunc, Sem.run_bind, run_program, Result.andThen_ok, h1, h3, h2]
    rfl
  obtain ⟨x, hc, hx⟩ := hc
  simp [execOp, ho, Go.resolve, hc, hx, Deferred.ofValue, invoke, hp]
theorem call_wp {o : Oper} {c : Call} {f : FuncId} (ho : o.op = .call c) (hc : ∃ x, c.callee = .value x ∧ a.eval x = .func (.func f) #[] #[]) (hf : ∃ fn c, P.funcs[f]? = some fn ∧ fn.body = some c ∧ (fn.name == "runtime.NumGoroutine") = false)
    {next : Act → World → Prop} {Q : Exit → Act → World → Prop} (h : Calls P f (c.args.map a.eval) w fun e w' => ∃ v, e = .returned v ∧ next (a.put o.dst v) w') : o.wp P a w next Q := by
  unfold Oper.wp
  rw [call_run ho hc hf]
  exact Calls.mono h fun e w' ⟨v, he, hn⟩ => by subst he; exact hn
theorem evalOs_reps (hs : Sim P may s a w g) {ps : Array Operand} {l : List AV} (h : evalOs s ps.toList = some l) : ∃ vs : List Value, ps.map a.eval = vs.toArray ∧ HReps P w g s.stores l vs := by
  obtain ⟨h1, h2⟩ := evalOs_sound hs h
  exact ⟨ps.toList.map a.eval, by rw [← Array.toList_map], h1, h2⟩
theorem calleeA_sound (hs : Sim P may s a w g) {c : Callee} {f : FuncId} (h : calleeA s c = some f) : ∃ x, c = .value x ∧ a.eval x = .func (.func f) #[] #[] := by
  unfold calleeA at h
  split at h
  · simp only [Option.some.injEq] at h; subst h
    exact ⟨_, rfl, rfl⟩
  · rename_i t
    refine ⟨_, rfl, ?_⟩
    have hg := hs.get t
    unfold funcOf at h
    split at h
    · rename_i f' x y he
      simp only [Option.some.injEq] at h; subst h
      rw [he] at hg
      obtain ⟨h1, h2⟩ := HRep.inv_x hg
      simp only [plain, Bool.and_eq_true, Array.isEmpty_iff] at h2
      obtain ⟨rfl, rfl⟩ := h2
      exact h1
    · cases h
  · cases h
theorem callOpA_wp (hE : EnvOk P E) {rec : Rec} (hrec : RecOk P rec) {o : Oper} {c : Call} {f : FuncId} (ho : o.op = .call c) (hc : calleeA s c.callee = some f) {as : List AV} (has : evalOs s c.args.toList = some as) (h : callOpA P E rec s o.dst f as = some s') : OpWp P o s s' := by
  intro may a w g hs hm next Q hn
  obtain ⟨vs, hvs, hreps⟩ := evalOs_reps hs has
  have hc := calleeA_sound hs hc
  unfold callOpA at h
  split at h
  · split at h
    · rename_i s1 bs hl
      split at h
      · rename_i t S r hcall
        simp only [Option.some.injEq] at h; subst h
        obtain ⟨hf, hcc⟩ := callA_sound hE hrec hcall
        refine call_wp ho hc hf ?_
        rw [hvs]
        exact (open_call hs hm hreps hl hcc).mono fun e w' ⟨v, he, hL⟩ => ⟨v, he, hn _ _ hL⟩
      · cases h
    · cases h
  · split at h
    · rename_i s1 bs hl
      split at h
      · rename_i S r hcall
        split at h
        · rename_i hsh
          simp only [Option.some.injEq] at h; subst h
          obtain ⟨hf, hcc⟩ := callA_sound hE hrec hcall
          refine call_wp ho hc hf ?_
          rw [hvs]
          exact (shut_call hs hm hreps hl hcc hsh).mono fun e w' ⟨v, he, hL⟩ => ⟨v, he, hn _ _ hL⟩
        · cases h
      · cases h
    · cases h
theorem stepOp_wp (hE : EnvOk P E) {rec : Rec} (hrec : RecOk P rec) {o : Oper} (h : stepOp P E rec s o = some s') : OpWp P o s s' := by
  unfold stepOp at h
  split at h
  · rename_i c ho
    split at h
    · rename_i f hc
      split at h
      · rename_i as has
        exact callOpA_wp hE hrec ho hc has h
      · cases h
    · exact opA_wp h
  · exact opA_wp h
theorem gotoIn_scope {l : Nat} {c rest : Code} {k : List Item} (h : findLabel c l = some rest) : gotoIn l (.inScope c :: k) = some (.code rest :: .inScope c :: k) := by simp [gotoIn, h]
theorem stepT_ok (hE : EnvOk P E) {rec : Rec} (hrec : RecOk P rec) (hq : ∀ (o : Oper) (s s' : St), drawOp P E rec s o = some s' → OpWp P o s s') (hq2 : ∀ (o : Oper) (s s' : St), drawIn P E rec s o = some s' → OpWp P o s s') : RecOk P (stepT P E rec) := by
  intro t s e s' h may a w g hs hm
  have self : ∀ {a' : Act} {w' : World}, a' = a → w' = w → Leaves P may s w g s a' w' := fun h1 h2 => by subst h1; subst h2; exact .same hs rfl
  unfold stepT at h
  split at h
  ·
    simp only [Option.some.injEq, Prod.mk.injEq] at h; obtain ⟨rfl, rfl⟩ := h
    exact wp_skip ⟨rfl, self rfl rfl⟩
  · simp only [Option.some.injEq, Prod.mk.injEq] at h; obtain ⟨rfl, rfl⟩ := h
    exact wp_label ⟨rfl, self rfl rfl⟩
  ·
    rename_i id ops
    split at h
    · rename_i s1 h1
      simp only [Option.some.injEq, Prod.mk.injEq] at h; obtain ⟨rfl, rfl⟩ := h
      exact wp_region (opsA_wp (fun o s s' h => stepOp_wp hE hrec h) hm (fun a' w' hl => ⟨rfl, hl⟩) _ _ _ _ h1 (self rfl rfl))
    · cases h
  · rename_i id ops
    split at h
    · rename_i hok
      split at h
      · rename_i s1 h1
        simp only [Option.some.injEq, Prod.mk.injEq] at h; obtain ⟨rfl, rfl⟩ := h
        refine wp_region_draw fun t => ?_
        rw [hE.wide]
        have h2 := hE.draw ops hok rec s _ t h1
        have hd : Ext w { w with drawn := w.drawn + 1 } := Ext.drew w
        obtain ⟨q1, q2, q3⟩ := hs.grow hm hd (M' := g.M) (fun b o h => h) (fun b o h hn => absurd h hn)
        exact opsA_wp hq hm (fun a' w' hl => ⟨rfl, hl⟩) _ _ _ _ h2 ⟨_, q1, q2, q3.mono (by omega)⟩
      · cases h
    · split at h
      · rename_i hok
        split at h
        · rename_i s1 h1
          simp only [Option.some.injEq, Prod.mk.injEq] at h; obtain ⟨rfl, rfl⟩ := h
          refine wp_region_draw fun t => ?_
          rw [hE.wide]
          have h2 := hE.draw2 ops hok rec s _ t h1
          have hd : Ext w { w with drawn := w.drawn + 1 } := Ext.drew w
          obtain ⟨q1, q2, q3⟩ := hs.grow hm hd (M' := g.M) (fun b o h => h) (fun b o h hn => absurd h hn)
          exact opsA_wp hq2 hm (fun a' w' hl => ⟨rfl, hl⟩) _ _ _ _ h2 ⟨_, q1, q2, q3.mono (by omega)⟩
        · cases h
      · cases h
  ·
    rename_i x y
    split at h
    · rename_i s1 h1
      refine wp_seq (wp_mono ((hrec _ _ _ _ h1 may a w g hs hm).code) fun ex a1 w1 ⟨hx, hl⟩ => ?_)
      subst hx
      obtain ⟨g1, k1, k2, k3⟩ := hl
      refine wp_mono ((hrec _ _ _ _ h may a1 w1 g1 k1 fun b hb => hm b (Nat.le_trans k2.size hb)).code) fun ex a2 w2 ⟨hx, hl2⟩ => ⟨hx, ?_⟩
      obtain ⟨g2, q1, q2, q3⟩ := hl2
      exact ⟨g2, q1, k2.trans q2, k3.trans q3⟩
    · rename_i hno
      refine wp_seq (wp_mono ((hrec _ _ _ _ h may a w g hs hm).code) fun ex a1 w1 ⟨hx, hl⟩ => ?_)
      subst hx
      cases e with
      | normal => exact absurd h (hno _)
      | exit id => exact ⟨rfl, hl⟩
      | goto l => exact ⟨rfl, hl⟩
      | ret => exact ⟨rfl, hl⟩
  ·
    rename_i c x y
    split at h
    · rename_i t ht
      have := (hs.evalO ht).inv_x.1
      exact wp_cond this ((hrec _ _ _ _ h may a w g hs hm).code)
    · cases h
  ·
    rename_i id c
    split at h
    · rename_i i s1 h1
      refine wp_block (wp_mono ((hrec _ _ _ _ h1 may a w g hs hm).code) fun ex a1 w1 ⟨hx, hl⟩ => ?_)
      subst hx
      simp only [AExit.toExit, Exit.inBlock]
      split at h
      · rename_i hid
        simp only [Option.some.injEq, Prod.mk.injEq] at h; obtain ⟨rfl, rfl⟩ := h
        rw [if_pos hid]; exact ⟨rfl, hl⟩
      · rename_i hid
        simp only [Option.some.injEq, Prod.mk.injEq] at h; obtain ⟨rfl, rfl⟩ := h
        rw [if_neg hid]; exact ⟨rfl, hl⟩
    · rename_i hno
      refine wp_block (wp_mono ((hrec _ _ _ _ h may a w g hs hm).code) fun ex a1 w1 ⟨hx, hl⟩ => ?_)
      subst hx
      cases e with
      | exit id => exact absurd h (hno _ _)
      | normal => exact ⟨rfl, hl⟩
      | goto l => exact ⟨rfl, hl⟩
      | ret => exact ⟨rfl, hl⟩
  ·
    rename_i c
    split at h
    · rename_i s1 h1
      intro b k cs
      obtain ⟨ex, a1, w1, ⟨hx, hl⟩, harr⟩ := (hrec _ _ _ _ h1 may a w g hs hm).code b (.inLoop c :: k) cs
      subst hx
      obtain ⟨g1, k1, k2, k3⟩ := hl
      obtain ⟨ex, a2, w2, ⟨hx, hl2⟩, harr2⟩ := hrec _ _ _ _ h may a1 w1 g1 k1 (fun b hb => hm b (Nat.le_trans k2.size hb)) b k cs
      obtain ⟨g2, q1, q2, q3⟩ := hl2
      exact ⟨ex, a2, w2, ⟨hx, g2, q1, k2.trans q2, k3.trans q3⟩, .of_steps (Steps.trans harr (.one step_inLoop)) harr2⟩
    · rename_i hno
      intro b k cs
      obtain ⟨ex, a1, w1, ⟨hx, hl⟩, harr⟩ := (hrec _ _ _ _ h may a w g hs hm).code b (.inLoop c :: k) cs
      subst hx
      cases e with
      | normal => exact absurd h (hno _)
      | exit id => exact ⟨_, a1, w1, ⟨rfl, hl⟩, .pass (x := .inLoop c) rfl (fun _ _ => .inl (by simp [AExit.toExit])) harr⟩
      | goto l => exact ⟨_, a1, w1, ⟨rfl, hl⟩, .pass (x := .inLoop c) rfl (fun _ _ => .inl (by simp [AExit.toExit])) harr⟩
      | ret => exact ⟨_, a1, w1, ⟨rfl, hl⟩, .pass (x := .inLoop c) rfl (fun _ _ => .inl (by simp [AExit.toExit])) harr⟩
  · simp only [Option.some.injEq, Prod.mk.injEq] at h; obtain ⟨rfl, rfl⟩ := h
    exact wp_exit ⟨rfl, self rfl rfl⟩
  · simp only [Option.some.injEq, Prod.mk.injEq] at h; obtain ⟨rfl, rfl⟩ := h
    exact wp_goto ⟨rfl, self rfl rfl⟩
  · simp only [Option.some.injEq, Prod.mk.injEq] at h; obtain ⟨rfl, rfl⟩ := h
    exact wp_ret ⟨rfl, self rfl rfl⟩
  ·
    rename_i c
    intro b k cs
    obtain ⟨ex, a1, w1, hq, harr⟩ := hrec _ _ _ _ h may a w g hs hm b k cs
    exact ⟨ex, a1, w1, hq, .of_steps (.one step_scope) harr⟩
  ·
    rename_i c rest
    split at h
    · rename_i l s1 h1
      intro b k cs
      obtain ⟨ex, a1, w1, ⟨hx, hl⟩, harr⟩ := (hrec _ _ _ _ h1 may a w g hs hm).code b (.inScope c :: k) cs
      subst hx
      split at h
      · rename_i rest1 hf
        obtain ⟨g1, k1, k2, k3⟩ := hl
        obtain ⟨ex, a2, w2, ⟨hx, hl2⟩, harr2⟩ := hrec _ _ _ _ h may a1 w1 g1 k1 (fun b hb => hm b (Nat.le_trans k2.size hb)) b k cs
        obtain ⟨g2, q1, q2, q3⟩ := hl2
        exact ⟨ex, a2, w2, ⟨hx, g2, q1, k2.trans q2, k3.trans q3⟩, .of_steps (harr _ (gotoIn_scope hf)) harr2⟩
      · rename_i hf
        simp only [Option.some.injEq, Prod.mk.injEq] at h; obtain ⟨rfl, rfl⟩ := h
        exact ⟨_, a1, w1, ⟨rfl, hl⟩, fun k' hk => harr k' (by simp [gotoIn, hf, hk])⟩
    · rename_i hno
      intro b k cs
      obtain ⟨ex, a1, w1, ⟨hx, hl⟩, harr⟩ := (hrec _ _ _ _ h may a w g hs hm).code b (.inScope c :: k) cs
      subst hx
      cases e with
      | normal => exact ⟨_, a1, w1, ⟨rfl, hl⟩, Steps.trans harr (.one step_inScope)⟩
      | exit id => exact ⟨_, a1, w1, ⟨rfl, hl⟩, fun k' hk => harr k' (by simp [exitTo, hk])⟩
      | goto l => exact absurd h (hno _ _)
      | ret => exact ⟨_, a1, w1, ⟨rfl, hl⟩, harr⟩
  · cases h
  · cases h
end
end Go.AbsM

/-! ## AbsQuiet -/
namespace Go.AbsM
section
variable {P : Program} {w w' : World} {g : Gh} {may : Nat → Prop} {s s' : St} {a : Act} {E : Env}
theorem ORep.unown {may0 : Nat → Prop} {g0 g2 : Gh} {S0 S2 : List Store} {x : AV} {v : Value} {b : Nat} (h : ORep P may0 w g0 S0 x v b) (hx : x.shut1 = true) (hM : x.flat2 = true ∨ ∀ b o, g0.M b o → g2.M b o)
    (hb : ∀ b o, may0 b → b < w.heap.size → g2.M b o) : HRep1 P w g2 S2 x.unown v := by
  by_cases ho : ∃ e xs, x = .own e xs
  · obtain ⟨e, xs, rfl⟩ := ho
    obtain ⟨h1, h2, h3, h4⟩ := h
    rcases h4 with ⟨hbx, he, cur, us, cap, c, rfl, q2, q3, q4, q5, q6, q7, q8, q9, q10⟩ | ⟨hbx, _⟩
    case inr =>
      have : AV.unown (.own e xs) = .dead := by simp only [AV.unown, hbx]
      rw [this]; exact trivial
    have hu : AV.unown (.own e xs) = .sl e xs := by simp only [AV.unown, hbx]
    rw [hu]
    have hr : RepL P w g2.M e xs us := by
      rcases hM with hM | hM
      · exact q9.flat1 hM
      · exact q9.mono hM (fun _ _ _ => rfl)
    refine HRep1.of_rep (Rep.sl rfl hr.1 q2 q3 he hr.2.1 hr.2.2 fun _ => ⟨b, 0, rfl, fun j cv hj => ⟨?_, hb _ _ h1 (lt_of_heap q5)⟩⟩)
    rw [Nat.zero_add, cell_of_row w b j cur.toArray e (0, 0) q5]
    rw [← q10, List.getElem?_take] at hj
    split at hj
    · simpa using hj
    · cases hj
  · have h' : HRep1 P w g0 S0 x v := by cases x <;> first | exact h | exact absurd ⟨_, _, rfl⟩ ho
    have hr := h'.shut hx fun e xs he => ho ⟨e, xs, he⟩
    have : Rep P w g2.M x v := by
      rcases hM with hM | hM
      · exact hr.flat1 (by cases x <;> first | exact hM | exact absurd ⟨_, _, rfl⟩ ho)
      · exact hr.mono hM (fun _ _ _ => rfl)
    have h2 := HRep1.of_rep (S := S2) this
    cases x <;> first | exact h2 | exact absurd ⟨_, _, rfl⟩ ho
theorem ResRep.unown {may0 : Nat → Prop} {g0 g2 : Gh} {S0 S2 : List Store} {r : AV} {v : Value} (h : ResRep P may0 w g0 S0 r v) (hx : r.shut = true) (hM : r.hasSl = false ∨ ∀ b o, g0.M b o → g2.M b o)
    (hb : ∀ b o, may0 b → b < w.heap.size → g2.M b o) : HRep P w g2 S2 r.unowns v := by
  by_cases ht : ∃ as, r = .tup as
  · obtain ⟨as, rfl⟩ := ht
    obtain ⟨vs, rfl, hl, bl, h1, h2⟩ := h
    refine ⟨vs, rfl, by simpa using hl, fun i c u hc hu => ?_⟩
    simp only [List.getElem?_map, Option.map_eq_some_iff] at hc
    obtain ⟨c', hc, rfl⟩ := hc
    refine (h1 i c' u hc hu).unown (List.all_eq_true.1 hx c' (List.mem_of_getElem? hc)) ?_ hb
    rcases hM with hM | hM
    · refine .inl ?_
      simp only [AV.hasSl, Bool.not_eq_false'] at hM
      exact List.all_eq_true.1 hM c' (List.mem_of_getElem? hc)
    · exact .inr hM
  · obtain ⟨b, ho⟩ : ∃ b, ORep P may0 w g0 S0 r v b := by cases r <;> first | exact h | exact absurd ⟨_, rfl⟩ ht
    have h2 := ho.unown (g2 := g2) (S2 := S2) (by cases r <;> first | exact hx | exact absurd ⟨_, rfl⟩ ht) (by
      rcases hM with hM | hM
      · refine .inl ?_
        cases r <;> first | exact absurd ⟨_, rfl⟩ ht | (simp only [AV.hasSl, Bool.not_eq_false'] at hM; exact hM)
      · exact .inr hM) hb
    have hu : r.unowns = r.unown := by cases r <;> first | rfl | exact absurd ⟨_, rfl⟩ ht
    rw [hu]
    refine HRep.of_one h2 fun l e => ?_
    rw [e] at h2; exact h2.elim
theorem OpWp.of {o : Oper} (h : ∀ (may : Nat → Prop) (a : Act) (w : World) (g : Gh), Sim P may s a w g → (∀ b, w.heap.size ≤ b → may b) → OpOk P may s a w g s' o) : OpWp P o s s' := by
  intro may a w g hs hm next Q hn
  obtain ⟨w', h1 | h1⟩ := h may a w g hs hm
  · obtain ⟨v, h1, h2⟩ := h1
    unfold Oper.wp; rw [h1]; exact hn _ _ h2
  · obtain ⟨h1, h2⟩ := h1
    unfold Oper.wp; rw [h1]; exact hn _ _ h2
end
end Go.AbsM

/-! ## AbsOrder -/
namespace Go.AbsM
section
variable {ops : Array Oper} {st : Oper → St → Option St}
def AnyA (ab : Nat → St → Option St) (ops : Array Oper) : Nat → Array Bool → St → St → Prop
  | 0, listed, s, s' => Region.ready .any ops listed = [] ∧ s = s'
  | n + 1, listed, s, s' => (Region.ready .any ops listed = [] → s = s') ∧ ∀ i ∈ Region.ready .any ops listed, ∃ s1, ab i s = some s1 ∧ AnyA ab ops n (listed.setIfInBounds i true) s1 s'
def Comm (ab : Nat → St → Option St) (i j : Nat) : Prop := ∀ s si sij, ab i s = some si → ab j si = some sij → ∃ sj, ab j s = some sj ∧ ab i sj = some sij
theorem getD_true_of {R : Array Bool} {j : Nat} (hj : j < R.size) (h : R.getD j false ≠ true) : R.getD j true = false := by
  simp [hj] at h ⊢; exact h
theorem AnyA.first {ab : Nat → St → Option St} {i : Nat} {R listed0 : Array Bool} (hsz : R.size = ops.size) (hcl : ∀ j, j ∈ Region.ready .any ops R → j = i) (hcomm : ∀ j, R.getD j false = true → listed0.getD j true = false → Comm ab i j) :
    ∀ (fuel : Nat) (listed : Array Bool) (s s1 s' : St), (∀ j, listed.getD j false = true → R.getD j false = true) → (∀ j, listed.getD j true = false → listed0.getD j true = false) → i ∈ Region.ready .any ops listed → ab i s = some s1 →
      AnyA ab ops fuel (listed.setIfInBounds i true) s1 s' → AnyA ab ops (fuel + 1) listed s s' := by
  intro fuel
  induction fuel with
  | zero =>
    intro listed s s1 s' hR h0 hi hab H
    refine ⟨fun h => (by rw [h] at hi; cases hi), fun j hj => ?_⟩
    by_cases hji : j = i
    · subst hji; exact ⟨s1, hab, H⟩
    · have := ready_mono hj hji
      rw [H.1] at this
      cases this
  | succ fuel ih =>
    intro listed s s1 s' hR h0 hi hab H
    refine ⟨fun h => (by rw [h] at hi; cases hi), fun j hj => ?_⟩
    by_cases hji : j = i
    · subst hji; exact ⟨s1, hab, H⟩
    · obtain ⟨s2, h2, H2⟩ := H.2 j (ready_mono hj hji)
      obtain ⟨hjun, oj, hoj, hall⟩ := mem_ready.1 hj
      have hjsz : j < ops.size := (Array.getElem?_eq_some_iff.1 hoj).1
      have hjR : R.getD j false = true := Classical.byContradiction fun hn => hji (hcl j (mem_ready.2 ⟨getD_true_of (by omega) hn, oj, hoj, fun e he hb => hR _ (hall e he hb)⟩))
      obtain ⟨sj, q1, q2⟩ := hcomm j hjR (h0 j hjun) s s1 s2 hab h2
      refine ⟨sj, q1, ih (listed.setIfInBounds j true) sj s2 s' (fun m hm => ?_) (fun m hm => ?_) (ready_mono hi (Ne.symm hji)) q2 ?_⟩
      · by_cases hmj : j = m
        · subst hmj; exact hjR
        · rw [getD_set_ne false hmj] at hm; exact hR m hm
      · by_cases hmj : j = m
        · subst hmj; exact h0 j hjun
        · rw [getD_set_ne true hmj] at hm; exact h0 m hm
      · rw [Array.setIfInBounds_comm _ _ hji]
        exact H2
def around (ops : Array Oper) (i : Nat) : Nat → Array Bool → Array Bool
  | 0, R => R
  | n + 1, R => match (Region.ready .any ops R).filter (fun j => j != i) with
    | [] => R
    | js => around ops i n (js.foldl (fun R j => R.setIfInBounds j true) R)
def commB (solo : Oper → Bool) (ops : Array Oper) (i j : Nat) : Bool :=
  match ops[i]?, ops[j]? with
  | some x, some y => !solo x && !solo y && Oper.apart ops x y
  | _, _ => false
def checkAt (solo : Oper → Bool) (ops : Array Oper) (i : Nat) (listed : Array Bool) : Bool :=
  let R := around ops i ops.size listed
  R.size == ops.size && (Region.ready .any ops R).all (· == i) && (List.range ops.size).all fun j => (!listed.getD j false || R.getD j false) && (!R.getD j false || listed.getD j true || commB solo ops i j)
def drawFrom (solo : Oper → Bool) (ops : Array Oper) : Nat → Nat → Array Bool → Bool
  | 0, _, listed => (Region.ready .any ops listed).isEmpty
  | n + 1, k, listed => (Region.ready .any ops listed).contains k && checkAt solo ops k listed && drawFrom solo ops n (k + 1) (listed.setIfInBounds k true)
def drawB (solo : Oper → Bool) (ops : Array Oper) : Bool := drawFrom solo ops ops.size 0 (Array.replicate ops.size false)
def Dep (st : Oper → St → Option St) (ops : Array Oper) (o : Oper) : Prop :=
  ∀ (s s1 : St), st o s = some s1 → ∃ v, s1 = s.put o.dst v ∧ ∀ s' : St, s'.stores = s.stores → (∀ t, t ∈ o.looksAt ops → s'.get t = s.get t) → st o s' = some (s'.put o.dst v)
end
end Go.AbsM

/-! ## FnSched7 -/
namespace Go.FM
noncomputable section
variable [Env]
section
variable {Pr : Program} {D nt gl : Nat} {ops : Array Oper} {X : Nat → Prop} {x : Tc} {p : Nat} {g0 g g' : Gm} {w0 w w' : World} {a : Act} {j : Nat} {o : Oper} {u : Value} {cl : Cl}
theorem SI.opnd (hst : Stat Pr D nt gl ops) (hgl : GlOk nt gl) (hT : TrOk Pr D nt gl ops x ops.toList.length) (h : SI Pr D nt gl ops X x p g0 w0 g a w) (hr : Ready ops X j o) {q : Nat} (hu : q ∈ usesOf ops o) :
    TRep g (x.C ops.toList.length) ((Go.FM.opnd gl (regAt ops j) (.tmp q)).ev (x.T j) (x.F j)) (a.tmps.getD q undef) := by
  have hjl : j < ops.toList.length := (List.getElem?_eq_some_iff.1 hr.1).1
  by_cases hq : q < nt
  · exact (h.tmps.reads hst h.done hr hgl hT hq hu).opnd
  · have e : Go.FM.opnd gl (regAt ops j) (.tmp q) = .c .dead := by
      unfold Go.FM.opnd
      simp only
      cases hi : idx q (regAt ops j) with
      | some k => exact absurd (reg_lt hT j (Nat.le_of_lt hjl) q (idx_mem hi)) hq
      | none =>
        cases hb : Nat.testBit gl q with
        | true => exact absurd (hgl.2 q hb) hq
        | false => rfl
    rw [e]
    exact trivial
theorem SI.opr (hst : Stat Pr D nt gl ops) (hgl : GlOk nt gl) (hT : TrOk Pr D nt gl ops x ops.toList.length) (h : SI Pr D nt gl ops X x p g0 w0 g a w) (hr : Ready ops X j o) :
    Opr gl (regAt ops j) g (x.C ops.toList.length) (x.T j) (x.F j) a.eval o.op := by
  intro y hy
  cases y with
  | tmp q =>
    refine h.opnd hst hgl hT hr ?_
    unfold usesOf
    exact List.mem_append_left _ (List.mem_filterMap.2 ⟨.tmp q, by simpa using hy, rfl⟩)
  | const v => exact TRep.of_val (constV_ok v)
  | func fn => exact ⟨fun p hp => by simp at hp, by simp [Act.eval]⟩
  | global n => exact trivial
theorem SI.guard (hst : Stat Pr D nt gl ops) (hgl : GlOk nt gl) (hT : TrOk Pr D nt gl ops x ops.toList.length) (h : SI Pr D nt gl ops X x p g0 w0 g a w) (hr : Ready ops X j o) :
    Region.wanted o (yielded ops a.tmps) = x.B j := by
  have hjl : j < ops.toList.length := (List.getElem?_eq_some_iff.1 hr.1).1
  refine guard_ok (hT.step j o hjl hr.1).grd fun k want q h1 h2 => h.opnd hst hgl hT hr ?_
  unfold usesOf
  rw [h1]
  simp only
  rw [h2]
  simp
theorem SI.oprC (hst : Stat Pr D nt gl ops) (hgl : GlOk nt gl) (hT : TrOk Pr D nt gl ops x ops.toList.length) (h : SI Pr D nt gl ops X x p g0 w0 g a w) (hr : Ready ops X j o) (hpj : p ≤ j)
    (hk : kdF (foAt Pr D nt gl ops j o) = .new ∨ kdF (foAt Pr D nt gl ops j o) = .eff) : Opr gl (regAt ops j) g (x.C j) (x.T j) (x.F j) a.eval o.op := by
  have hjl : j < ops.toList.length := (List.getElem?_eq_some_iff.1 hr.1).1
  have hc := (hT.step j o hjl hr.1).chk hk
  intro y hy
  have hy1 := h.opr hst hgl hT hr y hy
  unfold chkAt at hc
  cases hl : laterN (ancOf ops) j 0 (kdsOf Pr D nt gl ops) with
  | false => exact hy1.lower (h.below hst hT hr hpj hl)
  | true =>
    rw [hl, if_pos rfl, evs_eq] at hc
    simp only [underA, List.all_eq_true, List.mem_map] at hc
    refine hy1.under (hc _ ⟨_, ?_, rfl⟩)
    exact List.mem_map.2 ⟨y, by simpa using hy, rfl⟩
theorem HOk.nil {c : Nat} (hc : c ≤ 4 ^ D) (hk : ∀ b o, Env.keep b = some o → w.heap[b]? = some o) : HOk D g .nil c w :=
  ⟨deep_nil D, hc, ⟨fun k pre b hk => (by rw [hp_nil] at hk; cases hk), fun k b hk => (by rw [hp_nil] at hk; cases hk), fun k b j pre b' hk => (by rw [hp_nil] at hk; cases hk), fun k pre b k' pre' b' hk => (by rw [hp_nil] at hk; cases hk), fun k hk => absurd (hp_nil D k) hk, fun k p b hk => (by rw [hp_nil] at hk; cases hk)⟩, fun b o hb => ⟨hk b o hb, fun ⟨k, pre, bd, hk, _⟩ => by rw [hp_nil] at hk; cases hk⟩⟩
theorem HOk.up {h : HT} {c c' : Nat} (hi : HOk D g h c w) (hc : c ≤ c') (hc' : c' ≤ 4 ^ D) : HOk D g h c' w :=
  ⟨hi.deep, hc', ⟨fun k pre b hk => (hi.inv.own k pre b hk).mono (fun _ _ => rfl) hc rfl, fun k b hk => (hi.inv.sh k b hk).mono (fun _ _ => rfl) hc rfl, hi.inv.apart, hi.inv.inj, fun k hk => Nat.lt_of_lt_of_le (hi.inv.lt k hk) hc, fun k p b hk => Nat.le_trans (hi.inv.pre k p b hk) hc⟩, hi.kp⟩
theorem SI.step (hcl : ClOk Pr D cl) (hst : Stat Pr D nt gl ops) (hgl : GlOk nt gl) (hT : TrOk Pr D nt gl ops x ops.toList.length) (htop : x.C ops.toList.length ≤ 4 ^ D) (h : SI Pr D nt gl ops X x p g0 w0 g a w) (hr : Ready ops X j o)
    {next : Act → World → Prop} {Q : Exit → Act → World → Prop} (hn : ∀ p' g' a' w', SI Pr D nt gl ops (fun i => X i ∨ i = j) x p' g0 w0 g' a' w' → next a' w') :
    (x.B j = true → o.wp Pr a w next Q) ∧ (x.B j = false → next (a.put o.dst undef) w) := by
  have hjl : j < ops.toList.length := (List.getElem?_eq_some_iff.1 hr.1).1
  have hs := hT.step j o hjl hr.1
  have hmain := h.heap.main
  have hcp : ∀ {m}, m ≤ ops.toList.length → x.C m ≤ x.C ops.toList.length := fun hm => le_C hT hm (Nat.le_refl _)
  have light : ∀ {hh : HT}, kdF (foAt Pr D nt gl ops j o) = .pure ∨ kdF (foAt Pr D nt gl ops j o) = .read → x.B j = true → valG (foAt Pr D nt gl ops j o) (x.T j) (x.F j) hh = x.V j → HOk D g hh (x.C ops.toList.length) w → o.wp Pr a w next Q := by
    intro hh hk hb hv hok
    have hg := hs.grd
    rw [hb] at hg
    obtain ⟨u, hrun, hrep⟩ := light_at hcl (light_kd.2 hk) (by rw [show valG (compG Pr D ops nt gl (regAt ops j) o) (x.T j) (x.F j) hh = x.V j from hv]; exact hs.live) hg (x.C ops.toList.length) a w g (h.opr hst hgl hT hr) hok
    unfold Oper.wp
    rw [hrun]
    refine hn p g _ _ (h.light hst hgl hT hr (fun e => ?_) (fun e => ?_) ?_)
    · have := e.2; rcases hk with hk | hk <;> rw [hk] at this <;> cases this
    · have := e.2.1; rcases hk with hk | hk <;> rw [hk] at this <;> cases this
    · rw [← hv]; exact hrep
  constructor
  · intro hb
    cases hk : kdF (foAt Pr D nt gl ops j o) with
    | pure =>
      refine light (hh := .nil) (.inl hk) hb ?_ (HOk.nil htop fun b o e => (hmain.kp b o e).1)
      rw [(hs.light (light_kd.2 (.inl hk))).1]
      exact valG_pure hk _ _
    | read =>
      obtain ⟨c1, c2⟩ := h.counts hst hr
      exact light (hh := x.H p) (.inr hk) hb (hT.read j o hjl hr.1 hk p h.pos.mark c1 c2) (hmain.up (hcp h.pos.le) htop)
    | new =>
      obtain ⟨q, e1, e2, e3, e4⟩ := hs.al hk hb
      have hnew : IsNew Pr D nt gl ops x j o := ⟨hr.1, hk, hb⟩
      have hpj : p ≤ j := by
        rcases h.pos.last with e | ⟨e, oe, f1, f2, f3⟩
        · omega
        · rcases Nat.lt_trichotomy e j with q | q | q
          · omega
          · subst q; exact absurd f2 hr.2.1
          · rcases hst.pair j e o oe hr.1 f3.1 q with q' | ⟨_, _, q'⟩
            · exact absurd (h.done.anc hst e f2 j q') hr.2.1
            · exact absurd ⟨f3.2, .inr hk⟩ q'
      exact e4 a w g (h.oprC hst hgl hT hr hpj (.inl hk)) (HOk.nil (Nat.le_of_lt e2) fun b o e => (hmain.kp b o e).1) next Q fun u w' g' q1 q2 q3 => hn p g' _ _ (h.new hst hgl hT hr hnew e3 q1 q2 q3)
    | eff =>
      have he : IsEff Pr D nt gl ops j o := ⟨hr.1, hk⟩
      obtain ⟨hpj, hne, hnew⟩ := h.before hst hr he
      obtain ⟨m1, _⟩ := merge hT h.heap hpj (Nat.le_of_lt hjl) hne (fun i o' _ h2 h3 => hnew i o' h2 h3) h.kpn
      exact hs.on hb a w g (h.oprC hst hgl hT hr hpj (.inr hk)) m1 next Q fun u w' g' q1 q2 q3 => hn (j + 1) g' _ _ (h.eff hst hgl hT hr he q1 q2 q3)
  · intro hb
    obtain ⟨e1, e2, e3⟩ := hs.off hb
    cases hk : kdF (foAt Pr D nt gl ops j o) with
    | eff =>
      have he : IsEff Pr D nt gl ops j o := ⟨hr.1, hk⟩
      obtain ⟨hpj, hne, hnew⟩ := h.before hst hr he
      obtain ⟨m1, _⟩ := merge hT h.heap hpj (Nat.le_of_lt hjl) hne (fun i o' _ h2 h3 => hnew i o' h2 h3) h.kpn
      refine hn (j + 1) g _ _ (h.eff hst hgl hT hr he (by rw [e2, e3]; exact m1) (by rw [e2, e3]; exact Post.refl m1.inv) (by rw [e1]; exact rfl))
    | _ =>
      refine hn p g _ _ (h.light hst hgl hT hr (fun e => ?_) (fun e => ?_) (by rw [e1]; exact rfl))
      · have := e.2; rw [hk] at this; cases this
      · have := e.2.2; rw [hb] at this; cases this
end
end
end Go.FM

/-! ## FnSched8 -/
namespace Go.FM
noncomputable section
variable [Env]
def XL (listed : Array Bool) (i : Nat) : Prop := listed.getD i false = true
theorem XL_set {listed : Array Bool} {j : Nat} (hj : j < listed.size) : XL (listed.setIfInBounds j true) = fun i => XL listed i ∨ i = j := by
  funext i
  apply propext
  unfold XL
  simp only [Array.getD_eq_getD_getElem?, Array.getElem?_setIfInBounds]
  by_cases h : j = i
  · subst h; simp [hj]
  · simp only [h, if_false]
    constructor
    · exact .inl
    · rintro (q | q)
      · exact q
      · exact absurd q.symm h
section
variable {Pr : Program} {D nt gl : Nat} {ops : Array Oper} {x : Tc} {g0 : Gm} {w0 : World} {cl : Cl} {Q : Exit → Act → World → Prop}
def rsOf (ops : Array Oper) (listed : Array Bool) : List Nat := (List.range ops.size).filter fun i => !listed.getD i true && ((ops[i]?).map (·.after.all fun e => !Region.binds .any e || listed.getD e.on false)).getD false
theorem rs_ready {listed : Array Bool} {i : Nat} (hi : i ∈ rsOf ops listed) : i < ops.size ∧ ∃ o, ops[i]? = some o ∧ Ready ops (XL listed) i o := by
  unfold rsOf at hi
  rw [List.mem_filter] at hi
  obtain ⟨h1, h2⟩ := hi
  have hlt : i < ops.size := List.mem_range.1 h1
  simp only [Bool.and_eq_true, Bool.not_eq_true'] at h2
  obtain ⟨h2, h3⟩ := h2
  have ho : ops[i]? = some ops[i] := Array.getElem?_eq_getElem hlt
  rw [ho] at h3
  simp only [Option.map_some, Option.getD_some] at h3
  refine ⟨hlt, ops[i], ho, by rw [Array.getElem?_toList]; exact ho, fun hx => ?_, fun e he hb => ?_⟩
  · unfold XL at hx
    rw [Array.getD_eq_getD_getElem?] at hx h2
    cases hl : listed[i]? with
    | none => rw [hl] at h2; cases h2
    | some b => rw [hl] at hx h2; simp at hx h2; rw [hx] at h2; cases h2
  · rw [Array.all_eq_true_iff_forall_mem] at h3
    have := h3 e (by simpa using he)
    rw [hb] at this
    simpa [XL] using this
end
end
end Go.FM

/-! ## FnPerm -/
namespace Go.FM
noncomputable section
variable [Env]
def Valid (ops : Array Oper) : List Nat → (Nat → Prop) → Prop
  | [], X => ∀ i, i < ops.toList.length → X i
  | i :: l, X => (∃ o, Ready ops X i o) ∧ Valid ops l fun k => X k ∨ k = i
section
variable {Pr : Program} {D nt gl : Nat} {ops : Array Oper} {x : Tc} {g0 : Gm} {w0 : World} {cl : Cl} {Q : Exit → Act → World → Prop}
theorem valid_wp (hcl : ClOk Pr D cl) (hst : Stat Pr D nt gl ops) (hgl : GlOk nt gl) (hT : TrOk Pr D nt gl ops x ops.toList.length) (htop : x.C ops.toList.length ≤ 4 ^ D)
    (hQ : ∀ X p g a w, (∀ i, i < ops.toList.length → X i) → SI Pr D nt gl ops X x p g0 w0 g a w → Q .normal a w) :
    ∀ (l : List Nat) (X : Nat → Prop) (p : Nat) (g : Gm) (a : Act) (w : World), Valid ops l X → SI Pr D nt gl ops X x p g0 w0 g a w → wpOps Pr ops Q l a w := by
  intro l
  induction l with
  | nil => intro X p g a w hv h; exact hQ X p g a w hv h
  | cons i l ih =>
    intro X p g a w hv h
    obtain ⟨⟨o, hr⟩, hv⟩ := hv
    have ho : ops[i]? = some o := by rw [← Array.getElem?_toList]; exact hr.1
    simp only [wpOps, ho]
    have hg := h.guard hst hgl hT hr
    have next : ∀ p' g' a' w', SI Pr D nt gl ops (fun k => X k ∨ k = i) x p' g0 w0 g' a' w' → wpOps Pr ops Q l a' w' := fun p' g' a' w' h' => ih _ p' g' a' w' hv h'
    obtain ⟨s1, s2⟩ := h.step (Q := Q) hcl hst hgl hT htop hr next
    cases hb : x.B i with
    | true => rw [if_pos (by rw [hg, hb])]; exact .inl (s1 hb)
    | false => rw [if_neg (by rw [hg, hb]; simp)]; exact s2 hb
end
section
variable {ops : Array Oper}
def Low (ops : Array Oper) : Prop := ∀ j o e, ops.toList[j]? = some o → e ∈ o.after.toList → Region.binds .any e = true → e.on < j
theorem rs_low (hlow : Low ops) {listed : Array Bool} (hsz : listed.size = ops.size) (h : rsOf ops listed = []) : ∀ i, i < ops.size → XL listed i := by
  intro i
  induction i using Nat.strongRecOn with
  | ind i ih =>
    intro hlt
    refine Classical.byContradiction fun hx => ?_
    have ho : ops[i]? = some ops[i] := Array.getElem?_eq_getElem hlt
    have : i ∈ rsOf ops listed := by
      unfold rsOf
      rw [List.mem_filter]
      refine ⟨List.mem_range.2 hlt, ?_⟩
      rw [ho]
      simp only [Option.map_some, Option.getD_some, Bool.and_eq_true, Bool.not_eq_true']
      constructor
      · have hs : i < listed.size := by rw [hsz]; exact hlt
        unfold XL at hx
        rw [Array.getD_eq_getD_getElem?] at hx ⊢
        rw [Array.getElem?_eq_getElem hs] at hx ⊢
        simpa using hx
      · rw [Array.all_eq_true_iff_forall_mem]
        intro e he
        cases hb : Region.binds .any e with
        | false => rfl
        | true =>
          have hlo := hlow i ops[i] e (by rw [Array.getElem?_toList]; exact ho) (by simpa using he) hb
          have := ih e.on hlo (by omega)
          simpa [XL] using this
    rw [h] at this
    cases this
theorem go_valid (hlow : Low ops) : ∀ (fuel t : Nat) (listed : Array Bool) (rem : List Nat), listed.size = ops.size → (∀ i, i < ops.size → ¬ XL listed i → i ∈ rem) → rem.length ≤ fuel →
    Valid ops (Region.linearise.go .any ops fuel t listed []) (XL listed) := by
  intro fuel
  induction fuel with
  | zero =>
    intro t listed rem hsz hrem hf
    have : rem = [] := List.length_eq_zero_iff.1 (Nat.le_zero.1 hf)
    subst this
    intro i hi
    refine Classical.byContradiction fun hx => ?_
    have := hrem i (by simpa using hi) hx
    cases this
  | succ fuel ih =>
    intro t listed rem hsz hrem hf
    simp only [Region.linearise.go]
    change Valid ops (match (rsOf ops listed)[t % (rsOf ops listed).length]? with
      | some i => Region.linearise.go .any ops fuel (t / (rsOf ops listed).length) (listed.setIfInBounds i true) [i]
      | none => [].reverse) _
    cases hi : (rsOf ops listed)[t % (rsOf ops listed).length]? with
    | none =>
      have hnil : rsOf ops listed = [] := by
        cases hr : rsOf ops listed with
        | nil => rfl
        | cons y ys =>
          rw [hr] at hi
          have hlt : t % (y :: ys).length < (y :: ys).length := Nat.mod_lt _ (by simp)
          simp at hi
          simp at hlt
          omega
      exact fun i hi => rs_low hlow hsz hnil i (by simpa using hi)
    | some i =>
      simp only []
      obtain ⟨hlt, o, ho, hr⟩ := rs_ready (List.mem_of_getElem? hi)
      rw [linearise_go_acc, List.reverse_singleton, List.singleton_append]
      refine ⟨⟨o, hr⟩, ?_⟩
      rw [← XL_set (by rw [hsz]; exact hlt)]
      refine ih _ _ (rem.erase i) (by simpa using hsz) (fun k hk hx => ?_) ?_
      · rw [XL_set (by rw [hsz]; exact hlt)] at hx
        exact (List.mem_erase_of_ne fun e => hx (.inr e)).2 (hrem k hk fun q => hx (.inl q))
      · rw [List.length_erase_of_mem (hrem i hlt hr.2.1)]
        omega
end
structure PermOk (ops : Array Oper) (π ρ : List Nat) : Prop where
  pi : ∀ k, k < ops.size → nthP π k < ops.size ∧ nthP ρ (nthP π k) = k
  rho : ∀ i, i < ops.size → nthP ρ i < ops.size ∧ nthP π (nthP ρ i) = i
  grd : ∀ (i : Nat) o j b, ops[i]? = some o → o.guard = some (j, b) → j < ops.size
section
variable {Pr : Program} {ops : Array Oper} {π ρ : List Nat} {Q : Exit → Act → World → Prop}
theorem permO_eq (hp : PermOk ops π ρ) : (permO ops π ρ).toList = (List.range ops.size).map fun k => remap ρ (ops[nthP π k]?.getD default) := by
  unfold permO
  have : ∀ l : List Nat, (∀ k ∈ l, k < ops.size) → (l.filterMap fun k => (ops[nthP π k]?).map (remap ρ)) = l.map fun k => remap ρ (ops[nthP π k]?.getD default) := by
    intro l
    induction l with
    | nil => intro _; rfl
    | cons k l ih =>
      intro h
      have hk := (hp.pi k (h k List.mem_cons_self)).1
      rw [List.filterMap_cons, Array.getElem?_eq_getElem hk]
      simp only [Option.map_some, List.map_cons, Option.getD_some, Array.getElem?_eq_getElem hk]
      rw [ih fun j hj => h j (List.mem_cons_of_mem _ hj)]
  exact this _ fun k hk => List.mem_range.1 hk
theorem permO_size (hp : PermOk ops π ρ) : (permO ops π ρ).size = ops.size := by
  rw [← Array.length_toList, permO_eq hp]; simp
theorem permO_get (hp : PermOk ops π ρ) {k : Nat} (hk : k < ops.size) : (permO ops π ρ)[k]? = (ops[nthP π k]?).map (remap ρ) := by
  rw [← Array.getElem?_toList, permO_eq hp, List.getElem?_map, List.getElem?_range hk]
  have hk := (hp.pi k hk).1
  rw [Option.map_some, Array.getElem?_eq_getElem hk]
  rfl
theorem permO_at (hp : PermOk ops π ρ) {i : Nat} {o : Oper} (ho : ops[i]? = some o) : (permO ops π ρ)[nthP ρ i]? = some (remap ρ o) := by
  have hi := (Array.getElem?_eq_some_iff.1 ho).1
  obtain ⟨h1, h2⟩ := hp.rho i hi
  rw [permO_get hp h1, h2, ho]
  rfl
theorem valid_perm (hp : PermOk ops π ρ) : ∀ (l : List Nat) (X : Nat → Prop), (∀ i, X i → i < ops.size) → Valid ops l X → Valid (permO ops π ρ) (l.map (nthP ρ)) (fun k => k < ops.size ∧ X (nthP π k))
  | [], X, hX, hv => fun k hk => by
    have hk : k < ops.size := by simpa [permO_size hp] using hk
    exact ⟨hk, hv _ (by simpa using (hp.pi k hk).1)⟩
  | i :: l, X, hX, ⟨⟨o, hr⟩, hv⟩ => by
    have ho : ops[i]? = some o := by rw [← Array.getElem?_toList]; exact hr.1
    have hi := (Array.getElem?_eq_some_iff.1 ho).1
    obtain ⟨h1, h2⟩ := hp.rho i hi
    refine ⟨⟨remap ρ o, by rw [Array.getElem?_toList]; exact permO_at hp ho, fun h => hr.2.1 (by have h := h.2; rw [h2] at h; exact h), fun e he hb => ?_⟩, ?_⟩
    · simp only [remap, Array.toList_map, List.mem_map] at he
      obtain ⟨e0, he0, rfl⟩ := he
      have hx := hr.2.2 e0 he0 hb
      obtain ⟨q1, q2⟩ := hp.rho e0.on (hX _ hx)
      exact ⟨q1, by show X (nthP π (nthP ρ e0.on)); rw [q2]; exact hx⟩
    · have := valid_perm hp l (fun k => X k ∨ k = i) (fun k hk => hk.elim (hX k) fun e => by rw [e]; exact hi) hv
      have e : (fun k => k < ops.size ∧ (X (nthP π k) ∨ nthP π k = i)) = fun k => (k < ops.size ∧ X (nthP π k)) ∨ k = nthP ρ i := by
        funext k
        apply propext
        constructor
        · rintro ⟨q1, q2 | q2⟩
          · exact .inl ⟨q1, q2⟩
          · exact .inr (by rw [← q2, (hp.pi k q1).2])
        · rintro (⟨q1, q2⟩ | q2)
          · exact ⟨q1, .inl q2⟩
          · exact ⟨by rw [q2]; exact h1, .inr (by rw [q2]; exact h2)⟩
      rw [e] at this
      exact this
theorem yielded_perm (hp : PermOk ops π ρ) {j : Nat} (hj : j < ops.size) (t : Array Value) : yielded (permO ops π ρ) t (nthP ρ j) = yielded ops t j := by
  have ho : ops[j]? = some ops[j] := Array.getElem?_eq_getElem hj
  unfold yielded
  rw [permO_at hp ho, ho]
  rfl
theorem wanted_perm (hp : PermOk ops π ρ) {i : Nat} {o : Oper} (ho : ops[i]? = some o) (t : Array Value) : Region.wanted (remap ρ o) (yielded (permO ops π ρ) t) = Region.wanted o (yielded ops t) := by
  unfold Region.wanted remap
  cases hg : o.guard with
  | none => rfl
  | some p =>
    obtain ⟨j, b⟩ := p
    simp only [Option.map_some]
    rw [yielded_perm hp (hp.grd i o j b ho hg)]
theorem wp_perm (hp : PermOk ops π ρ) : ∀ (l : List Nat) (a : Act) (w : World), (∀ i ∈ l, i < ops.size) → wpOps Pr (permO ops π ρ) Q (l.map (nthP ρ)) a w → wpOps Pr ops Q l a w
  | [], a, w, _, h => h
  | i :: l, a, w, hl, h => by
    have hi := hl i List.mem_cons_self
    have ho : ops[i]? = some ops[i] := Array.getElem?_eq_getElem hi
    have hl' : ∀ i ∈ l, i < ops.size := fun i hi => hl i (List.mem_cons_of_mem _ hi)
    simp only [List.map_cons, wpOps, permO_at hp ho, wanted_perm hp ho] at h
    simp only [wpOps, ho]
    split
    · rename_i hw
      rw [if_pos hw] at h
      rcases h with h | h
      · exact .inl (Oper.wp_mono (o := ops[i]) (fun a' w' h' => wp_perm hp l a' w' hl' h') h)
      · exact .inr h
    · rename_i hw
      rw [if_neg hw] at h
      exact wp_perm hp l _ _ hl' h
theorem valid_lt : ∀ (l : List Nat) (X : Nat → Prop), Valid ops l X → ∀ i ∈ l, i < ops.size
  | [], X, _, i, h => by cases h
  | j :: l, X, ⟨⟨o, hr⟩, hv⟩, i, h => by
    rcases List.mem_cons.1 h with rfl | h
    · simpa using (List.getElem?_eq_some_iff.1 hr.1).1
    · exact valid_lt l _ hv i h
theorem permB_ok (h : permB ops π ρ = true) : PermOk ops π ρ ∧ Low ops := by
  unfold permB at h
  simp only [Bool.and_eq_true, List.all_eq_true] at h
  obtain ⟨h1, h2, h3, h4⟩ := h
  refine ⟨⟨fun k hk => ?_, fun i hi => ?_, fun i o j b ho hg => ?_⟩, fun j o e ho he hb => ?_⟩
  · have := h1 k (List.mem_range.2 hk)
    exact ⟨Nat.le_of_ble_eq_true this.1, Nat.eq_of_beq_eq_true this.2⟩
  · have := h2 i (List.mem_range.2 hi)
    exact ⟨Nat.le_of_ble_eq_true this.1, Nat.eq_of_beq_eq_true this.2⟩
  · have := h3 o (List.mem_of_getElem? (by rw [Array.getElem?_toList]; exact ho))
    rw [hg] at this
    exact Nat.le_of_ble_eq_true this
  · have := h4 (o, j) (by rw [List.mem_zipIdx_iff_getElem?]; exact ho)
    simp only [low, List.all_eq_true] at this
    have := this e he
    rw [if_pos hb] at this
    exact Nat.le_of_ble_eq_true this
end
end
end Go.FM

/-! ## FnSched9 -/
namespace Go.FM
noncomputable section
variable [Env]
section
variable {Pr : Program} {D nt gl : Nat} {ops : Array Oper} {cl : Cl} {Q : Exit → Act → World → Prop} {g : Gm} {w : World} {a : Act} {s : S} {t : L} {reg : List Nat}
def blank (g : Gm) (c c' : Nat) : Gm := fun k => if c ≤ k ∧ k < c' then ⟨0, 1, 0, 0⟩ else g k
theorem draw_ops (hcl : ClOk Pr D cl) (hgl : GlOk nt gl) (hmix : Pr.follows .mixedOrders = true) (hok : okRows ops (ancOf ops) ((kdsOf Pr D nt gl ops).zip ops.toList) 0 ((kdsOf Pr D nt gl ops).zip ops.toList) = true)
    (hx : ∀ w, runDraw cl D (compD gl (ancOf ops) (kdsOf Pr D nt gl ops) 0 [] (fopsOf Pr D ops nt gl [] ops.toList) ops.toList) [] s ≠ .x w)
    (hs : SRel nt gl reg g s.c t s.f a) (hi : HOk D g s.h s.c w) {l : List Nat} (hv : Valid ops l (XL (Array.replicate ops.size false)))
    (hQ : ∀ t' s' a' w' g', runDraw cl D (compD gl (ancOf ops) (kdsOf Pr D nt gl ops) 0 [] (fopsOf Pr D ops nt gl [] ops.toList) ops.toList) [] s = .n t' s' → SRel nt gl (regOps [] ops.toList) g' s'.c t' s'.f a' → HOk D g' s'.h s'.c w' → Post g (hp D s.h) s.c w g' (hp D s'.h) s'.c w' → Q .normal a' w') :
    wpOps Pr ops Q l a { w with drawn := w.drawn + 1 } := by
  have hst := stat_of hok
  let x0 : Tc := ⟨fun _ => [], fun _ => s.f, fun _ => s.h, fun _ => s.c, fun _ => .und, fun _ => true⟩
  obtain ⟨x, k1, hT, hrun, htop⟩ := runD_tr (Pr := Pr) (D := D) (nt := nt) (gl := gl) (ops := ops) (cl := cl) hcl hst.seen ops.toList 0 x0 [s.h] .nil [] s rfl rfl (fun j o hj => absurd hj (Nat.not_lt_zero j)) ⟨fun j o hj => absurd hj (Nat.not_lt_zero j), fun j o hj => absurd hj (Nat.not_lt_zero j)⟩ rfl rfl rfl rfl hx
  rw [Nat.zero_add] at hT hrun htop
  have eT : x.T 0 = [] := k1.T 0 (Nat.le_refl 0)
  have eF : x.F 0 = s.f := k1.F 0 (Nat.le_refl 0)
  have eH : x.H 0 = s.h := k1.H 0 (Nat.le_refl 0)
  have eC : x.C 0 = s.c := k1.C 0 (Nat.le_refl 0)
  have hle : s.c ≤ x.C ops.toList.length := by rw [← eC]; exact le_C hT (Nat.zero_le _) (Nat.le_refl _)
  have lowg : ∀ k, k < s.c → blank g s.c (x.C ops.toList.length) k = g k := fun k hk => if_neg (by omega)
  have none : ∀ i, ¬ XL (Array.replicate ops.size false) i := by
    intro i hi
    unfold XL at hi
    rw [Array.getD_eq_getD_getElem?, Array.getElem?_replicate] at hi
    split at hi <;> cases hi
  have start : SI Pr D nt gl ops (XL (Array.replicate ops.size false)) x 0 g w (blank g s.c (x.C ops.toList.length)) a { w with drawn := w.drawn + 1 } := by
    refine ⟨⟨fun i hi => absurd hi (none i), fun i o e hi => absurd hi (none i)⟩, ⟨Nat.zero_le _, .inl rfl, fun e o hi => absurd hi (none e)⟩, hs.size, hs.defers,
      ⟨⟨by rw [eH]; exact hi.deep, by rw [eC]; exact hi.le, by rw [eH, eC]; exact hi.inv.congr lowg fun b _ => rfl, by rw [eH]; exact fun b ob hb => ⟨(hi.kp b ob hb).1, fun ⟨k, pre, bd, hk, e⟩ => (hi.kp b ob hb).2 ⟨k, pre, bd, hk, by rw [← lowg k (hi.inv.lt k (by rw [hk]; simp))]; exact e⟩⟩⟩, fun i o hi => absurd hi (none i), fun i o i' o' hi => absurd hi (none i), fun k hk hn => ?_⟩, fun q hq => ?_, fun k hk => ?_, fun b _ _ => rfl, fun b hb => ?_, fun b hb => ?_, fun i o hi => absurd hi (none i), Nat.le_refl _, rfl, rfl, rfl, fun b o hb => (Array.getElem?_eq_some_iff.1 (hi.kp b o hb).1).1⟩
    · rw [eC] at hk
      have e : blank g s.c (x.C ops.toList.length) k = ⟨0, 1, 0, 0⟩ := if_pos ⟨hk, hn.1⟩
      have := hn.2
      rw [e] at this
      simp at this
    · refine ⟨0, Nat.zero_le _, .inl rfl, fun i o hi => absurd hi (none i), fun hb => ?_, fun j hj => ?_⟩
      · rw [eF]; exact (hs.vars q hb).mono lowg hle
      · simp [regAt, regOps, idx] at hj
    · rw [eC] at hk
      exact if_neg (by omega)
    · right
      rw [eH] at hb ⊢
      obtain ⟨k, pre, bd, hk, e⟩ := hb
      exact ⟨k, pre, bd, hk, by rw [← lowg k (hi.inv.lt k (by rw [hk]; simp))]; exact e⟩
    · right
      rw [eH] at hb ⊢
      obtain ⟨k, hk, e⟩ := hb
      exact ⟨k, hk, by rw [← lowg k (hi.inv.lt k hk)]; exact e⟩
  refine valid_wp hcl hst hgl hT htop (fun X p g' a' w' hall h => ?_) l _ 0 _ a _ hv start
  obtain ⟨m1, m2, m3, m4, m5⟩ := merge hT h.heap h.pos.le (Nat.le_refl _) (fun e o h1 h2 he => by have := h.pos.all e o (hall e h2) he; omega) (fun i o _ h2 _ => hall i h2) h.kpn
  have er : regAt ops ops.toList.length = regOps [] ops.toList := by unfold regAt; rw [List.take_length]
  have hsr := h.tmps.all hgl hT hall h.size h.defers fun q j hj => reg_lt hT _ (Nat.le_refl _) q (idx_mem hj)
  rw [er] at hsr
  refine hQ _ _ a' w' g' hrun hsr m1 ⟨fun k hk => h.ag k (by rw [eC]; exact hk), hle, m1.inv, fun b hb hn => h.fr b hb (by rw [eH]; exact hn), fun b hb => ?_, fun b hb => ?_, h.sz, h.os, h.tape, h.out⟩
  · rcases m5 b hb with q | ⟨i, o, b1, b2, b3, b4⟩
    · rw [← eH]; exact h.ow b q
    · exact .inl (by rw [← b4]; exact h.nw i o (hall i b2) b1 b3)
  · rcases m4 b hb with q | ⟨i, o, b1, b2, b3, b4⟩
    · rw [← eH]; exact h.hs b q
    · exact .inl (by rw [← b4]; exact h.nw i o (hall i b2) b1 b3)
theorem draw_wp (hcl : ClOk Pr D cl) (hgl : GlOk nt gl) (hmix : Pr.follows .mixedOrders = true) (hok : okRows (opsP ops) (ancOf (opsP ops)) ((kdsOf Pr D nt gl (opsP ops)).zip (opsP ops).toList) 0 ((kdsOf Pr D nt gl (opsP ops)).zip (opsP ops).toList) = true)
    (hx : ∀ w, runDraw cl D (compD gl (ancOf (opsP ops)) (kdsOf Pr D nt gl (opsP ops)) 0 [] (fopsOf Pr D (opsP ops) nt gl [] (opsP ops).toList) (opsP ops).toList) [] s ≠ .x w)
    (hs : SRel nt gl reg g s.c t s.f a) (hi : HOk D g s.h s.c w) {id : Nat}
    (hQ : ∀ t' s' a' w' g', runDraw cl D (compD gl (ancOf (opsP ops)) (kdsOf Pr D nt gl (opsP ops)) 0 [] (fopsOf Pr D (opsP ops) nt gl [] (opsP ops).toList) (opsP ops).toList) [] s = .n t' s' → SRel nt gl (regOps [] (opsP ops).toList) g' s'.c t' s'.f a' → HOk D g' s'.h s'.c w' → Post g (hp D s.h) s.c w g' (hp D s'.h) s'.c w' → Q .normal a' w') :
    (Code.region id ops true).wp Pr Q a w := by
  refine wp_region_draw fun tt => ?_
  rw [hmix]
  show wpOps Pr ops Q (Region.linearise.go .any ops ops.size tt (Array.replicate ops.size false) []) a { w with drawn := w.drawn + 1 }
  have plain : ∀ o', opsP ops = o' → o' = ops → wpOps Pr ops Q (Region.linearise.go .any ops ops.size tt (Array.replicate ops.size false) []) a { w with drawn := w.drawn + 1 } := by
    intro o' e1 e2
    have e := e1.trans e2
    rw [e] at hok hx hQ
    exact draw_ops hcl hgl hmix hok hx hs hi (go_valid (stat_of hok).low ops.size tt _ (List.range ops.size) (by simp) (fun i hlt _ => List.mem_range.2 hlt) (by simp)) hQ
  unfold opsP at plain
  split at plain
  · simp only at plain
    split at plain
    · rename_i hn hb
      obtain ⟨hp, hlow⟩ := permB_ok hb
      have e : opsP ops = permO ops (orderP ops.toList.zipIdx ops.size []) (invP (orderP ops.toList.zipIdx ops.size []) ops.size) := by
        unfold opsP; rw [if_pos hn]; simp only; rw [if_pos hb]
      have hv := go_valid hlow ops.size tt (Array.replicate ops.size false) (List.range ops.size) (by simp) (fun i hlt _ => List.mem_range.2 hlt) (by simp)
      have no : ∀ i, ¬ XL (Array.replicate ops.size false) i := by
        intro i hi
        unfold XL at hi
        rw [Array.getD_eq_getD_getElem?, Array.getElem?_replicate] at hi
        split at hi <;> cases hi
      have hv2 := valid_perm hp _ _ (fun i hi => absurd hi (no i)) hv
      refine wp_perm hp _ a _ (valid_lt _ _ hv) ?_
      rw [← e] at hv2 ⊢
      refine draw_ops hcl hgl hmix hok hx hs hi ?_ hQ
      have e2 : (fun k => k < ops.size ∧ XL (Array.replicate ops.size false) (nthP (orderP ops.toList.zipIdx ops.size []) k)) = XL (Array.replicate (opsP ops).size false) := by
        funext k
        refine propext ⟨fun h => absurd h.2 (no _), fun hi => ?_⟩
        unfold XL at hi
        rw [Array.getD_eq_getD_getElem?, Array.getElem?_replicate] at hi
        split at hi <;> cases hi
      rw [← e2]
      exact hv2
    · exact plain ops rfl rfl
  · exact plain ops rfl rfl
end
end
end Go.FM

/-! ## FnCode -/
namespace Go.FM
noncomputable section
variable [Env]
section
variable {Pr : Program} {D nt gl : Nat} {cl : Cl} {g : Gm} {w : World} {a : Act} {s : S} {t : L} {reg : List Nat}
def EndOk (D nt gl : Nat) (reg : List Nat) (g : Gm) (h : HT) (c : Nat) (w : World) (r : R) (e : Exit) (a' : Act) (w' : World) : Prop := ∃ g' t' s', SRel nt gl reg g' s'.c t' s'.f a' ∧ HOk D g' s'.h s'.c w' ∧ Post g (hp D h) c w g' (hp D s'.h) s'.c w' ∧ match r with
  | .n t s => e = .normal ∧ t' = t ∧ s' = s
  | .ex id s => e = .exit id ∧ reg = [] ∧ s' = s
  | .go l s => e = .goto l ∧ reg = [] ∧ s' = s
  | .ret s => e = .ret ∧ reg = [] ∧ s' = s
  | .x _ => False
def regR (reg : List Nat) (r : R) : List Nat := match r with
  | .n _ _ => reg
  | _ => []
def Goal (Pr : Program) (D nt gl : Nat) (reg : List Nat) (g : Gm) (s : S) (w : World) (r : R) : Exit → Act → World → Prop := EndOk D nt gl (regR reg r) g s.h s.c w r
def live (r : R) : Prop := ∀ w, r ≠ .x w
def Goes (Pr : Program) (c : Code) (Q : Exit → Act → World → Prop) (a : Act) (w : World) : Prop := match c with
  | .loop c => ∀ (b : Frame) (k : List Item) (cs : List Frame), ∃ e a' w', Q e a' w' ∧ Arrives Pr (lone (b.at a (.code c :: .inLoop c :: k)) cs w) b k cs e a' w'
  | c => c.wp Pr Q a w
theorem Goes.code {c : Code} {Q : Exit → Act → World → Prop} (h : Goes Pr c Q a w) : c.wp Pr Q a w := by
  cases c with
  | loop c =>
    intro b k cs
    obtain ⟨e, a', w', hq, harr⟩ := h b k cs
    exact ⟨e, a', w', hq, .of_steps (.one step_loop) harr⟩
  | _ => exact h
def Within (Pr : Program) (sc rest : Code) (Q : Exit → Act → World → Prop) (a : Act) (w : World) : Prop :=
  ∀ (b : Frame) (k : List Item) (cs : List Frame), ∃ e a' w', Q e a' w' ∧ Arrives Pr (lone (b.at a (.code rest :: .inScope sc :: k)) cs w) b k cs e a' w'
structure RecOk (Pr : Program) (D nt gl : Nat) (rec : Rec) : Prop where
  code : ∀ (c : Code) (reg : List Nat) (t : L) (s : S), live (rec (.c (comp Pr D nt gl reg c)) t s) → ∀ (a : Act) (w : World) (g : Gm), SRel nt gl reg g s.c t s.f a → HOk D g s.h s.c w → Goes Pr c (Goal Pr D nt gl (regOut reg c) g s w (rec (.c (comp Pr D nt gl reg c)) t s)) a w
  within : ∀ (sc rest : Code) (s : S), live (rec (.w sc (comp Pr D nt gl [] rest)) [] s) → ∀ (a : Act) (w : World) (g : Gm) (t : L), SRel nt gl [] g s.c t s.f a → HOk D g s.h s.c w → Within Pr sc rest (Goal Pr D nt gl [] g s w (rec (.w sc (comp Pr D nt gl [] rest)) [] s)) a w
theorem EndOk.trans {g1 : Gm} {s1 : S} {w1 : World} {h : HT} {c : Nat} {r : R} {e : Exit} {a' : Act} {w' : World} (hp1 : Post g (hp D h) c w g1 (hp D s1.h) s1.c w1) (k : EndOk D nt gl reg g1 s1.h s1.c w1 r e a' w') : EndOk D nt gl reg g h c w r e a' w' := by
  obtain ⟨g', t', s', h1, h2, h3, h4⟩ := k
  exact ⟨g', t', s', h1, h2, hp1.trans h3, h4⟩
theorem plain_wp (hcl : ClOk Pr D cl) (hgl : GlOk nt gl) {id : Nat} {ops : Array Oper} (hx : live (runOps cl (compOps Pr D ops nt gl [] ops.toList) [] s)) (hs : SRel nt gl reg g s.c t s.f a) (hi : HOk D g s.h s.c w) :
    (Code.region id ops false).wp Pr (Goal Pr D nt gl (regOps [] ops.toList) g s w (runOps cl (compOps Pr D ops nt gl [] ops.toList) [] s)) a w := by
  refine wp_region ?_
  have := ops_wp (Pr := Pr) (D := D) (nt := nt) (gl := gl) (ops := ops) (Q := Goal Pr D nt gl (regOps [] ops.toList) g s w (runOps cl (compOps Pr D ops nt gl [] ops.toList) [] s)) hcl hgl ops.toList 0 [] [] s a w g rfl hx (hs.nil []) hi fun t' s' a' w' g' e h1 h2 h3 => by
    rw [e]
    exact ⟨g', t', s', h1, h2, h3, rfl, rfl, rfl⟩
  rw [List.range_eq_range']
  simpa using this
theorem open_wp (hcl : ClOk Pr D cl) (hgl : GlOk nt gl) (hmix : Pr.follows .mixedOrders = true) {id : Nat} {ops : Array Oper} (hok : okRows (opsP ops) (ancOf (opsP ops)) ((kdsOf Pr D nt gl (opsP ops)).zip (opsP ops).toList) 0 ((kdsOf Pr D nt gl (opsP ops)).zip (opsP ops).toList) = true)
    (hx : live (runDraw cl D (compD gl (ancOf (opsP ops)) (kdsOf Pr D nt gl (opsP ops)) 0 [] (fopsOf Pr D (opsP ops) nt gl [] (opsP ops).toList) (opsP ops).toList) [] s)) (hs : SRel nt gl reg g s.c t s.f a) (hi : HOk D g s.h s.c w) :
    (Code.region id ops true).wp Pr (Goal Pr D nt gl (regOps [] (opsP ops).toList) g s w (runDraw cl D (compD gl (ancOf (opsP ops)) (kdsOf Pr D nt gl (opsP ops)) 0 [] (fopsOf Pr D (opsP ops) nt gl [] (opsP ops).toList) (opsP ops).toList) [] s)) a w :=
  draw_wp hcl hgl hmix hok hx hs hi fun t' s' a' w' g' e h1 h2 h3 => by
    rw [e]
    exact ⟨g', t', s', h1, h2, h3, rfl, rfl, rfl⟩
end
end
end Go.FM

/-! ## FnCode2 -/
namespace Go.FM
noncomputable section
variable [Env]
theorem gotoIn_scope {l : Nat} {c rest : Code} {k : List Item} (h : findLabel c l = some rest) : gotoIn l (.inScope c :: k) = some (.code rest :: .inScope c :: k) := by simp [gotoIn, h]
section
variable {Pr : Program} {D nt gl : Nat} {cl : Cl}
theorem stepT_ok (hcl : ClOk Pr D cl) (hgl : GlOk nt gl) (hmix : Pr.follows .mixedOrders = true) {rec : Rec} (hrec : RecOk Pr D nt gl rec) : RecOk Pr D nt gl (stepT Pr D nt gl rec (runOps cl) (runDraw cl D)) where
  code := by
    intro c reg t s hx a w g hs hi
    have self : ∀ {r : R} {e : Exit} {reg' : List Nat} {t' : L}, SRel nt gl reg' g s.c t' s.f a → (match r with
      | .n t s2 => e = .normal ∧ t' = t ∧ s = s2
      | .ex id s2 => e = .exit id ∧ reg' = [] ∧ s = s2
      | .go l s2 => e = .goto l ∧ reg' = [] ∧ s = s2
      | .ret s2 => e = .ret ∧ reg' = [] ∧ s = s2
      | .x _ => False) → EndOk D nt gl reg' g s.h s.c w r e a w := by
      intro r e reg' t' h1 h2
      cases r <;> exact ⟨g, _, s, h1, hi, Post.refl hi.inv, h2⟩
    cases c with
    | skip => exact wp_skip (self (r := .n t s) hs ⟨rfl, rfl, rfl⟩)
    | label l => exact wp_label (self (r := .n t s) hs ⟨rfl, rfl, rfl⟩)
    | exit id => exact wp_exit (self (r := .ex id s) (hs.nil t) ⟨rfl, rfl, rfl⟩)
    | goto l => exact wp_goto (self (r := .go l s) (hs.nil t) ⟨rfl, rfl, rfl⟩)
    | ret => exact wp_ret (self (r := .ret s) (hs.nil t) ⟨rfl, rfl, rfl⟩)
    | region id ops dr =>
      cases dr with
      | false => exact plain_wp hcl hgl hx hs hi
      | true =>
        have e : comp Pr D nt gl reg (.region id ops true) = compDraw Pr D (opsP ops) nt gl := rfl
        rw [e] at hx ⊢
        unfold compDraw at hx ⊢
        simp only at hx ⊢
        split at hx
        · rename_i hok
          rw [if_pos hok]
          exact open_wp hcl hgl hmix hok hx hs hi
        · exact absurd rfl (hx 35)
    | seq x y =>
      have e : stepT Pr D nt gl rec (runOps cl) (runDraw cl D) (.c (comp Pr D nt gl reg (.seq x y))) t s = andThen (rec (.c (comp Pr D nt gl (regOut reg x) y))) (rec (.c (comp Pr D nt gl reg x)) t s) := rfl
      rw [e] at hx ⊢
      have hx1 : live (rec (.c (comp Pr D nt gl reg x)) t s) := fun w h => by rw [h] at hx; exact hx w rfl
      have h1 := (hrec.code x reg t s hx1 a w g hs hi).code
      show (Code.seq x y).wp Pr _ a w
      refine wp_seq (wp_mono h1 fun ex a1 w1 hl => ?_)
      cases hr : rec (.c (comp Pr D nt gl reg x)) t s with
      | n t1 s1 =>
        rw [hr] at hl hx
        obtain ⟨g1, t', s', k1, k2, k3, rfl, rfl, rfl⟩ := hl
        refine wp_mono (hrec.code y (regOut reg x) t' s' hx a1 w1 g1 k1 k2).code fun ex a2 w2 hl2 => ?_
        exact EndOk.trans k3 hl2
      | x w => exact absurd hr (hx1 w)
      | ex id s1 =>
        rw [hr] at hl
        obtain ⟨g1, t', s', k1, k2, k3, rfl, k5, k6⟩ := hl
        exact ⟨g1, t', s', k1, k2, k3, rfl, k5, k6⟩
      | go l s1 =>
        rw [hr] at hl
        obtain ⟨g1, t', s', k1, k2, k3, rfl, k5, k6⟩ := hl
        exact ⟨g1, t', s', k1, k2, k3, rfl, k5, k6⟩
      | ret s1 =>
        rw [hr] at hl
        obtain ⟨g1, t', s', k1, k2, k3, rfl, k5, k6⟩ := hl
        exact ⟨g1, t', s', k1, k2, k3, rfl, k5, k6⟩
    | cond c x y =>
      have e : stepT Pr D nt gl rec (runOps cl) (runDraw cl D) (.c (comp Pr D nt gl reg (.cond c x y))) t s = br (rec (.c (comp Pr D nt gl [] x)) [] s) (rec (.c (comp Pr D nt gl [] y)) [] s) ((opnd gl reg c).ev t s.f) := rfl
      rw [e] at hx ⊢
      have hc := opnd_ok hs c
      show (Code.cond c x y).wp Pr _ a w
      cases hv : (opnd gl reg c).ev t s.f <;> rw [hv] at hx hc <;> try exact absurd rfl (hx 52)
      rename_i b
      have hc : a.eval c = .bool b := hc
      have out : ∀ {z : Code} {r : R}, r = rec (.c (comp Pr D nt gl [] z)) [] s → live r → z.wp Pr (Goal Pr D nt gl [] g s w r) a w := by
        intro z r hr hl
        subst hr
        refine wp_mono (hrec.code z [] [] s hl a w g (hs.nil []) hi).code fun ex a2 w2 hl2 => ?_
        obtain ⟨g1, t', s', k1, k2, k3, k4⟩ := hl2
        cases hr : rec (.c (comp Pr D nt gl [] z)) [] s with
        | x w => exact absurd hr (hl w)
        | n t1 s1 => rw [hr] at k1 k4; exact ⟨g1, t', s', k1.nil t', k2, k3, k4⟩
        | ex i s1 => rw [hr] at k1 k4; exact ⟨g1, t', s', k1.nil t', k2, k3, k4.1, rfl, k4.2.2⟩
        | go l s1 => rw [hr] at k1 k4; exact ⟨g1, t', s', k1.nil t', k2, k3, k4.1, rfl, k4.2.2⟩
        | ret s1 => rw [hr] at k1 k4; exact ⟨g1, t', s', k1.nil t', k2, k3, k4.1, rfl, k4.2.2⟩
      refine wp_cond hc ?_
      cases b with
      | true => exact out rfl hx
      | false => exact out rfl hx
    | block id c =>
      have e : stepT Pr D nt gl rec (runOps cl) (runDraw cl D) (.c (comp Pr D nt gl reg (.block id c))) t s = inBlock id (rec (.c (comp Pr D nt gl [] c)) [] s) := rfl
      rw [e] at hx ⊢
      have hx1 : live (rec (.c (comp Pr D nt gl [] c)) [] s) := fun w h => by rw [h] at hx; exact hx w rfl
      show (Code.block id c).wp Pr _ a w
      refine wp_block (wp_mono (hrec.code c [] [] s hx1 a w g (hs.nil []) hi).code fun ex a2 w2 hl2 => ?_)
      obtain ⟨g1, t', s', k1, k2, k3, k4⟩ := hl2
      cases hr : rec (.c (comp Pr D nt gl [] c)) [] s with
      | x w => exact absurd hr (hx1 w)
      | n t1 s1 =>
        rw [hr] at k4 k1
        obtain ⟨rfl, rfl, rfl⟩ := k4
        exact ⟨g1, t', s', k1.nil t', k2, k3, rfl, rfl, rfl⟩
      | go l s1 =>
        rw [hr] at k4 k1
        obtain ⟨rfl, _, rfl⟩ := k4
        exact ⟨g1, t', s', k1.nil t', k2, k3, rfl, rfl, rfl⟩
      | ret s1 =>
        rw [hr] at k4 k1
        obtain ⟨rfl, _, rfl⟩ := k4
        exact ⟨g1, t', s', k1.nil t', k2, k3, rfl, rfl, rfl⟩
      | ex i s1 =>
        rw [hr] at k4 k1
        obtain ⟨rfl, _, rfl⟩ := k4
        simp only [Exit.inBlock]
        have ei : inBlock id (.ex i s') = (Nat.beq i id).casesOn (.ex i s') (.n [] s') := rfl
        rw [ei]
        by_cases hid : i = id
        · subst hid
          rw [Nat.beq_refl]
          simp only [if_pos rfl]
          exact ⟨g1, [], s', k1.nil [], k2, k3, rfl, rfl, rfl⟩
        · have hb : Nat.beq i id = false := by
            cases hb : Nat.beq i id with
            | false => rfl
            | true => exact absurd (Nat.eq_of_beq_eq_true hb) hid
          rw [hb, if_neg hid]
          exact ⟨g1, t', s', k1.nil t', k2, k3, rfl, rfl, rfl⟩
    | loop c =>
      have e : stepT Pr D nt gl rec (runOps cl) (runDraw cl D) (.c (comp Pr D nt gl reg (.loop c))) t s = andThen (fun _ s => rec (.c (comp Pr D nt gl [] (.loop c))) [] s) (rec (.c (comp Pr D nt gl [] c)) [] s) := rfl
      rw [e] at hx ⊢
      have hx1 : live (rec (.c (comp Pr D nt gl [] c)) [] s) := fun w h => by rw [h] at hx; exact hx w rfl
      intro b k cs
      obtain ⟨ex, a1, w1, hl, harr⟩ := (hrec.code c [] [] s hx1 a w g (hs.nil []) hi).code b (.inLoop c :: k) cs
      obtain ⟨g1, t', s', k1, k2, k3, k4⟩ := hl
      cases hr : rec (.c (comp Pr D nt gl [] c)) [] s with
      | x w => exact absurd hr (hx1 w)
      | n t1 s1 =>
        rw [hr] at k4 k1 hx
        obtain ⟨rfl, rfl, rfl⟩ := k4
        obtain ⟨ex2, a2, w2, hl2, harr2⟩ := hrec.code (.loop c) [] [] s' hx a1 w1 g1 (k1.nil []) k2 b k cs
        exact ⟨ex2, a2, w2, EndOk.trans k3 hl2, .of_steps (Steps.trans harr (.one step_inLoop)) harr2⟩
      | go l s1 =>
        rw [hr] at k4 k1
        obtain ⟨rfl, _, rfl⟩ := k4
        exact ⟨_, a1, w1, ⟨g1, t', s', k1.nil t', k2, k3, rfl, rfl, rfl⟩, .pass (x := .inLoop c) rfl (fun _ _ => .inl (by simp)) harr⟩
      | ret s1 =>
        rw [hr] at k4 k1
        obtain ⟨rfl, _, rfl⟩ := k4
        exact ⟨_, a1, w1, ⟨g1, t', s', k1.nil t', k2, k3, rfl, rfl, rfl⟩, .pass (x := .inLoop c) rfl (fun _ _ => .inl (by simp)) harr⟩
      | ex i s1 =>
        rw [hr] at k4 k1
        obtain ⟨rfl, _, rfl⟩ := k4
        exact ⟨_, a1, w1, ⟨g1, t', s', k1.nil t', k2, k3, rfl, rfl, rfl⟩, .pass (x := .inLoop c) rfl (fun _ _ => .inl (by simp)) harr⟩
    | scope c =>
      have e : stepT Pr D nt gl rec (runOps cl) (runDraw cl D) (.c (comp Pr D nt gl reg (.scope c))) t s = rec (.w c (comp Pr D nt gl [] c)) [] s := rfl
      rw [e] at hx ⊢
      intro b k cs
      obtain ⟨ex, a1, w1, hq, harr⟩ := hrec.within c c s hx a w g [] (hs.nil []) hi b k cs
      exact ⟨ex, a1, w1, hq, .of_steps (.one step_scope) harr⟩
    | rangeFunc _ _ _ _ => exact absurd rfl (hx 33)
    | refuse _ => exact absurd rfl (hx 33)
  within := by
    intro sc rest s hx a w g t hs hi b k cs
    have e : stepT Pr D nt gl rec (runOps cl) (runDraw cl D) (.w sc (comp Pr D nt gl [] rest)) [] s = inScope Pr D nt gl rec sc (rec (.c (comp Pr D nt gl [] rest)) [] s) := rfl
    rw [e] at hx ⊢
    have hx1 : live (rec (.c (comp Pr D nt gl [] rest)) [] s) := fun w h => by rw [h] at hx; exact hx w rfl
    obtain ⟨ex, a1, w1, hl, harr⟩ := (hrec.code rest [] [] s hx1 a w g (hs.nil []) hi).code b (.inScope sc :: k) cs
    obtain ⟨g1, t', s', k1, k2, k3, k4⟩ := hl
    cases hr : rec (.c (comp Pr D nt gl [] rest)) [] s with
    | x w => exact absurd hr (hx1 w)
    | n t1 s1 =>
      rw [hr] at k4 k1
      obtain ⟨rfl, rfl, rfl⟩ := k4
      exact ⟨_, a1, w1, ⟨g1, t', s', k1.nil t', k2, k3, rfl, rfl, rfl⟩, Steps.trans harr (.one step_inScope)⟩
    | ex i s1 =>
      rw [hr] at k4 k1
      obtain ⟨rfl, _, rfl⟩ := k4
      exact ⟨_, a1, w1, ⟨g1, t', s', k1.nil t', k2, k3, rfl, rfl, rfl⟩, fun k' hk => harr k' (by simp [exitTo, hk])⟩
    | ret s1 =>
      rw [hr] at k4 k1
      obtain ⟨rfl, _, rfl⟩ := k4
      exact ⟨_, a1, w1, ⟨g1, t', s', k1.nil t', k2, k3, rfl, rfl, rfl⟩, harr⟩
    | go l s1 =>
      rw [hr] at k4 k1 hx
      obtain ⟨rfl, _, rfl⟩ := k4
      have e2 : inScope Pr D nt gl rec sc (.go l s') = again Pr D nt gl rec sc l s' := rfl
      rw [e2] at hx ⊢
      unfold again at hx ⊢
      cases hf : findLabel sc l with
      | some rest1 =>
        rw [hf] at hx
        obtain ⟨ex2, a2, w2, hl2, harr2⟩ := hrec.within sc rest1 s' hx a1 w1 g1 [] (k1.nil []) k2 b k cs
        exact ⟨ex2, a2, w2, EndOk.trans k3 hl2, .of_steps (harr _ (gotoIn_scope hf)) harr2⟩
      | none =>
        exact ⟨_, a1, w1, ⟨g1, t', s', k1.nil t', k2, k3, rfl, rfl, rfl⟩, fun k' hk => harr k' (by simp [gotoIn, hf, hk])⟩
end
end
end Go.FM

/-! ## FnCall -/
namespace Go.FM
noncomputable section
variable [Env]
section
variable {Pr : Program} {D nt gl : Nat} {cl : Cl}
theorem runT_ok (hcl : ClOk Pr D cl) (hgl : GlOk nt gl) (hmix : Pr.follows .mixedOrders = true) : ∀ n, RecOk Pr D nt gl (runT Pr D cl nt gl n)
  | 0 => ⟨fun c reg t s hx => absurd rfl (hx 50), fun sc rest s hx => absurd rfl (hx 50)⟩
  | n + 1 => stepT_ok hcl hgl hmix (runT_ok hcl hgl hmix n)
theorem fget_und (r : Nat) : fget r und4 = .und := by
  have h1 : ∀ i, Q.get i und1 = .und := fun i => by unfold Q.get; rw [sel4_lt]; (repeat' split) <;> rfl
  have h2 : ∀ i, Q.get i und2 = und1 := fun i => by unfold Q.get; rw [sel4_lt]; (repeat' split) <;> rfl
  have h3 : ∀ i, Q.get i und3 = und2 := fun i => by unfold Q.get; rw [sel4_lt]; (repeat' split) <;> rfl
  have h4 : ∀ i, Q.get i und4 = und3 := fun i => by unfold Q.get; rw [sel4_lt]; (repeat' split) <;> rfl
  unfold fget
  rw [h4, h3, h2, h1]
theorem glOk_of (h1 : Nat.ble (rank gl nt) 256 = true) (h2 : Nat.blt gl (Nat.pow 2 nt) = true) : GlOk nt gl := by
  refine ⟨Nat.le_of_ble_eq_true h1, fun q hq => ?_⟩
  have hlt : gl < 2 ^ nt := Nat.le_of_ble_eq_true h2
  rcases Nat.lt_or_ge q nt with h | h
  · exact h
  · have := Nat.testBit_lt_two_pow (Nat.lt_of_lt_of_le hlt (Nat.pow_le_pow_right (by omega) h))
    rw [this] at hq; cases hq
theorem initF_ok (hgl : GlOk nt gl) : ∀ (n t : Nat) (args : List HV) (f f' : F), t + n ≤ nt → initF (parPs gl n t) args f = some f' → args.length = n ∧ ∀ q, Nat.testBit gl q = true → fget (rank gl q) f' = if t ≤ q ∧ q < t + n then args.getD (q - t) .dead else fget (rank gl q) f := by
  intro n
  induction n with
  | zero =>
    intro t args f f' hn h
    cases args with
    | nil =>
      have : f = f' := Option.some.inj h
      subst this
      exact ⟨rfl, fun q _ => by rw [if_neg (by omega)]⟩
    | cons a r => cases h
  | succ n ih =>
    intro t args f f' hn h
    cases args with
    | nil => cases h
    | cons v r =>
      have e : parPs gl (n + 1) t = dstP gl (some t) :: parPs gl n (t + 1) := rfl
      rw [e] at h
      have h : initF (parPs gl n (t + 1)) r (putF (dstP gl (some t)) v f) = some f' := h
      obtain ⟨h1, h2⟩ := ih (t + 1) r _ f' (by omega) h
      refine ⟨by simp [h1], fun q hb => ?_⟩
      rw [h2 q hb]
      by_cases hq : t + 1 ≤ q ∧ q < t + 1 + n
      · rw [if_pos hq, if_pos (by omega), show q - t = (q - (t + 1)) + 1 by omega]
        simp
      · rw [if_neg hq]
        have ed : dstP gl (some t) = (Nat.testBit gl t).casesOn (motive := fun _ => P) .loc (pVar (rank gl t)) := rfl
        rw [ed]
        have r1 : rank gl q < 256 := Nat.lt_of_lt_of_le (rank_lt gl (hgl.2 q hb) hb) hgl.1
        cases hbt : Nat.testBit gl t with
        | false =>
          have : q ≠ t := fun e => by rw [e, hbt] at hb; cases hb
          rw [if_neg (by omega)]
          rfl
        | true =>
          obtain ⟨p, hp, hpv⟩ := pVar_eq (rank gl t)
          have r2 : rank gl t < 256 := Nat.lt_of_lt_of_le (rank_lt gl (by omega) hbt) hgl.1
          show fget (rank gl q) (putF (pVar (rank gl t)) v f) = _
          rw [hp]
          show fget (rank gl q) (p v f) = _
          rw [hpv, fget_fset r1 r2]
          by_cases hqt : q = t
          · subst hqt
            rw [if_pos rfl, if_pos (by omega)]
            simp
          · rw [if_neg fun e => hqt (rank_inj gl hb hbt e), if_neg (by omega)]
theorem enter_srel (hgl : GlOk nt gl) {n : Nat} {args : List HV} {vs : List Value} {f : F} {g : Gm} {c : Nat} (hargs : TReps g c args vs) (hn : n ≤ nt) (h : initF (parPs gl n 0) args und4 = some f) :
    SRel nt gl [] g c [] f { tmps := vs.toArray ++ Array.replicate (nt - vs.toArray.size) undef, defers := [] } := by
  obtain ⟨h1, h2⟩ := initF_ok hgl n 0 args und4 f (by omega) h
  have hl : vs.length = n := hargs.1.trans h1
  refine ⟨by simp; omega, fun q hb => ?_, fun q j hj => by simp [idx] at hj, rfl⟩
  rw [h2 q hb]
  have hq := hgl.2 q hb
  by_cases hlt : q < n
  · rw [if_pos ⟨Nat.zero_le _, by omega⟩]
    have ha : args[q]? = some (args[q]'(by omega)) := List.getElem?_eq_getElem _
    have hv : vs[q]? = some (vs[q]'(by omega)) := List.getElem?_eq_getElem _
    have e1 : args.getD (q - 0) .dead = args[q]'(by omega) := by simp [List.getD_eq_getElem?_getD, ha]
    have e2 : (vs.toArray ++ Array.replicate (nt - vs.toArray.size) undef).getD q undef = vs[q]'(by omega) := by
      rw [Array.getD_eq_getD_getElem?, Array.getElem?_append_left (by simp; omega)]
      simp [hl, hlt]
    rw [e1, e2]
    exact hargs.2 q _ _ ha hv
  · rw [if_neg (by omega), fget_und]
    show _ = undef
    rw [Array.getD_eq_getD_getElem?, Array.getElem?_append_right (by simp; omega)]
    simp only [List.size_toArray]
    rw [Array.getElem?_replicate, if_pos (by omega)]
    rfl
theorem TRep.val {g : Gm} {c : Nat} {x : HV} {u : Value} (h : TRep g c x u) (hl : x.live = true) : VRep g c x u := by
  cases x <;> first | exact h | cases hl
theorem res_one {g : Gm} {h : HT} {c : Nat} {w : World} {f : F} {a : Act} {rf : ResultVar → Sem Value} (hf : ∀ t, rf (.tmp t) = pure (a.tmps.getD t undef)) (hf' : ∀ c t, rf (.cell c t) = do loadVar t (← asAddr (a.tmps.getD c undef)))
    (hs : SRel nt gl [] g c [] f a) (hi : HOk D g h c w) {r : ResultVar} (hl : (resV h f (resG Pr D gl r)).live = true) : ∃ u, (rf r).run Pr w = .ok u w ∧ VRep g c (resV h f (resG Pr D gl r)) u := by
  cases r with
  | tmp t =>
    rw [hf]
    exact ⟨_, rfl, TRep.val (opnd_ok hs (.tmp t)) hl⟩
  | cell b t =>
    rw [hf']
    unfold resG at hl ⊢
    simp only at hl ⊢
    cases hq : loadF Pr D t with
    | no => rw [hq] at hl; cases hl
    | p q => exact (loadF_not hq).elim
    | f q =>
      rw [hq] at hl
      obtain ⟨n, bl, e1, e2, rfl⟩ := loadF_inv hq
      have hd : load D bl n h ((opnd gl [] (.tmp b)).ev [] f) ≠ .dead := fun e => by
        have hl : (load D bl n h ((opnd gl [] (.tmp b)).ev [] f)).live = true := hl
        rw [e] at hl; cases hl
      obtain ⟨A, hA, u, h3, h4⟩ := load_ok (Pr := Pr) e1 e2 hi (opnd_ok hs (.tmp b)) hd
      have hA : a.tmps.getD b undef = .pointer (some A) := hA
      refine ⟨u, ?_, h4⟩
      rw [hA]
      simpa [asAddr] using h3
theorem res_all {g : Gm} {h : HT} {c : Nat} {w : World} {f : F} {a : Act} {rf : ResultVar → Sem Value} (hf : ∀ t, rf (.tmp t) = pure (a.tmps.getD t undef)) (hf' : ∀ c t, rf (.cell c t) = do loadVar t (← asAddr (a.tmps.getD c undef)))
    (hs : SRel nt gl [] g c [] f a) (hi : HOk D g h c w) : ∀ (l : List ResultVar), ((l.map (resG Pr D gl)).map (resV h f)).all HV.live = true → ∃ us : List Value, (l.mapM rf).run Pr w = .ok us w ∧ us.length = l.length ∧ ∀ (i : Nat) (x : HV) (u : Value), ((l.map (resG Pr D gl)).map (resV h f))[i]? = some x → us[i]? = some u → VRep g c x u
  | [], _ => ⟨[], by simp, rfl, fun i x u hx => by simp at hx⟩
  | r :: l, hl => by
    simp only [List.map_cons, List.all_cons, Bool.and_eq_true] at hl
    obtain ⟨u, h1, h2⟩ := res_one (Pr := Pr) hf hf' hs hi hl.1
    obtain ⟨us, h3, h4, h5⟩ := res_all hf hf' hs hi l hl.2
    refine ⟨u :: us, by simp [List.mapM_cons, h1, h3], by simp [h4], fun i x v hx hv => ?_⟩
    cases i with
    | zero => simp at hx hv; subst hx; subst hv; exact h2
    | succ i => exact h5 i x v (by simpa using hx) (by simpa using hv)
theorem enter_ok (hcl : ClOk Pr D cl) (hmix : Pr.follows .mixedOrders = true) {N : Nat} {fn : FuncId} {args : List HV} {h : HT} {c : Nat} {v : HV} {h' : HT} {c' : Nat} (he : enter Pr D N cl (compFn Pr D fn) args h c = .ok v h' c') (hv : v ≠ .dead) :
    Body Pr fn ∧ CallT Pr D fn args h c v h' c' := by
  unfold compFn at he
  cases hf : Pr.funcs[fn]? with
  | none => rw [hf] at he; cases he
  | some f =>
    rw [hf] at he
    simp only at he
    cases hname : (f.name == "runtime.NumGoroutine") with
    | true => rw [hname] at he; cases he
    | false =>
      rw [hname] at he
      simp only [Bool.false_eq_true, if_false] at he
      cases hb : f.body with
      | none => rw [hb] at he; cases he
      | some code =>
        rw [hb] at he
        simp only at he
        split at he
        · rename_i hc
          simp only [Bool.and_eq_true] at hc
          obtain ⟨⟨c1, c2⟩, c3⟩ := hc
          have hgl := glOk_of c1 c2
          refine ⟨⟨f, code, hf, hb, hname⟩, fun w g vs hi hargs => ?_⟩
          simp only [enter] at he
          cases hin : initF (parPs (resGl f.results.toList (glob [] code 0)) (f.params.size + f.nfree) 0) args und4 with
          | none => rw [hin] at he; cases he
          | some fr =>
            rw [hin] at he
            simp only at he
            have hs := enter_srel hgl hargs (Nat.le_of_ble_eq_true c3) hin
            have hlive : live (runT Pr D cl f.ntmps (resGl f.results.toList (glob [] code 0)) N (.c (comp Pr D f.ntmps (resGl f.results.toList (glob [] code 0)) [] code)) [] ⟨fr, h, c⟩) := fun w e => by rw [e] at he; cases he
            refine calls_of_wp hf hb (wp_mono ((runT_ok hcl hgl hmix N).code code [] [] ⟨fr, h, c⟩ hlive _ w g hs hi).code fun ex a' w' hl => ?_)
            obtain ⟨g', t', s', k1, k2, k3, k4⟩ := hl
            have fin : leave (f.results.toList.map (resG Pr D (resGl f.results.toList (glob [] code 0)))) s' = .ok v h' c' → a'.defers = [] ∧ ∃ v', (results f a'.tmps).run Pr w' = .ok v' w' ∧ ∃ u g'', Ending.returned v' = .returned u ∧ HOk D g'' h' c' w' ∧ Post g (hp D h) c w g'' (hp D h') c' w' ∧ TRep g'' c' v u := by
              intro hlv
              unfold leave at hlv
              injection hlv with e1 e2 e3
              subst e2; subst e3
              refine ⟨k1.defers, ?_⟩
              have hall : ((f.results.toList.map (resG Pr D (resGl f.results.toList (glob [] code 0)))).map (resV s'.h s'.f)).all HV.live = true := by
                cases hh : ((f.results.toList.map (resG Pr D (resGl f.results.toList (glob [] code 0)))).map (resV s'.h s'.f)).all HV.live with
                | true => rfl
                | false => unfold oneOf at e1; rw [hh] at e1; exact absurd e1.symm hv
              obtain ⟨us, r1, r2, r3⟩ := res_all (Pr := Pr) (w := w') (rf := (fun | .tmp t => pure (a'.tmps.getD t undef) | .cell c t => do loadVar t (← asAddr (a'.tmps.getD c undef)) : ResultVar → Sem Value)) (fun _ => rfl) (fun _ _ => rfl) (k1.nil []) k2 f.results.toList hall
              refine ⟨_, Go.AbsM.results_run (fun _ => rfl) (fun _ _ => rfl) r1, _, g', rfl, k2, k3, ?_⟩
              unfold oneOf at e1
              rw [hall] at e1
              simp only at e1
              subst e1
              have hl : us.length = ((f.results.toList.map (resG Pr D (resGl f.results.toList (glob [] code 0)))).map (resV s'.h s'.f)).length := by simp [r2]
              clear hall r1 r2 hv he
              generalize (f.results.toList.map (resG Pr D (resGl f.results.toList (glob [] code 0)))).map (resV s'.h s'.f) = xs at *
              match xs, us, hl, r3 with
              | [], [], _, r3 => exact ⟨[], rfl, rfl, r3⟩
              | [y], [u], _, r3 => exact TRep.of_val (r3 0 y u rfl rfl)
              | y :: y' :: ys, u :: u' :: us, hl, r3 => exact ⟨_, rfl, hl, r3⟩
            generalize hr : runT Pr D cl f.ntmps (resGl f.results.toList (glob [] code 0)) N (.c (comp Pr D f.ntmps (resGl f.results.toList (glob [] code 0)) [] code)) [] ⟨fr, h, c⟩ = r at *
            cases r with
            | x w => exact absurd rfl (hlive w)
            | ex i s1 => cases he
            | go l s1 => cases he
            | n t1 s1 =>
              obtain ⟨rfl, rfl, rfl⟩ := k4
              exact fin he
            | ret s1 =>
              obtain ⟨rfl, _, rfl⟩ := k4
              exact fin he
        · cases he
end
end
end Go.FM

/-! ## FnLaw -/
namespace Go.FM
noncomputable section
open Go.RowKit (Below)
noncomputable section
abbrev Hook := List HV → HT → Nat → CR
def callX (Pr : Program) (D N : Nat) (ext : FuncId → Option Hook) (n : Nat) : Cl := Nat.rec (motive := fun _ => Cl) (fun _ _ _ _ => .x 51) (fun _ ih f args h c => Option.casesOn (ext f) (enter Pr D N ih (compFn Pr D f) args h c) fun q => q args h c) n
end
variable [Env]
def HookOk (Pr : Program) (D : Nat) (f : FuncId) (q : Hook) : Prop := ∀ args h c v h' c', q args h c = .ok v h' c' → v ≠ .dead → Body Pr f ∧ CallT Pr D f args h c v h' c'
def ExtOk (Pr : Program) (D : Nat) (ext : FuncId → Option Hook) : Prop := ∀ f q, ext f = some q → HookOk Pr D f q
section
variable {Pr : Program} {D : Nat} {g : Gm} {c : Nat} {w w' : World}
theorem wf_u8 {a : Int} (h : (Lit.int .u8 a).wf = true) : 0 ≤ a ∧ a < 256 := by
  simp [Lit.wf, IntKind.min, IntKind.max, IntKind.bits, IntKind.signed] at h; omega
theorem args_nil : TReps g c [] [] := ⟨rfl, fun i x u hx => by simp at hx⟩
theorem args_cons {x : HV} {u : Value} {xs : List HV} {us : List Value} (h : TRep g c x u) (k : TReps g c xs us) : TReps g c (x :: xs) (u :: us) :=
  ⟨by simp [k.1], fun i y v hy hv => by
    cases i with
    | zero => simp at hy hv; subst hy; subst hv; exact h
    | succ i => exact k.2 i y v (by simpa using hy) (by simpa using hv)⟩
theorem arg_bool {b : Bool} : TRep g c (.bool b) (.bool b) := rfl
theorem arg_md {k : IntKind} {a : Int} {m : Nat} (h0 : 0 ≤ a) (h1 : a ≤ top k) : TRep g c (.md k m (a.toNat % m)) (.int k a) :=
  ⟨a.toNat, by rw [Int.toNat_of_nonneg h0], rfl, by omega⟩
theorem Below.ext (h : Below w.heap.size w w') : Ext w w' := ⟨h.os, h.tape, h.output, h.size, h.block⟩
theorem HOk.ext {h : HT} (hi : HOk D g h c w) (hx : Ext w w') : HOk D g h c w' := ⟨hi.deep, hi.le, hi.inv.ext hx, hi.kp.ext hx⟩
theorem CallT.still {fn : FuncId} {args : List HV} {h : HT} {v : HV} {v0 : Value} (hv : ∀ g, TRep g c v v0)
    (hc : ∀ (w : World) (g : Gm) (vs : List Value), HOk D g h c w → TReps g c args vs → Calls Pr fn vs.toArray w fun e w' => e = .returned v0 ∧ Below w.heap.size w w') : CallT Pr D fn args h c v h c := by
  intro w g vs hi ha
  refine (hc w g vs hi ha).mono fun e w' ⟨he, hb⟩ => ?_
  have hx := Below.ext hb
  exact ⟨v0, g, he, HOk.ext hi hx, Post.ext hi.inv hx, hv g⟩
def trueH : Hook := fun args h c => match args with
  | [] => .ok (.bool true) h c
  | _ => .x 70
end
instance : Env := noEnv
end
end Go.FM
