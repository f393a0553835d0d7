/-
  The abstract machine: a callee's stores and its caller's; what a call hands back.
-/
import Derived.Test.YtmfegciehdjicaaAbsOps7
set_option linter.unusedVariables false
set_option linter.unusedSimpArgs false
namespace Go.AbsM

section
variable {P : Program} {w : World} {g : Gh} {may : Nat → Prop} {S : List Store} {t : Store}

theorem HRep.inv_tup {as : List AV} {v : Value} {S : List Store} (h : HRep P w g S (.tup as) v) : ∃ vs : List Value, v = .tuple vs.toArray ∧ vs.length = as.length ∧ ∀ (i : Nat) (c : AV) (u : Value), as[i]? = some c → vs[i]? = some u → HRep1 P w g S c u := h

theorem HRep.of_one {x : AV} {v : Value} {S : List Store} (h : HRep1 P w g S x v) (hx : ∀ l, x ≠ .tup l) : HRep P w g S x v := by
  cases x <;> first | exact h | exact absurd rfl (hx _)

theorem HRep1.of_tup {as : List AV} {v : Value} {S : List Store} (h : HRep1 P w g S (.tup as) v) : False := h


def Gh.push (g : Gh) : Gh := { M := g.M, B := fun i k => match i with | 0 => 0 | i + 1 => g.B i k, C := fun i k => match i with | 0 => 0 | i + 1 => g.C i k }
def Gh.pop (g : Gh) : Gh := { M := g.M, B := fun i k => g.B (i + 1) k, C := fun i k => g.C (i + 1) k }

theorem AV.shift_shift (c : AV) (i : Nat) : (c.shift i).shift 1 = c.shift (i + 1) := by cases c <;> rfl

theorem CRep.push {c : AV} {v : Value} (h : CRep P w g S c v) : CRep P w g.push (t :: S) (c.shift 1) v := by cases c <;> exact h
theorem CRep.pop {c : AV} {v : Value} (h : CRep P w g (t :: S) (c.shift 1) v) : CRep P w g.pop S c v := by cases c <;> exact h
theorem HRep1.push {c : AV} {v : Value} (h : HRep1 P w g S c v) (hc : ∀ l, c ≠ .agg l) : HRep1 P w g.push (t :: S) (c.shift 1) v := by cases c <;> first | exact h | exact absurd rfl (hc _)
theorem HRep1.pop {c : AV} {v : Value} (h : HRep1 P w g (t :: S) (c.shift 1) v) (hc : ∀ l, c ≠ .agg l) : HRep1 P w g.pop S c v := by cases c <;> first | exact h | exact absurd rfl (hc _)

theorem SInv.push (h : SInv P w g may S) : SInv P w g.push may ([] :: S) := by
  refine ⟨fun i k cs hg => ?_, fun i k e xs hg => ?_, fun i k e xs hg => ?_, fun i k o i' k' o' hg hg' hl hl' he => ?_, h.mlt⟩
  · cases i with
    | zero => cases hg
    | succ i =>
      obtain ⟨h1, h2, vs, t, h3, h4, h5⟩ := h.box i k cs hg
      refine ⟨h1, h2, vs, t, h3, h4, fun j c u hc hu => ⟨?_, (h5 j c u hc hu).2⟩⟩
      rw [← AV.shift_shift]
      exact (h5 j c u hc hu).1.push
  · cases i with
    | zero => cases hg
    | succ i => exact h.arr i k e xs hg
  · cases i with
    | zero => cases hg
    | succ i => exact h.fz i k e xs hg
  · cases i with
    | zero => cases hg
    | succ i =>
      cases i' with
      | zero => cases hg'
      | succ i' =>
        have := h.inj i k o i' k' o' hg hg' hl hl' he
        exact ⟨by omega, this.2⟩

theorem SInv.pop (h : SInv P w g may (t :: S)) : SInv P w g.pop may S := by
  refine ⟨fun i k cs hg => ?_, fun i k e xs hg => h.arr (i + 1) k e xs hg, fun i k e xs hg => h.fz (i + 1) k e xs hg, fun i k o i' k' o' hg hg' hl hl' he => ?_, h.mlt⟩
  · obtain ⟨h1, h2, vs, t, h3, h4, h5⟩ := h.box (i + 1) k cs hg
    refine ⟨h1, h2, vs, t, h3, h4, fun j c u hc hu => ⟨?_, (h5 j c u hc hu).2⟩⟩
    have := (h5 j c u hc hu).1
    rw [← AV.shift_shift] at this
    exact this.pop
  · have := h.inj (i + 1) k o (i' + 1) k' o' hg hg' hl hl' he
    exact ⟨by omega, this.2⟩

theorem Kp.pop {S' : List Store} {t' : Store} {g' : Gh} (h : Kp 1 ([] :: S) g.push (t' :: S') g') : Kp 0 S g S' g'.pop :=
  ⟨fun i k cs _ hg => h.box (i + 1) k cs (by omega) hg, fun i k fz e xs _ hg => h.arr (i + 1) k fz e xs (by omega) hg⟩

/-! ### What a call hands back -/

def OwnAt (P : Program) (may : Nat → Prop) (w : World) (g : Gh) (S : List Store) (e : TypeId) (xs : List AV) (v : Value) (b : Nat) : Prop :=
  may b ∧ (∀ o, ¬ g.M b o) ∧ (∀ i k o, getOb S i k = some o → o.loose = true → g.B i k ≠ b) ∧ 0 < P.cellsOf e ∧ ∃ (cur us : List Value) (cap c : Nat), v = .slice (some ⟨b, 0, none⟩) xs.length c ∧ xs.length ≤ c ∧ c ≤ maxLen ∧ c * P.cellsOf e ≤ cur.length ∧
    w.heap[b]? = some (.cells cur.toArray e (0, 0)) ∧ cur.length = cap * P.cellsOf e ∧ cap ≤ maxLen ∧ xs.length ≤ cap ∧ RepL P w g.M e xs us ∧ cur.take (xs.length * P.cellsOf e) = flat us

def ORep (P : Program) (may : Nat → Prop) (w : World) (g : Gh) (S : List Store) (a : AV) (v : Value) (b : Nat) : Prop :=
  match a with
  | .own e xs => OwnAt P may w g S e xs v b
  | a => HRep1 P w g S a v

/-- Several at once: what nobody else has, each has for itself. -/
def OReps (P : Program) (may : Nat → Prop) (w : World) (g : Gh) (S : List Store) (as : List AV) (vs : List Value) : Prop :=
  vs.length = as.length ∧ ∃ bl : Nat → Nat, (∀ (i : Nat) (c : AV) (u : Value), as[i]? = some c → vs[i]? = some u → ORep P may w g S c u (bl i)) ∧
    ∀ (i j : Nat) (e : TypeId) (xs : List AV) (e' : TypeId) (xs' : List AV), as[i]? = some (.own e xs) → as[j]? = some (.own e' xs') → bl i = bl j → i = j

def ResRep (P : Program) (may : Nat → Prop) (w : World) (g : Gh) (S : List Store) (r : AV) (v : Value) : Prop :=
  match r with
  | .tup as => ∃ vs : List Value, v = .tuple vs.toArray ∧ OReps P may w g S as vs
  | r => ∃ b, ORep P may w g S r v b

/-- The contract of a call, in its caller's stores. -/
def CallC (P : Program) (f : FuncId) (args : List AV) (S S' : List Store) (r : AV) : Prop :=
  ∀ (may : Nat → Prop) (w : World) (g : Gh) (vs : List Value), SInv P w g may S → (∀ b, w.heap.size ≤ b → may b) → vs.length = args.length →
    (∀ (i : Nat) (x : AV) (v : Value), args[i]? = some x → vs[i]? = some v → HRep P w g.push ([] :: S) x v) →
    Calls P f vs.toArray w fun e w' => ∃ v g', e = .returned v ∧ Fr may w g.M w' g'.M ∧ SInv P w' g' may S' ∧ Kp 0 S g S' g' ∧ ResRep P may w' g' S' r v

theorem loadAt_var {t : TypeId} {v u : Value} (h : (Instr.loadAt t v).run P w = .ok u w) : ∃ A, v = .pointer (some A) ∧ (loadVar t A).run P w = .ok u w := by
  cases v with
  | pointer A =>
    cases A with
    | none => simp [Instr.loadAt, Instr.sureAddr, stuck] at h
    | some A => exact ⟨A, rfl, by simpa [Instr.loadAt, Instr.sureAddr] using h⟩
  | _ => simp [Instr.loadAt, Instr.sureAddr, stuck] at h

section
variable {s s' : St} {a : Act}

/-- Several values, each standing to its own. -/
def HReps (P : Program) (w : World) (g : Gh) (S : List Store) (as : List AV) (vs : List Value) : Prop :=
  vs.length = as.length ∧ ∀ (i : Nat) (c : AV) (u : Value), as[i]? = some c → vs[i]? = some u → HRep P w g S c u

theorem HReps.nil {S : List Store} : HReps P w g S [] [] := ⟨rfl, fun i c u h => by simp at h⟩
theorem HReps.cons {S : List Store} {x : AV} {as : List AV} {v : Value} {vs : List Value} (h : HRep P w g S x v) (k : HReps P w g S as vs) : HReps P w g S (x :: as) (v :: vs) := by
  refine ⟨by simp [k.1], fun i c u hc hu => ?_⟩
  cases i with
  | zero => simp at hc hu; subst hc; subst hu; exact h
  | succ i => simp at hc hu; exact k.2 i c u hc hu
theorem HReps.head {S : List Store} {x : AV} {as : List AV} {v : Value} {vs : List Value} (h : HReps P w g S (x :: as) (v :: vs)) : HRep P w g S x v := h.2 0 x v rfl rfl
theorem HReps.tail {S : List Store} {x : AV} {as : List AV} {v : Value} {vs : List Value} (h : HReps P w g S (x :: as) (v :: vs)) : HReps P w g S as vs :=
  ⟨by have := h.1; simpa using this, fun i c u hc hu => h.2 (i + 1) c u (by simpa using hc) (by simpa using hu)⟩
theorem HReps.split {S : List Store} {x : AV} {as : List AV} {vs : List Value} (h : HReps P w g S (x :: as) vs) : ∃ v us, vs = v :: us ∧ HRep P w g S x v ∧ HReps P w g S as us := by
  cases vs with
  | nil => have := h.1; simp at this
  | cons v us => exact ⟨v, us, rfl, h.head, h.tail⟩
theorem HReps.split0 {S : List Store} {vs : List Value} (h : HReps P w g S [] vs) : vs = [] := by
  have := h.1; simpa using this

theorem resultAll_sound (hs : Sim P may s a w g) {rs : List ResultVar} {l : List AV} {f : ResultVar → Sem Value} (hf : ∀ t, f (.tmp t) = pure (a.tmps.getD t undef)) (hf' : ∀ c t, f (.cell c t) = do loadVar t (← asAddr (a.tmps.getD c undef))) (h : resultAll P s rs = some l) :
    ∃ vs : List Value, (rs.mapM f).run P w = .ok vs w ∧ HReps P w g s.stores l vs := by
  induction rs generalizing l with
  | nil => simp [resultAll] at h; subst h; exact ⟨[], rfl, .nil⟩
  | cons r rs ih =>
    simp only [resultAll] at h
    split at h
    · rename_i x k hx hk
      simp only [Option.some.injEq] at h; subst h
      obtain ⟨vs, hrun, hv⟩ := ih hk
      cases r with
      | tmp t =>
        simp only [resultOne, Option.some.injEq] at hx; subst hx
        exact ⟨_ :: vs, by simp only [List.mapM_cons, hf, Sem.run_bind, Sem.run_pure, Result.andThen_ok, hrun], .cons (hs.get t) hv⟩
      | cell c t =>
        simp only [resultOne] at hx
        obtain ⟨u, h1, h2⟩ := loadA_sound hs.inv (hs.get c) hx
        obtain ⟨A, hA, h1⟩ := loadAt_var h1
        exact ⟨u :: vs, by simp only [List.mapM_cons, hf', hA, asAddr, Sem.run_bind, Sem.run_pure, Result.andThen_ok, h1, hrun], .cons h2 hv⟩
    · cases h

theorem HReps.settles {s' : St} {g' : Gh} (h : Settles P may s a w g s' g') {as : List AV} {vs : List Value} (k : HReps P w g s.stores as vs) : HReps P w g' s'.stores as vs :=
  ⟨k.1, fun i c u hc hu => h.hrep (S := []) (k.2 i c u hc hu)⟩

theorem settleOne_sound (hs : Sim P may s a w g) {x y : AV} {v : Value} (hv : HRep P w g s.stores x v) (h : settleOne s x = some (s', y)) : ∃ g', Settles P may s a w g s' g' ∧ HRep P w g' s'.stores y v := by
  unfold settleOne at h
  split at h
  · obtain ⟨g', h1, h2⟩ := resolve_sound hs hv h
    exact ⟨g', h1, HRep.of_rep h2⟩
  · split at h
    · simp only [Option.some.injEq, Prod.mk.injEq] at h
      obtain ⟨rfl, rfl⟩ := h
      exact ⟨g, .refl hs, hv⟩
    · have hv : CRep P w g s.stores (.arr 0 _ _ _ _ _) v := hv
      obtain ⟨g', h1, h2, _⟩ := resolve1_sound hs hv h
      exact ⟨g', h1, HRep.of_rep h2⟩
  · simp only [Option.some.injEq, Prod.mk.injEq] at h
    obtain ⟨rfl, rfl⟩ := h
    exact ⟨g, .refl hs, hv⟩

theorem settle_sound (hs : Sim P may s a w g) {xs ys : List AV} {vs : List Value} (hv : HReps P w g s.stores xs vs) (h : settle s xs = some (s', ys)) : ∃ g', Settles P may s a w g s' g' ∧ HReps P w g' s'.stores ys vs := by
  induction xs generalizing s g ys vs with
  | nil =>
    simp only [settle, Option.some.injEq, Prod.mk.injEq] at h
    obtain ⟨rfl, rfl⟩ := h
    exact ⟨g, .refl hs, hv⟩
  | cons x r ih =>
    simp only [settle] at h
    split at h
    · rename_i s1 b hb
      split at h
      · rename_i s2 l hl
        simp only [Option.some.injEq, Prod.mk.injEq] at h
        obtain ⟨rfl, rfl⟩ := h
        obtain ⟨v, us, rfl, hx, hr⟩ := hv.split
        obtain ⟨g1, h1, hb'⟩ := settleOne_sound hs hx hb
        obtain ⟨g2, h2, hl'⟩ := ih h1.1 (hr.settles h1) hl
        exact ⟨g2, h1.trans h2, .cons (h2.hrep (S := []) hb') hl'⟩
      · cases h
    · cases h

theorem wholeA_spec {k : Nat} {e : TypeId} {lo n tot : Nat} (h : wholeA s k e lo n tot = true) : ∃ xs, getOb s.stores 0 k = some (.arr false e xs) ∧ xs.length = tot ∧ lo = 0 ∧ n = tot := by
  unfold wholeA at h
  split at h
  · rename_i fz e' xs hg
    simp only [Bool.and_eq_true, Bool.not_eq_true', beq_iff_eq] at h
    obtain ⟨⟨⟨⟨rfl, h1⟩, rfl⟩, h2⟩, h3⟩ := h
    exact ⟨xs, hg, h1, h2, h3⟩
  · cases h

/-- Of a result: either it is handed over whole, out of the block of name k, or it is a value or the caller's own. -/
theorem outOne_sound {t : Store} {S : List Store} (hst : s.stores = t :: S) (hi : SInv P w g may s.stores) {used us' : List Nat} {x y : AV} {v : Value} (hv : HRep P w g s.stores x v) (h : outOne s used x = some (us', y)) :
    (∃ k e xs, y = .own e xs ∧ us' = k :: used ∧ k ∉ used ∧ getOb s.stores 0 k = some (.arr false e xs) ∧ OwnAt P may w g.pop S e xs v (g.B 0 k)) ∨
    ((∀ e xs, y ≠ .own e xs) ∧ us' = used ∧ HRep1 P w g.pop S y v) := by
  unfold outOne at h
  split at h
  · rename_i k e lo n tot
    split at h
    · rename_i hc
      split at h
      · rename_i fz e' xs hg
        simp only [Option.some.injEq, Prod.mk.injEq] at h
        obtain ⟨rfl, rfl⟩ := h
        obtain ⟨ys, hg', hlen, rfl, rfl⟩ := wholeA_spec hc.1
        rw [hg] at hg'
        simp only [Option.some.injEq, Ob.arr.injEq] at hg'
        obtain ⟨rfl, rfl, rfl⟩ := hg'
        refine .inl ⟨k, _, _, rfl, rfl, by simpa using hc.2, hg, ?_⟩
        obtain ⟨fz, ys, hg2, ht, hq⟩ := hv.inv_arr
        rw [hg] at hg2
        simp only [Option.some.injEq, Ob.arr.injEq] at hg2
        obtain ⟨rfl, _, rfl⟩ := hg2
        obtain ⟨hln, A, c, rfl, hnc, hcm, hA, hC⟩ := (hq.1 hlen)
        obtain ⟨h1, h2, he, cur, us, cap, h3, h4, h5, h6, h7, h8, h9⟩ := hi.arr 0 k _ _ hg
        refine ⟨h1, h2, fun i k' o ho hl heq => ?_, he, cur, us, cap, c, ?_, by omega, hcm, ?_, h3, by rw [h4, h5], h6, h7, h8, h9⟩
        · have hh : getOb s.stores (i + 1) k' = some o := by rw [hst]; exact ho
          have := hi.inj (i + 1) k' o 0 k _ hh hg hl rfl heq
          omega
        · rw [hA (.inl rfl), ← hlen]; simp
        · rw [h4]; simpa using hC rfl
      · cases h
    · cases h
  · simp only [Option.some.injEq, Prod.mk.injEq] at h
    obtain ⟨rfl, rfl⟩ := h
    rw [hst] at hv
    exact .inr ⟨fun e xs => by simp, rfl, HRep1.of_cell (CRep.pop hv)⟩
  · simp only [Option.some.injEq, Prod.mk.injEq] at h
    obtain ⟨rfl, rfl⟩ := h
    rw [hst] at hv
    exact .inr ⟨fun e xs => by simp, rfl, HRep1.of_cell (CRep.pop hv)⟩
  · simp only [Option.some.injEq, Prod.mk.injEq] at h
    obtain ⟨rfl, rfl⟩ := h
    exact .inr ⟨fun e xs => by simp, rfl, hv⟩
  · simp only [Option.some.injEq, Prod.mk.injEq] at h
    obtain ⟨rfl, rfl⟩ := h
    exact .inr ⟨fun e xs => by simp, rfl, hv⟩
  · simp only [Option.some.injEq, Prod.mk.injEq] at h
    obtain ⟨rfl, rfl⟩ := h
    exact .inr ⟨fun e xs => by simp, rfl, hv⟩
  · simp only [Option.some.injEq, Prod.mk.injEq] at h
    obtain ⟨rfl, rfl⟩ := h
    exact .inr ⟨fun e xs => by simp, rfl, hv⟩
  · simp only [Option.some.injEq, Prod.mk.injEq] at h
    obtain ⟨rfl, rfl⟩ := h
    exact .inr ⟨fun e xs => by simp, rfl, hv⟩
  · rename_i cs
    split at h
    · rename_i hall
      simp only [Option.some.injEq, Prod.mk.injEq] at h
      obtain ⟨rfl, rfl⟩ := h
      refine .inr ⟨fun e xs => by simp, rfl, ?_⟩
      obtain ⟨vs, rfl, hl, hr⟩ := hv.inv_agg
      refine ⟨vs, rfl, hl, fun i c u hc hu => ⟨?_, (hr i c u hc hu).2⟩⟩
      have hval := List.all_eq_true.1 hall c (List.mem_of_getElem? hc)
      exact CRep.of_rep (g := g.pop) ((hr i c u hc hu).1.rep hval) hval
    · cases h
  · cases h

theorem outAll_sound {t : Store} {S : List Store} (hst : s.stores = t :: S) (hi : SInv P w g may s.stores) {used : List Nat} {xs ys : List AV} {vs : List Value} (hv : HReps P w g s.stores xs vs) (h : outAll s used xs = some ys) :
    vs.length = ys.length ∧ ∃ ks : Nat → Nat, (∀ (i : Nat) (c : AV) (u : Value), ys[i]? = some c → vs[i]? = some u → ORep P may w g.pop S c u (g.B 0 (ks i))) ∧
      (∀ (i : Nat) (e : TypeId) (zs : List AV), ys[i]? = some (.own e zs) → ks i ∉ used ∧ ∃ o, getOb s.stores 0 (ks i) = some o ∧ o.loose = true) ∧
      ∀ (i j : Nat) (e : TypeId) (zs : List AV) (e' : TypeId) (zs' : List AV), ys[i]? = some (.own e zs) → ys[j]? = some (.own e' zs') → ks i = ks j → i = j := by
  induction xs generalizing used ys vs with
  | nil =>
    simp only [outAll, Option.some.injEq] at h; subst h
    have := hv.split0; subst this
    exact ⟨rfl, fun _ => 0, fun i c u hc => by simp at hc, fun i e zs hc => by simp at hc, fun i j e zs e' zs' hc => by simp at hc⟩
  | cons x r ih =>
    simp only [outAll] at h
    split at h
    · rename_i u1 y hy
      split at h
      · rename_i l hl
        simp only [Option.some.injEq] at h; subst h
        obtain ⟨v, us, rfl, hx, hr⟩ := hv.split
        obtain ⟨hlen, ks, h1, h2, h3⟩ := ih hr hl
        rcases outOne_sound hst hi hx hy with ⟨k, e, zs, rfl, rfl, hk, hg, ho⟩ | ⟨hno, rfl, ho⟩
        · refine ⟨by simp [hlen], fun i => match i with | 0 => k | i + 1 => ks i, fun i c u hc hu => ?_, fun i e' zs' hc => ?_, fun i j e1 zs1 e2 zs2 hi' hj' he => ?_⟩
          · cases i with
            | zero => simp at hc hu; subst hc; subst hu; exact ho
            | succ i => simp at hc hu; exact h1 i c u hc hu
          · cases i with
            | zero => exact ⟨hk, _, hg, rfl⟩
            | succ i =>
              simp at hc
              obtain ⟨q1, q2⟩ := h2 i _ _ hc
              exact ⟨fun hm => q1 (List.mem_cons_of_mem _ hm), q2⟩
          · cases i with
            | zero =>
              cases j with
              | zero => rfl
              | succ j =>
                simp at hj'
                have := (h2 j _ _ hj').1
                simp only at he
                rw [← he] at this
                exact absurd List.mem_cons_self this
            | succ i =>
              cases j with
              | zero =>
                simp at hi'
                have := (h2 i _ _ hi').1
                simp only at he
                rw [he] at this
                exact absurd List.mem_cons_self this
              | succ j =>
                simp at hi' hj'
                rw [h3 i j _ _ _ _ hi' hj' he]
        · refine ⟨by simp [hlen], fun i => match i with | 0 => 0 | i + 1 => ks i, fun i c u hc hu => ?_, fun i e' zs' hc => ?_, fun i j e1 zs1 e2 zs2 hi' hj' he => ?_⟩
          · cases i with
            | zero =>
              simp at hc hu; subst hc; subst hu
              unfold ORep
              split
              · exact absurd rfl (hno _ _)
              · exact ho
            | succ i => simp at hc hu; exact h1 i c u hc hu
          · cases i with
            | zero => simp at hc; exact absurd hc (hno _ _)
            | succ i => simp at hc; exact h2 i _ _ hc
          · cases i with
            | zero => simp at hi'; exact absurd hi' (hno _ _)
            | succ i =>
              cases j with
              | zero => simp at hj'; exact absurd hj' (hno _ _)
              | succ j =>
                simp at hi' hj'
                rw [h3 i j _ _ _ _ hi' hj' he]
      · cases h
    · cases h
end
end
end Go.AbsM
