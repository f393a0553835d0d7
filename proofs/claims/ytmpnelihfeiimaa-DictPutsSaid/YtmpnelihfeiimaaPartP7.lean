/-
  Texts of a proof over the translated program: proved evaluators and walks, part 7 of 19.
-/
import Derived.Test.YtmpnelihfeiimaaPartP6
import Derived.Below
import Derived.Great.BuildSlice
import Derived.Laws.IdiomStrings
import Derived.Orders
import Derived.WalkKit
import Derived.KernelRfl
set_option linter.unusedVariables false
set_option linter.unusedSimpArgs false
set_option linter.unusedSectionVars false
set_option linter.unnecessarySimpa false
section
namespace Go.AbsM
def AV.pos : AV → Option (Nat × Nat)
  | .arr i k .. => some (i, k)
  | .ref i k _ => some (i, k)
  | .ear i k .. => some (i, k)
  | _ => none
section
variable {P : Program} {w w' : World} {g g' : Gh} {may : Nat → Prop}
def Gh.map (g : Gh) (φ : Nat → Nat → Nat × Nat) : Gh := { M := g.M, B := fun i k => g.B (φ i k).1 (φ i k).2, C := fun i k => g.C (φ i k).1 (φ i k).2 }
theorem CRep.reframe {S S2 : List Store} {φ : Nat → Nat → Nat × Nat} (hob : ∀ i k o, getOb S2 i k = some o → getOb S (φ i k).1 (φ i k).2 = some o) {c : AV} {i i0 : Nat} {u : Value}
    (hc : ∀ j m, c.pos = some (j, m) → φ (i + j) m = (i0 + j, m) ∧ (getOb S2 (i + j) m).isSome = true) (h : CRep P w g S (c.shift i0) u) : CRep P w (g.map φ) S2 (c.shift i) u := by
  have get : ∀ j m o, φ (i + j) m = (i0 + j, m) → (getOb S2 (i + j) m).isSome = true → getOb S (j + i0) m = some o → getOb S2 (j + i) m = some o := fun j m o h1 h2 h3 => by
    obtain ⟨o2, h4⟩ := Option.isSome_iff_exists.1 h2
    have h5 := hob _ _ _ h4
    rw [h1] at h5
    have e1 : j + i0 = i0 + j := Nat.add_comm _ _
    have e2 : j + i = i + j := Nat.add_comm _ _
    rw [e1] at h3; rw [e2, h4, ← h5, h3]
  cases c with
  | arr j m e lo n tot =>
    obtain ⟨h1, h2⟩ := hc j m rfl
    obtain ⟨fz, xs, q1, q2, q3, q4⟩ := h
    have e2 : φ (j + i) m = (j + i0, m) := by rw [Nat.add_comm j i, Nat.add_comm j i0]; exact h1
    refine ⟨fz, xs, get j m _ h1 h2 q1, q2, fun he => ?_, q4⟩
    have := q3 he
    simp only [Gh.map, e2]
    exact this
  | ref j m off =>
    obtain ⟨h1, h2⟩ := hc j m rfl
    obtain ⟨⟨cs, q1⟩, q2⟩ := h
    have e2 : φ (j + i) m = (j + i0, m) := by rw [Nat.add_comm j i, Nat.add_comm j i0]; exact h1
    refine ⟨⟨cs, get j m _ h1 h2 q1⟩, ?_⟩
    simp only [Gh.map, e2]
    exact q2
  | ear j m e tot k off =>
    obtain ⟨h1, h2⟩ := hc j m rfl
    obtain ⟨fz, xs, q1, q2, q3⟩ := h
    have e2 : φ (j + i) m = (j + i0, m) := by rw [Nat.add_comm j i, Nat.add_comm j i0]; exact h1
    refine ⟨fz, xs, get j m _ h1 h2 q1, q2, fun he => ?_⟩
    have := q3 he
    simp only [Gh.map, e2]
    exact this
  | _ => exact h
theorem SInv.reframe {S S2 : List Store} {φ : Nat → Nat → Nat × Nat} (hi : SInv P w g may S) (hob : ∀ i k o, getOb S2 i k = some o → getOb S (φ i k).1 (φ i k).2 = some o)
    (hbox : ∀ i k cs, getOb S2 i k = some (.box cs) → ∀ c, c ∈ cs → ∀ j m, c.pos = some (j, m) → φ (i + j) m = ((φ i k).1 + j, m) ∧ (getOb S2 (i + j) m).isSome = true)
    (hinj : ∀ i k i' k', (getOb S2 i k).isSome = true → (getOb S2 i' k').isSome = true → φ i k = φ i' k' → i = i' ∧ k = k') : SInv P w (g.map φ) may S2 := by
  refine ⟨fun i k cs h => ?_, fun i k e xs h => hi.arr _ _ e xs (hob i k _ h), fun i k e xs h => hi.fz _ _ e xs (hob i k _ h), fun i k o i' k' o' h h' hl hl' he => ?_, hi.mlt⟩
  · obtain ⟨h1, h2, vs, t, h3, h4, h5⟩ := hi.box _ _ cs (hob i k _ h)
    exact ⟨h1, h2, vs, t, h3, h4, fun j c u hc hu => ⟨CRep.reframe hob (hbox i k cs h c (List.mem_of_getElem? hc)) (h5 j c u hc hu).1, (h5 j c u hc hu).2⟩⟩
  · have := hi.inj _ _ o _ _ o' (hob i k _ h) (hob i' k' _ h') hl hl' he
    exact hinj i k i' k' (by rw [h]; rfl) (by rw [h']; rfl) (Prod.ext this.1 this.2)
def findP : List (Nat × Nat) → Nat → Option Nat
  | [], _ => none
  | (a, b) :: r, n => if a = n then some b else findP r n
def findQ : List (Nat × Nat) → Nat → Option Nat
  | [], _ => none
  | (a, b) :: r, n => if b = n then some a else findQ r n
theorem findP_mem {ps : List (Nat × Nat)} {a b : Nat} (h : findP ps a = some b) : (a, b) ∈ ps := by
  induction ps with
  | nil => cases h
  | cons p r ih =>
    obtain ⟨x, y⟩ := p
    simp only [findP] at h
    split at h
    · rename_i e
      simp only [Option.some.injEq] at h; subst h; subst e; exact List.mem_cons_self
    · exact List.mem_cons_of_mem _ (ih h)
theorem findQ_mem {ps : List (Nat × Nat)} {a b : Nat} (h : findQ ps b = some a) : (a, b) ∈ ps := by
  induction ps with
  | nil => cases h
  | cons p r ih =>
    obtain ⟨x, y⟩ := p
    simp only [findQ] at h
    split at h
    · rename_i e
      simp only [Option.some.injEq] at h; subst h; subst e; exact List.mem_cons_self
    · exact List.mem_cons_of_mem _ (ih h)
theorem findQ_some {ps : List (Nat × Nat)} {a b : Nat} (h : (a, b) ∈ ps) : ∃ a', findQ ps b = some a' := by
  induction ps with
  | nil => cases h
  | cons p r ih =>
    obtain ⟨x, y⟩ := p
    simp only [findQ]
    split
    · exact ⟨_, rfl⟩
    · rename_i hne
      rcases List.mem_cons.1 h with h | h
      · cases h; exact absurd rfl hne
      · exact ih h
def without (ps : List (Nat × Nat)) (t : Store) : Store := t.filter fun p => (findQ ps p.1).isNone
theorem look_without (ps : List (Nat × Nat)) (t : Store) (k : Nat) : look (without ps t) k = if (findQ ps k).isNone then look t k else none := by
  unfold without
  induction t with
  | nil => simp only [List.filter_nil, look]; split <;> rfl
  | cons p r ih =>
    obtain ⟨j, o⟩ := p
    simp only [List.filter_cons]
    by_cases hj : (findQ ps j).isNone = true
    · rw [if_pos hj]
      simp only [look]
      by_cases e : j = k
      · subst e; rw [if_pos rfl, if_pos hj]; simp
      · rw [if_neg e, ih]; simp [e]
    · rw [if_neg hj, ih]
      by_cases e : j = k
      · subst e; rw [if_neg hj, if_neg hj]
      · simp only [look, if_neg e]
def phiIn (ps : List (Nat × Nat)) (i k : Nat) : Nat × Nat := match i with
  | 0 => (0, (findP ps k).getD 0)
  | i + 1 => (i, k)
def phiOut (ps : List (Nat × Nat)) (i k : Nat) : Nat × Nat := match i with
  | 0 => match findQ ps k with
    | some m => (0, m)
    | none => (1, k)
  | i + 1 => (i + 2, k)
structure LentOk (t t0 : Store) (ps : List (Nat × Nat)) : Prop where
  there : ∀ m o, look t0 m = some o → ∃ k, findP ps m = some k ∧ look t k = some o
  back : ∀ m k, (m, k) ∈ ps → 500000 ≤ m ∧ (look t0 m).isSome = true ∧ findP ps m = some k ∧ findQ ps k = some m
  val : ∀ m cs, look t0 m = some (.box cs) → ∀ c, c ∈ cs → c.pos = none
  box : ∀ k cs, look t k = some (.box cs) → findQ ps k = none → ∀ c, c ∈ cs → ∀ m, c.pos = some (0, m) → findQ ps m = none
theorem pos_shift (c : AV) (n j m : Nat) (h : c.pos = some (j, m)) : (c.shift n).pos = some (j + n, m) := by
  cases c <;> simp only [AV.pos, AV.shift, Option.some.injEq, Prod.mk.injEq] at h ⊢ <;> first | (obtain ⟨rfl, rfl⟩ := h; exact ⟨rfl, rfl⟩) | cases h
theorem CRep.there {S : List Store} {c : AV} {u : Value} (h : CRep P w g S c u) {j m : Nat} (hp : c.pos = some (j, m)) : (getOb S j m).isSome = true := by
  cases c with
  | arr i k e lo n tot =>
    simp only [AV.pos, Option.some.injEq, Prod.mk.injEq] at hp
    obtain ⟨rfl, rfl⟩ := hp
    obtain ⟨fz, xs, h1, _⟩ := h
    rw [h1]; rfl
  | ref i k off =>
    simp only [AV.pos, Option.some.injEq, Prod.mk.injEq] at hp
    obtain ⟨rfl, rfl⟩ := hp
    obtain ⟨⟨cs, h1⟩, _⟩ := h
    rw [h1]; rfl
  | ear i k e tot j' off =>
    simp only [AV.pos, Option.some.injEq, Prod.mk.injEq] at hp
    obtain ⟨rfl, rfl⟩ := hp
    obtain ⟨fz, xs, h1, _⟩ := h
    rw [h1]; rfl
  | _ => cases hp
theorem LentOk.sinv {t t0 : Store} {ps : List (Nat × Nat)} {R : List Store} (hL : LentOk t t0 ps) (hi : SInv P w g may (t :: R)) : SInv P w (g.map (phiIn ps)) may (t0 :: without ps t :: R) := by
  have hob : ∀ i k o, getOb (t0 :: without ps t :: R) i k = some o → getOb (t :: R) (phiIn ps i k).1 (phiIn ps i k).2 = some o := by
    intro i k o h
    match i with
    | 0 =>
      obtain ⟨k', h1, h2⟩ := hL.there k o h
      show getOb (t :: R) 0 ((findP ps k).getD 0) = some o
      rw [h1]; exact h2
    | 1 =>
      have h : look (without ps t) k = some o := h
      rw [look_without] at h
      split at h
      · exact h
      · cases h
    | i + 2 => exact h
  refine hi.reframe hob (fun i k cs h c hc j m hp => ?_) (fun i k i' k' h h' he => ?_)
  · match i with
    | 0 => rw [hL.val k cs h c hc] at hp; cases hp
    | i + 1 =>
      have e0 : (phiIn ps (i + 1) k).1 = i := rfl
      have e1 : i + 1 + j = (i + j) + 1 := by omega
      rw [e0, e1]
      refine ⟨rfl, ?_⟩
      have h2 := hob _ _ _ h
      obtain ⟨_, _, vs, tt, _, h4, h5⟩ := hi.box _ _ cs h2
      obtain ⟨n, hn⟩ := List.getElem?_of_mem hc
      have hlt : n < cs.length := (List.getElem?_eq_some_iff.1 hn).1
      have h6 := (h5 n c (vs[n]'(by omega)) hn (List.getElem?_eq_getElem _)).1
      have h7 := h6.there (pos_shift c _ j m hp)
      rw [e0] at h7
      match i, h, h2, h7 with
      | 0, h, h2, h7 =>
        have hk : look (without ps t) k = some (.box cs) := h
        rw [look_without] at hk
        split at hk
        · rename_i hq
          match j, hp, h7 with
          | 0, hp, h7 =>
            have := hL.box k cs hk (by simpa using hq) c hc m hp
            show (look (without ps t) m).isSome = true
            rw [look_without, this]
            exact h7
          | j + 1, hp, h7 =>
            have e2 : (0 + (j + 1)) = j + 1 := by omega
            rw [e2]
            exact h7
        · cases hk
      | i + 1, h, h2, h7 =>
        have e2 : i + 1 + j = (i + j) + 1 := by omega
        rw [e2]
        have e3 : j + (i + 1) = (i + j) + 1 := by omega
        rw [e3] at h7
        exact h7
  · match i, i', h, h', he with
    | 0, 0, h, h', he =>
      obtain ⟨o, h⟩ := Option.isSome_iff_exists.1 h
      obtain ⟨o', h'⟩ := Option.isSome_iff_exists.1 h'
      obtain ⟨a, h1, _⟩ := hL.there k o h
      obtain ⟨b, h2, _⟩ := hL.there k' o' h'
      simp only [phiIn, h1, h2, Option.getD_some, Prod.mk.injEq, true_and] at he
      subst he
      have q1 := (hL.back k a (findP_mem h1)).2.2.2
      have q2 := (hL.back k' a (findP_mem h2)).2.2.2
      rw [q1] at q2
      simp only [Option.some.injEq] at q2
      exact ⟨rfl, q2⟩
    | 0, i' + 1, h, h', he =>
      exfalso
      obtain ⟨o, h⟩ := Option.isSome_iff_exists.1 h
      obtain ⟨a, h1, _⟩ := hL.there k o h
      simp only [phiIn, h1, Option.getD_some, Prod.mk.injEq] at he
      obtain ⟨rfl, rfl⟩ := he
      have q1 := (hL.back k a (findP_mem h1)).2.2.2
      have h' : (look (without ps t) a).isSome = true := h'
      rw [look_without, q1] at h'
      cases h'
    | i + 1, 0, h, h', he =>
      exfalso
      obtain ⟨o, h'⟩ := Option.isSome_iff_exists.1 h'
      obtain ⟨a, h1, _⟩ := hL.there k' o h'
      simp only [phiIn, h1, Option.getD_some, Prod.mk.injEq] at he
      obtain ⟨rfl, rfl⟩ := he
      have q1 := (hL.back k' k (findP_mem h1)).2.2.2
      have h : (look (without ps t) k).isSome = true := h
      rw [look_without, q1] at h
      cases h
    | i + 1, i' + 1, h, h', he =>
      simp only [phiIn, Prod.mk.injEq] at he
      exact ⟨by omega, he.2⟩
structure BackOk (t t' t0' : Store) (ps : List (Nat × Nat)) : Prop where
  lent : ∀ m k, (m, k) ∈ ps → ∃ o, look t0' m = some o ∧ look t' k = some o ∧ o.loose = true
  same : ∀ k, findQ ps k = none → look t' k = look t k
  val : ∀ m k cs, (m, k) ∈ ps → look t0' m = some (.box cs) → ∀ c, c ∈ cs → c.pos = none
theorem BackOk.sinv {t t0 t' t0' : Store} {ps : List (Nat × Nat)} {R : List Store} (hL : LentOk t t0 ps) (hB : BackOk t t' t0' ps) (hi : SInv P w g may (t0' :: without ps t :: R)) : SInv P w (g.map (phiOut ps)) may (t' :: R) := by
  have hob : ∀ i k o, getOb (t' :: R) i k = some o → getOb (t0' :: without ps t :: R) (phiOut ps i k).1 (phiOut ps i k).2 = some o := by
    intro i k o h
    match i with
    | 0 =>
      have h : look t' k = some o := h
      simp only [phiOut]
      cases hq : findQ ps k with
      | some m =>
        obtain ⟨o', h1, h2, _⟩ := hB.lent m k (findQ_mem hq)
        rw [h] at h2
        simp only [Option.some.injEq] at h2; subst h2
        exact h1
      | none =>
        show look (without ps t) k = some o
        rw [look_without, hq, ← hB.same k hq]; exact h
    | i + 1 => exact h
  refine hi.reframe hob (fun i k cs h c hc j m hp => ?_) (fun i k i' k' h h' he => ?_)
  · match i with
    | 0 =>
      have h0 : look t' k = some (.box cs) := h
      cases hq : findQ ps k with
      | some m' =>
        obtain ⟨o', h1, h2, _⟩ := hB.lent m' k (findQ_mem hq)
        rw [h0] at h2
        simp only [Option.some.injEq] at h2; subst h2
        rw [hB.val m' k cs (findQ_mem hq) h1 c hc] at hp; cases hp
      | none =>
        have e0 : (phiOut ps 0 k).1 = 1 := by simp only [phiOut, hq]
        have h2 := hob 0 k _ h
        obtain ⟨_, _, vs, tt, _, h4, h5⟩ := hi.box _ _ cs h2
        obtain ⟨n, hn⟩ := List.getElem?_of_mem hc
        have hlt : n < cs.length := (List.getElem?_eq_some_iff.1 hn).1
        have h6 := (h5 n c (vs[n]'(by omega)) hn (List.getElem?_eq_getElem _)).1
        have h7 := h6.there (pos_shift c _ j m hp)
        rw [e0] at h7 ⊢
        have hk : look t k = some (.box cs) := by rw [← hB.same k hq]; exact h0
        match j, hp, h7 with
        | 0, hp, h7 =>
          have hm := hL.box k cs hk hq c hc m hp
          refine ⟨by simp only [phiOut, hm], ?_⟩
          show (look t' m).isSome = true
          rw [hB.same m hm]
          have h7 : (look (without ps t) m).isSome = true := h7
          rw [look_without, hm] at h7
          exact h7
        | j + 1, hp, h7 =>
          have e3 : 0 + (j + 1) = j + 1 := by omega
          have e4 : 1 + (j + 1) = j + 2 := by omega
          rw [e3, e4]
          exact ⟨rfl, h7⟩
    | i + 1 =>
      have e0 : (phiOut ps (i + 1) k).1 = i + 2 := rfl
      have h2 := hob (i + 1) k _ h
      obtain ⟨_, _, vs, tt, _, h4, h5⟩ := hi.box _ _ cs h2
      obtain ⟨n, hn⟩ := List.getElem?_of_mem hc
      have hlt : n < cs.length := (List.getElem?_eq_some_iff.1 hn).1
      have h6 := (h5 n c (vs[n]'(by omega)) hn (List.getElem?_eq_getElem _)).1
      have h7 := h6.there (pos_shift c _ j m hp)
      rw [e0] at h7 ⊢
      have e1 : i + 1 + j = (i + j) + 1 := by omega
      have e2 : i + 2 + j = (i + j) + 2 := by omega
      have e3 : j + (i + 2) = (i + j) + 2 := by omega
      rw [e3] at h7
      rw [e1, e2]
      exact ⟨rfl, h7⟩
  · match i, i', h, h', he with
    | 0, 0, h, h', he =>
      simp only [phiOut] at he
      cases hq : findQ ps k with
      | some m =>
        cases hq' : findQ ps k' with
        | some m' =>
          rw [hq, hq'] at he
          simp only [Prod.mk.injEq, true_and] at he
          subst he
          have q1 := (hL.back m k (findQ_mem hq)).2.2.1
          have q2 := (hL.back m k' (findQ_mem hq')).2.2.1
          rw [q1] at q2
          simp only [Option.some.injEq] at q2
          exact ⟨rfl, q2⟩
        | none => rw [hq, hq'] at he; simp at he
      | none =>
        cases hq' : findQ ps k' with
        | some m' => rw [hq, hq'] at he; simp at he
        | none => rw [hq, hq'] at he; simp at he; exact ⟨rfl, he⟩
    | 0, i' + 1, h, h', he =>
      exfalso
      simp only [phiOut] at he
      cases hq : findQ ps k with
      | some m => rw [hq] at he; simp at he
      | none => rw [hq] at he; simp at he
    | i + 1, 0, h, h', he =>
      exfalso
      simp only [phiOut] at he
      cases hq : findQ ps k' with
      | some m => rw [hq] at he; simp at he
      | none => rw [hq] at he; simp at he
    | i + 1, i' + 1, h, h', he =>
      simp only [phiOut, Prod.mk.injEq] at he
      exact ⟨by omega, he.2⟩
theorem BackOk.kp {t t0 t' t0' : Store} {ps : List (Nat × Nat)} {R : List Store} (hL : LentOk t t0 ps) (hB : BackOk t t' t0' ps) (hK : Kp 1 (t0 :: without ps t :: R) (g.map (phiIn ps)) (t0' :: without ps t :: R) g') :
    Kp 0 (t :: R) g (t' :: R) (g'.map (phiOut ps)) := by
  have ob : ∀ i k o, getOb (t :: R) i k = some o → ∃ j m, getOb (t0 :: without ps t :: R) j m = some o ∧ (1 ≤ j ∨ 500000 ≤ m) ∧ phiIn ps j m = (i, k) ∧ phiOut ps i k = (j, m) := by
    intro i k o h
    match i with
    | i + 1 => exact ⟨i + 2, k, h, .inl (by omega), rfl, rfl⟩
    | 0 =>
      cases hq : findQ ps k with
      | none =>
        refine ⟨1, k, ?_, .inl (Nat.le_refl _), rfl, by simp only [phiOut, hq]⟩
        show look (without ps t) k = some o
        rw [look_without, hq]; exact h
      | some m =>
        obtain ⟨h1, h2, h3, h4⟩ := hL.back m k (findQ_mem hq)
        obtain ⟨o0, h2⟩ := Option.isSome_iff_exists.1 h2
        obtain ⟨k', h5, h6⟩ := hL.there m o0 h2
        rw [h3] at h5
        simp only [Option.some.injEq] at h5; subst h5
        have h : look t k = some o := h
        rw [h] at h6
        simp only [Option.some.injEq] at h6; subst h6
        exact ⟨0, m, h2, .inr h1, by simp only [phiIn, h3, Option.getD_some], by simp only [phiOut, hq]⟩
  have back : ∀ i k j m o, phiOut ps i k = (j, m) → getOb (t0' :: without ps t :: R) j m = some o → (∃ o0, getOb (t :: R) i k = some o0) → getOb (t' :: R) i k = some o := by
    intro i k j m o he h h0
    match i with
    | i + 1 =>
      simp only [phiOut, Prod.mk.injEq] at he
      obtain ⟨rfl, rfl⟩ := he
      exact h
    | 0 =>
      simp only [phiOut] at he
      cases hq : findQ ps k with
      | none =>
        rw [hq] at he
        simp only [Prod.mk.injEq] at he
        obtain ⟨rfl, rfl⟩ := he
        have h : look (without ps t) k = some o := h
        rw [look_without, hq] at h
        show look t' k = some o
        rw [hB.same k hq]; exact h
      | some m' =>
        rw [hq] at he
        simp only [Prod.mk.injEq] at he
        obtain ⟨rfl, rfl⟩ := he
        obtain ⟨o', h1, h2, _⟩ := hB.lent m' k (findQ_mem hq)
        have h : look t0' m' = some o := h
        rw [h1] at h
        simp only [Option.some.injEq] at h; subst h
        exact h2
  refine ⟨fun i k cs _ h => ?_, fun i k fz e xs _ h => ?_⟩
  · obtain ⟨j, m, h1, h2, h3, h4⟩ := ob i k _ h
    obtain ⟨⟨cs', q1⟩, q2⟩ := hK.box j m cs h2 h1
    refine ⟨⟨cs', back i k j m _ h4 q1 ⟨_, h⟩⟩, ?_⟩
    simp only [Gh.map, h4]
    rw [q2]
    simp only [Gh.map, h3]
  · obtain ⟨j, m, h1, h2, h3, h4⟩ := ob i k _ h
    obtain ⟨fz', xs', q1, q2, q3⟩ := hK.arr j m fz e xs h2 h1
    refine ⟨fz', xs', back i k j m _ h4 q1 ⟨_, h⟩, q2, fun he => ?_⟩
    obtain ⟨r1, r2⟩ := q3 he
    simp only [Gh.map, h4]
    refine ⟨by rw [r1]; simp only [Gh.map, h3], fun hf => ?_⟩
    obtain ⟨r3, r4⟩ := r2 hf
    exact ⟨r3, by rw [r4]; simp only [Gh.map, h3]⟩
end
end Go.AbsM
namespace Go.AbsM
section
variable {P : Program} {w w' : World} {g g' : Gh} {may : Nat → Prop}
def AV.valB : AV → Bool
  | .agg cs => cs.all AV.isVal
  | a => a.isVal
theorem HRep.val_any {S S' : List Store} {x : AV} {v : Value} (hx : x.valB = true) (hM : g'.M = g.M) (h : HRep P w g S x v) : HRep P w g' S' x v := by
  cases x with
  | agg cs =>
    obtain ⟨vs, rfl, hl, hr⟩ := h
    refine ⟨vs, rfl, hl, fun i c u hc hu => ⟨?_, (hr i c u hc hu).2⟩⟩
    have hv := List.all_eq_true.1 hx c (List.mem_of_getElem? hc)
    have h1 : Rep P w g.M c u := CRep.rep (hr i c u hc hu).1 hv
    exact CRep.of_rep (by rw [hM]; exact h1) hv
  | arr => cases hx
  | ref => cases hx
  | ear => cases hx
  | efz => cases hx
  | und => cases hx
  | dead => cases hx
  | tup => cases hx
  | own => cases hx
  | obj => cases hx
  | _ =>
    have h1 : Rep P w g.M _ v := h
    exact HRep.of_rep (by rw [hM]; exact h1)
def ArgIn (P : Program) (ps : List (Nat × Nat)) (x y : AV) : Prop :=
  (x.valB = true ∧ ∀ (w : World) (g : Gh) (S : List Store) (v : Value), HRep P w g S x v → HRep P w g S y v) ∨ (∃ m k e n, findP ps m = some k ∧ x = .arr 1 k e 0 n n ∧ y = .arr 0 m e 0 n n) ∨ (∃ m k, findP ps m = some k ∧ x = .ref 1 k 0 ∧ y = .ref 0 m 0)
theorem LentOk.get {t t0 : Store} {ps : List (Nat × Nat)} (hL : LentOk t t0 ps) {m k : Nat} (h : findP ps m = some k) {o : Ob} (ho : look t k = some o) : look t0 m = some o := by
  obtain ⟨o0, h1⟩ := Option.isSome_iff_exists.1 (hL.back m k (findP_mem h)).2.1
  obtain ⟨k', h2, h3⟩ := hL.there m o0 h1
  rw [h] at h2
  simp only [Option.some.injEq] at h2; subst h2
  rw [ho] at h3
  simp only [Option.some.injEq] at h3; subst h3
  exact h1
theorem ArgIn.rep {t t0 : Store} {ps : List (Nat × Nat)} {R : List Store} (hL : LentOk t t0 ps) {x y : AV} {v : Value} (ha : ArgIn P ps x y) (h : HRep P w g.push ([] :: t :: R) x v) : HRep P w (g.map (phiIn ps)) (t0 :: without ps t :: R) y v := by
  rcases ha with ⟨hv, hk⟩ | ⟨m, k, e, n, hf, rfl, rfl⟩ | ⟨m, k, hf, rfl, rfl⟩
  · exact hk _ _ _ _ (HRep.val_any (g := g.push) (g' := g.map (phiIn ps)) hv rfl h)
  · obtain ⟨fz, xs, h1, h2, h3, h4⟩ := h
    have h1 : look t k = some (.arr fz e xs) := h1
    refine ⟨fz, xs, hL.get hf h1, h2, fun he => ?_, h4⟩
    have := h3 he
    have e1 : (g.map (phiIn ps)).B 0 m = g.B 0 k := by simp only [Gh.map, phiIn, hf, Option.getD_some]
    have e2 : (g.map (phiIn ps)).C 0 m = g.C 0 k := by simp only [Gh.map, phiIn, hf, Option.getD_some]
    rw [e1, e2]
    exact this
  · obtain ⟨⟨cs, h1⟩, h2⟩ := h
    have h1 : look t k = some (.box cs) := h1
    refine ⟨⟨cs, hL.get hf h1⟩, ?_⟩
    have e1 : (g.map (phiIn ps)).B 0 m = g.B 0 k := by simp only [Gh.map, phiIn, hf, Option.getD_some]
    rw [e1]
    exact h2
def enterL (fn : Func) (bs : List AV) (S : List Store) : St := { slots := bs ++ List.replicate (fn.ntmps - bs.length) .und, stores := S }
theorem enter_lent {fn : Func} {as bs : List AV} {t t0 : Store} {ps : List (Nat × Nat)} {R : List Store} {vs : List Value} (hL : LentOk t t0 ps) (hlen : as.length = bs.length) (harg : ∀ (i : Nat) (x y : AV), as[i]? = some x → bs[i]? = some y → ArgIn P ps x y)
    (hi : SInv P w g may (t :: R)) (hl : vs.length = as.length) (hr : ∀ (i : Nat) (x : AV) (v : Value), as[i]? = some x → vs[i]? = some v → HRep P w g.push ([] :: t :: R) x v) :
    Sim P may (enterL fn bs (t0 :: without ps t :: R)) { tmps := vs.toArray ++ Array.replicate (fn.ntmps - vs.toArray.size) undef, defers := [] } w (g.map (phiIn ps)) := by
  refine ⟨hL.sinv hi, ?_, fun t1 x hx => ?_, rfl, by simp [enterL]⟩
  · simp [enterL, hl, hlen]
  · simp only [enterL] at hx
    rw [List.getElem?_append] at hx
    split at hx
    · rename_i hlt
      have hv : vs[t1]? = some (vs[t1]'(by omega)) := List.getElem?_eq_getElem _
      have : (vs.toArray ++ Array.replicate (fn.ntmps - vs.toArray.size) undef).getD t1 undef = vs[t1]'(by omega) := by
        rw [Array.getD_eq_getD_getElem?, Array.getElem?_append_left (by simp; omega)]
        simp [hl, hlen, hlt]
      rw [this]
      have ha : as[t1]? = some (as[t1]'(by omega)) := List.getElem?_eq_getElem _
      exact (harg t1 _ x ha hx).rep hL (hr t1 _ _ ha hv)
    · rename_i hge
      rw [List.getElem?_replicate] at hx
      split at hx
      · rename_i hlt
        simp only [Option.some.injEq] at hx; subst hx
        show _ = undef
        rw [Array.getD_eq_getD_getElem?, Array.getElem?_append_right (by simp; omega)]
        simp only [List.size_toArray]
        rw [Array.getElem?_replicate, if_pos (by omega)]
        rfl
      · cases hx
theorem body_lent {f : FuncId} {fn : Func} {c : Code} {as bs : List AV} {t t0 t' : Store} {ps : List (Nat × Nat)} {R : List Store} {r : AV} (hf : P.funcs[f]? = some fn) (hb : fn.body = some c) (hL : LentOk t t0 ps) (hlen : as.length = bs.length)
    (harg : ∀ (i : Nat) (x y : AV), as[i]? = some x → bs[i]? = some y → ArgIn P ps x y)
    (hc : ∀ (may : Nat → Prop) (a : Act) (w : World) (g : Gh), Sim P may (enterL fn bs (t0 :: without ps t :: R)) a w g → (∀ b, w.heap.size ≤ b → may b) → c.wp P (fun x a' w' => ∃ e s1 s2 l l1 ys t0', x = AExit.toExit e ∧ (e = .ret ∨ e = .normal) ∧ resultAll P s1 fn.results.toList = some l ∧ settle s1 l = some (s2, l1) ∧ outAll s2 (ps.map (·.1)) l1 = some ys ∧ s2.stores = t0' :: without ps t :: R ∧ BackOk t t' t0' ps ∧ r = oneOf ys ∧ (∀ y, y ∈ ys → y.shut1 = true) ∧ Leaves P may (enterL fn bs (t0 :: without ps t :: R)) w g s1 a' w') a w) : CallC P f as (t :: R) (t' :: R) r := by
  intro may w g vs hi hm hl hargs
  refine calls_of_wp hf hb (wp_mono (hc may _ w _ (enter_lent hL hlen harg hi hl hargs) hm) fun x a' w' ⟨e, s1, s2, l, l1, ys, t0', hx, he, hres, hse, ho, hst, hB, hr, hshut, g1, h1, h2, h3⟩ => ?_)
  have fin : a'.defers = [] ∧ ∃ v, (results fn a'.tmps).run P w' = .ok v w' ∧ (∃ v' g', Ending.returned v = Ending.returned v' ∧ Fr may w g.M w' g'.M ∧ SInv P w' g' may (t' :: R) ∧ Kp 0 (t :: R) g (t' :: R) g' ∧ ResRep P may w' g' (t' :: R) r v') := by
    refine ⟨h1.defers, ?_⟩
    obtain ⟨us, hrun, hus⟩ := resultAll_sound (f := (fun | .tmp t => pure (a'.tmps.getD t undef) | .cell c t => do loadVar t (← asAddr (a'.tmps.getD c undef)) : ResultVar → Sem Value)) h1 (fun _ => rfl) (fun _ _ => rfl) hres
    obtain ⟨g2, k1, hus1⟩ := settle_sound h1 hus hse
    obtain ⟨hul, ks, o1, o2, o3⟩ := outAll_sound hst k1.1.inv hus1 ho
    have hinv := k1.1.inv
    rw [hst] at hinv
    have hkp : Kp 1 (t0 :: without ps t :: R) (g.map (phiIn ps)) (t0' :: without ps t :: R) g2 := by
      have := h3.trans (k1.2.2.1.mono (by omega)); rw [hst] at this; exact this
    refine ⟨_, results_run (fun _ => rfl) (fun _ _ => rfl) hrun, _, g2.map (phiOut ps), rfl, h2.trans k1.2.1, hB.sinv hL hinv, hB.kp hL hkp, ?_⟩
    have one : ∀ (i : Nat) (y : AV) (u : Value), ys[i]? = some y → us[i]? = some u → ORep P may w' (g2.map (phiOut ps)) (t' :: R) y u (g2.B 0 (ks i)) := by
      intro i y u hy hu
      have hy1 := o1 i y u hy hu
      by_cases hown : ∃ e xs, y = .own e xs
      · obtain ⟨e, xs, rfl⟩ := hown
        obtain ⟨hnu, o, ho1, ho2⟩ := o2 i _ _ hy
        obtain ⟨q1, q2, q3, q4⟩ := hy1
        refine ⟨q1, q2, fun i' k o' hg hl' heq => ?_, q4⟩
        match i' with
        | i' + 1 => exact q3 (i' + 1) k o' hg hl' heq
        | 0 =>
          have hg : look t' k = some o' := hg
          simp only [Gh.map] at heq
          cases hq : findQ ps k with
          | none =>
            simp only [phiOut, hq] at heq
            refine q3 0 k o' ?_ hl' heq
            show look (without ps t) k = some o'
            rw [look_without, hq, ← hB.same k hq]; exact hg
          | some m =>
            simp only [phiOut, hq] at heq
            obtain ⟨o'', p1, p2, p3⟩ := hB.lent m k (findQ_mem hq)
            have hg1 : getOb s2.stores 0 m = some o'' := by rw [hst]; exact p1
            have := (k1.1.inv.inj 0 m o'' 0 (ks i) o hg1 ho1 p3 ho2 heq).2
            exact hnu (by rw [← this]; exact List.mem_map.2 ⟨(m, k), findQ_mem hq, rfl⟩)
      · have h' : HRep1 P w' g2.pop (without ps t :: R) y u := by cases y <;> first | exact hy1 | exact absurd ⟨_, _, rfl⟩ hown
        have hrep := h'.shut (hshut y (List.mem_of_getElem? hy)) fun e xs he => hown ⟨e, xs, he⟩
        have h2 := HRep1.of_rep (g := g2.map (phiOut ps)) (S := t' :: R) hrep
        cases y <;> first | exact h2 | exact absurd ⟨_, _, rfl⟩ hown
    subst hr
    have all : OReps P may w' (g2.map (phiOut ps)) (t' :: R) ys us := ⟨hul, fun i => g2.B 0 (ks i), one, fun i j e xs e' xs' hi' hj' heq => by
      obtain ⟨_, o, ho1, ho2⟩ := o2 i _ _ hi'
      obtain ⟨_, p, hp1, hp2⟩ := o2 j _ _ hj'
      exact o3 i j _ _ _ _ hi' hj' (k1.1.inv.inj 0 (ks i) o 0 (ks j) p ho1 hp1 ho2 hp2 heq).2⟩
    match ys, us, hul, all with
    | [], [], _, all => exact ⟨[], rfl, all⟩
    | [y], [u], _, all =>
      obtain ⟨_, bl, q1, _⟩ := all
      have := q1 0 y u rfl rfl
      show ResRep P may w' (g2.map (phiOut ps)) (t' :: R) y u
      unfold ResRep
      split
      · exact this.elim
      · exact ⟨_, this⟩
    | y :: y' :: ys, u :: u' :: us, _, all => exact ⟨_, rfl, all⟩
  rcases he with rfl | rfl
  · subst hx; exact fin
  · subst hx; exact fin
end
end Go.AbsM
end

section
namespace Go.AbsM
inductive LT where
  | v (t : VT)
  | l (e : TypeId) (t : VT)
  | m (e : TypeId) (t : VT)
  | b (t : VT)
  | w (t : VT)
@[reducible] def LT.den : LT → Type
  | .v t => t.den
  | .l _ t => List t.den
  | .m _ t => List t.den
  | .b t => t.den
  | .w t => List t.den
def densL : List LT → Type
  | [] => Unit
  | a :: r => a.den × densL r
def effs : List LT → Type
  | [] => Unit
  | .v _ :: r => effs r
  | .l _ _ :: r => effs r
  | .m _ t :: r => List t.den × effs r
  | .b t :: r => t.den × effs r
  | .w t :: r => List t.den × effs r
def LT.isM : LT → Bool
  | .m _ _ => true
  | _ => false
def LT.isB : LT → Bool
  | .b _ => true
  | .w _ => true
  | _ => false
def LT.dec (S : TStore) : (a : LT) → T1 → Option a.den
  | .v t, x => t.ofT1 x
  | .l e t, x => (AT.l e t).dec x
  | .m e t, x => match x with
    | .c (.h k) => match lookT S k with
      | some (.arr false e' t' xs) => if e' = e then if h : t' = t then some (h ▸ xs) else none else none
      | _ => none
    | _ => none
  | .b t, x => match x with
    | .c (.a (.ref 0 k 0)) => match lookT S k with
      | some (.box cs) => match t.ofTC cs with
        | some (y, []) => some y
        | _ => none
      | _ => none
    | _ => none
  | .w t, x => match x with
    | .c (.a (.ref 0 k 0)) => match lookT S k with
      | some (.hb t' xs) => if h : t' = t then some (h ▸ xs) else none
      | _ => none
    | _ => none
def decsL (S : TStore) : (l : List LT) → List T1 → Option (densL l)
  | [], [] => some ()
  | a :: r, x :: xs => match a.dec S x, decsL S r xs with
    | some d, some ds => some (d, ds)
    | _, _ => none
  | _, _ => none
def LT.name : LT → T1 → List Nat
  | .m _ _, .c (.h k) => [k]
  | .b _, .c (.a (.ref 0 k 0)) => [k]
  | .w _, .c (.a (.ref 0 k 0)) => [k]
  | _, _ => []
def namesL : List LT → List T1 → List Nat
  | a :: r, x :: xs => a.name x ++ namesL r xs
  | _, _ => []
def putL : (l : List LT) → List T1 → effs l → TStore → TStore
  | [], _, _, S => S
  | .v _ :: r, _ :: xs, z, S => putL r xs z S
  | .l _ _ :: r, _ :: xs, z, S => putL r xs z S
  | .m e t :: r, x :: xs, z, S => match x with
    | .c (.h k) => putL r xs (Prod.snd z) (layT S k (.arr false e t (Prod.fst z)))
    | _ => S
  | .b t :: r, x :: xs, z, S => match x with
    | .c (.a (.ref 0 k 0)) => putL r xs (Prod.snd z) (layT S k (.box (t.tc (Prod.fst z))))
    | _ => S
  | .w t :: r, x :: xs, z, S => match x with
    | .c (.a (.ref 0 k 0)) => putL r xs (Prod.snd z) (layT S k (.hb t (Prod.fst z)))
    | _ => S
  | _, _, _, S => S
def TC.free (ks : List Nat) : TC → Bool
  | .h k => !ks.contains k
  | .eh k _ _ => !ks.contains k
  | .a (.arr 0 k ..) => !ks.contains k
  | .a (.ear 0 k ..) => !ks.contains k
  | .a (.ref 0 k _) => !ks.contains k
  | _ => true
def okBoxes (ks : List Nat) (S : TStore) : Bool := S.all fun p => ks.contains p.1 || match p.2 with
  | .box cs => cs.all (TC.free ks)
  | _ => true
def sameL : (l : List LT) → densL l → effs l → Prop
  | [], _, _ => True
  | .v _ :: r, d, z => sameL r (Prod.snd d) z
  | .l _ _ :: r, d, z => sameL r (Prod.snd d) z
  | .m _ _ :: r, d, z => (Prod.fst z).length = (Prod.fst d).length ∧ sameL r (Prod.snd d) (Prod.snd z)
  | .b _ :: r, d, z => sameL r (Prod.snd d) (Prod.snd z)
  | .w _ :: r, d, z => sameL r (Prod.snd d) (Prod.snd z)
def lentS : (l : List LT) → Nat → densL l → TStore
  | [], _, _ => []
  | .v _ :: r, j, d => lentS r (j + 1) (Prod.snd d)
  | .l _ _ :: r, j, d => lentS r (j + 1) (Prod.snd d)
  | .m e t :: r, j, d => (j, .arr false e t (Prod.fst d)) :: lentS r (j + 1) (Prod.snd d)
  | .b t :: r, j, d => (j, .box (t.tc (Prod.fst d))) :: lentS r (j + 1) (Prod.snd d)
  | .w t :: r, j, d => (j, .hb t (Prod.fst d)) :: lentS r (j + 1) (Prod.snd d)
def LT.larg (j : Nat) : (a : LT) → a.den → T1
  | .v t, x => t.t1 x
  | .l e t, xs => .c (.sl e t (.mk xs))
  | .m _ _, _ => .c (.h j)
  | .b _, _ => .c (.a (.ref 0 j 0))
  | .w _, _ => .c (.a (.ref 0 j 0))
def largs : (l : List LT) → Nat → densL l → List T1
  | [], _, _ => []
  | a :: r, j, d => a.larg j (Prod.fst d) :: largs r (j + 1) (Prod.snd d)
def lentN : List LT → Nat → List Nat
  | [], _ => []
  | a :: r, j => if a.isM || a.isB then j :: lentN r (j + 1) else lentN r (j + 1)
def getL : (l : List LT) → Nat → TStore → Option (effs l)
  | [], _, _ => some ()
  | .v _ :: r, j, S => getL r (j + 1) S
  | .l _ _ :: r, j, S => getL r (j + 1) S
  | .m e t :: r, j, S => match (LT.m e t).dec S (.c (.h j)), getL r (j + 1) S with
    | some x, some z => some (x, z)
    | _, _ => none
  | .b t :: r, j, S => match (LT.b t).dec S (.c (.a (.ref 0 j 0))), getL r (j + 1) S with
    | some x, some z => some (x, z)
    | _, _ => none
  | .w t :: r, j, S => match (LT.w t).dec S (.c (.a (.ref 0 j 0))), getL r (j + 1) S with
    | some x, some z => some (x, z)
    | _, _ => none
def LT.decA (t : Store) : (a : LT) → AV → Option a.den
  | .v vt, x => vt.ofA x
  | .l e vt, x => (AT.l e vt).decA x
  | .m e vt, x => match x with
    | .arr 1 k e' 0 n tot => match look t k with
      | some (.arr false e2 xs) => if e' = e ∧ e2 = e ∧ n = xs.length ∧ tot = xs.length then mapA vt.ofA xs else none
      | _ => none
    | _ => none
  | .b vt, x => match x with
    | .ref 1 k 0 => match look t k with
      | some (.box cs) => match vt.ofAs cs with
        | some (y, []) => some y
        | _ => none
      | _ => none
    | _ => none
  | .w vt, x => match x with
    | .ref 1 k 0 => match look t k with
      | some (.box cs) => mapA vt.ofA cs
      | _ => none
    | _ => none
def decsLA (t : Store) : (l : List LT) → List AV → Option (densL l)
  | [], [] => some ()
  | a :: r, x :: xs => match a.decA t x, decsLA t r xs with
    | some d, some ds => some (d, ds)
    | _, _ => none
  | _, _ => none
def LT.nameA : LT → AV → List Nat
  | .m _ _, .arr 1 k _ _ _ _ => [k]
  | .b _, .ref 1 k 0 => [k]
  | .w _, .ref 1 k 0 => [k]
  | _, _ => []
def namesLA : List LT → List AV → List Nat
  | a :: r, x :: xs => a.nameA x ++ namesLA r xs
  | _, _ => []
def putLA : (l : List LT) → List AV → effs l → Store → Store
  | [], _, _, S => S
  | .v _ :: r, _ :: xs, z, S => putLA r xs z S
  | .l _ _ :: r, _ :: xs, z, S => putLA r xs z S
  | .m e t :: r, x :: xs, z, S => match x with
    | .arr 1 k _ _ _ _ => putLA r xs (Prod.snd z) (lay S k (.arr false e ((Prod.fst z).map t.emb)))
    | _ => S
  | .b t :: r, x :: xs, z, S => match x with
    | .ref 1 k 0 => putLA r xs (Prod.snd z) (lay S k (.box (t.cells (Prod.fst z))))
    | _ => S
  | .w t :: r, x :: xs, z, S => match x with
    | .ref 1 k 0 => putLA r xs (Prod.snd z) (lay S k (.box ((Prod.fst z).map t.emb)))
    | _ => S
  | _, _, _, S => S
def AV.freeA (ks : List Nat) : AV → Bool
  | .arr 0 k .. => !ks.contains k
  | .ear 0 k .. => !ks.contains k
  | .ref 0 k _ => !ks.contains k
  | _ => true
def okBoxA (ks : List Nat) (t : Store) : Bool := t.all fun p => ks.contains p.1 || match p.2 with
  | .box cs => cs.all (AV.freeA ks)
  | _ => true
def lentA : (l : List LT) → Nat → densL l → Store
  | [], _, _ => []
  | .v _ :: r, j, d => lentA r (j + 1) (Prod.snd d)
  | .l _ _ :: r, j, d => lentA r (j + 1) (Prod.snd d)
  | .m e t :: r, j, d => (j, .arr false e ((Prod.fst d).map t.emb)) :: lentA r (j + 1) (Prod.snd d)
  | .b t :: r, j, d => (j, .box (t.cells (Prod.fst d))) :: lentA r (j + 1) (Prod.snd d)
  | .w t :: r, j, d => (j, .box ((Prod.fst d).map t.emb)) :: lentA r (j + 1) (Prod.snd d)
def pairsL : List LT → Nat → List AV → List (Nat × Nat)
  | .m _ _ :: r, j, x :: xs => match x with
    | .arr 1 k _ _ _ _ => (j, k) :: pairsL r (j + 1) xs
    | _ => pairsL r (j + 1) xs
  | .b _ :: r, j, x :: xs => match x with
    | .ref 1 k 0 => (j, k) :: pairsL r (j + 1) xs
    | _ => pairsL r (j + 1) xs
  | .w _ :: r, j, x :: xs => match x with
    | .ref 1 k 0 => (j, k) :: pairsL r (j + 1) xs
    | _ => pairsL r (j + 1) xs
  | _ :: r, j, _ :: xs => pairsL r (j + 1) xs
  | _, _, _ => []
section
variable {P : Program} {w : World} {g : Gh} {may : Nat → Prop}
theorem lookT_emb (S : TStore) (k : Nat) : look (embStore S) k = (lookT S k).map (TOb.emb S) := look_embAux S S k
theorem decA_m {t : Store} {e : TypeId} {vt : VT} {x : AV} {d : List vt.den} (h : (LT.m e vt).decA t x = some d) : ∃ k, x = .arr 1 k e 0 d.length d.length ∧ look t k = some (.arr false e (d.map vt.emb)) := by
  simp only [LT.decA] at h
  split at h
  · rename_i k e' n tot
    split at h
    · rename_i e2 xs hl
      split at h
      · rename_i hc
        obtain ⟨rfl, rfl, rfl, rfl⟩ := hc
        have := mapA_inv h
        subst this
        refine ⟨k, by simp, hl⟩
      · cases h
    · cases h
  · cases h
theorem decA_b {t : Store} {vt : VT} {x : AV} {d : vt.den} (h : (LT.b vt).decA t x = some d) : ∃ k, x = .ref 1 k 0 ∧ look t k = some (.box (vt.cells d)) := by
  simp only [LT.decA] at h
  split at h
  · rename_i k
    split at h
    · rename_i cs hl
      split at h
      · rename_i y hy
        cases h
        have := ofAs_inv vt _ _ _ hy
        rw [List.append_nil] at this
        subst this
        exact ⟨k, rfl, hl⟩
      · cases h
    · cases h
  · cases h
theorem decA_w {t : Store} {vt : VT} {x : AV} {d : List vt.den} (h : (LT.w vt).decA t x = some d) : ∃ k, x = .ref 1 k 0 ∧ look t k = some (.box (d.map vt.emb)) := by
  simp only [LT.decA] at h
  split at h
  · rename_i k
    split at h
    · rename_i cs hl
      have := mapA_inv h
      subst this
      exact ⟨k, rfl, hl⟩
    · cases h
  · cases h
theorem emb_pos (t : VT) (l : List t.den) (c : AV) (hc : c ∈ l.map t.emb) : c.pos = none := by
  obtain ⟨x, _, rfl⟩ := List.mem_map.1 hc
  rcases emb_val t x with h | ⟨cs, h⟩
  · cases hy : t.emb x <;> rw [hy] at h <;> first | rfl | cases h
  · rw [h]; rfl
theorem decsLA_cons {t : Store} {a : LT} {r : List LT} {as : List AV} {d : densL (a :: r)} (h : decsLA t (a :: r) as = some d) : ∃ x xs, as = x :: xs ∧ a.decA t x = some (Prod.fst d) ∧ decsLA t r xs = some (Prod.snd d) := by
  cases as with
  | nil => simp [decsLA] at h
  | cons x xs =>
    simp only [decsLA] at h
    split at h
    · rename_i d1 ds h1 h2
      cases h
      exact ⟨x, xs, rfl, h1, h2⟩
    · cases h
theorem cells_pos (t : VT) (x : t.den) (c : AV) (hc : c ∈ t.cells x) : c.pos = none := by
  rw [← tc_emb t x []] at hc
  obtain ⟨c', hc', rfl⟩ := List.mem_map.1 hc
  have := isVal_is (tc_val t x c' hc') []
  cases hy : c'.emb [] <;> rw [hy] at this <;> first | rfl | cases this
theorem pairs_ok {t : Store} : ∀ (l : List LT) (j : Nat) (as : List AV) (d : densL l), decsLA t l as = some d →
    (∀ m o, look (lentA l j d) m = some o → ∃ k, findP (pairsL l j as) m = some k ∧ look t k = some o) ∧
    (∀ m k, (m, k) ∈ pairsL l j as → j ≤ m ∧ (look (lentA l j d) m).isSome = true ∧ (look t k).isSome = true) ∧
    (∀ m cs, look (lentA l j d) m = some (.box cs) → ∀ c, c ∈ cs → c.pos = none) ∧
    (∀ m o, look (lentA l j d) m = some o → j ≤ m) ∧
    (pairsL l j as).map (·.2) = namesLA l as ∧ (pairsL l j as).map (·.1) = lentN l j
  | [], j, as, d, h => by
    cases as with
    | nil => exact ⟨(fun m o h => by cases h), (fun m k h => by cases h), (fun m cs h => by cases h), (fun m o h => by cases h), rfl, rfl⟩
    | cons => simp [decsLA] at h
  | .v vt :: r, j, as, d, h => by
    obtain ⟨x, xs, rfl, h1, h2⟩ := decsLA_cons h
    obtain ⟨q1, q2, q3, q4, q5, q6⟩ := pairs_ok r (j + 1) xs _ h2
    exact ⟨q1, fun m k hm => ⟨by have := (q2 m k hm).1; omega, (q2 m k hm).2⟩, q3, fun m o hm => by have := q4 m o hm; omega, q5, q6⟩
  | .l e vt :: r, j, as, d, h => by
    obtain ⟨x, xs, rfl, h1, h2⟩ := decsLA_cons h
    obtain ⟨q1, q2, q3, q4, q5, q6⟩ := pairs_ok r (j + 1) xs _ h2
    exact ⟨q1, fun m k hm => ⟨by have := (q2 m k hm).1; omega, (q2 m k hm).2⟩, q3, fun m o hm => by have := q4 m o hm; omega, q5, q6⟩
  | .m e vt :: r, j, as, d, h => by
    obtain ⟨x, xs, rfl, h1, h2⟩ := decsLA_cons h
    obtain ⟨q1, q2, q3, q4, q5, q6⟩ := pairs_ok r (j + 1) xs _ h2
    obtain ⟨k0, rfl, h3⟩ := decA_m h1
    refine ⟨fun m o hm => ?_, fun m k hm => ?_, fun m cs hm => ?_, fun m o hm => ?_, ?_, ?_⟩
    · simp only [lentA, look] at hm
      simp only [pairsL, findP]
      split at hm
      · rename_i he; subst he
        rw [if_pos rfl]
        simp only [Option.some.injEq] at hm; subst hm
        exact ⟨k0, rfl, h3⟩
      · rename_i he
        rw [if_neg he]
        exact q1 m o hm
    · simp only [pairsL] at hm
      simp only [lentA, look]
      rcases List.mem_cons.1 hm with hm | hm
      · cases hm
        rw [if_pos rfl]; exact ⟨Nat.le_refl _, rfl, by rw [h3]; rfl⟩
      · obtain ⟨p1, p2, p3⟩ := q2 m k hm
        rw [if_neg (by omega)]
        exact ⟨by omega, p2, p3⟩
    · simp only [lentA, look] at hm
      split at hm
      · cases hm
      · exact q3 m cs hm
    · simp only [lentA, look] at hm
      split at hm
      · rename_i he; omega
      · have := q4 m o hm; omega
    · simp only [pairsL, namesLA, LT.nameA, List.map_cons, q5]; rfl
    · simp only [pairsL, lentN, LT.isM, Bool.true_or, if_true, List.map_cons, q6]
  | .b vt :: r, j, as, d, h => by
    obtain ⟨x, xs, rfl, h1, h2⟩ := decsLA_cons h
    obtain ⟨q1, q2, q3, q4, q5, q6⟩ := pairs_ok r (j + 1) xs _ h2
    obtain ⟨k0, rfl, h3⟩ := decA_b h1
    refine ⟨fun m o hm => ?_, fun m k hm => ?_, fun m cs hm => ?_, fun m o hm => ?_, ?_, ?_⟩
    · simp only [lentA, look] at hm
      simp only [pairsL, findP]
      split at hm
      · rename_i he; subst he
        rw [if_pos rfl]
        simp only [Option.some.injEq] at hm; subst hm
        exact ⟨k0, rfl, h3⟩
      · rename_i he
        rw [if_neg he]
        exact q1 m o hm
    · simp only [pairsL] at hm
      simp only [lentA, look]
      rcases List.mem_cons.1 hm with hm | hm
      · cases hm
        rw [if_pos rfl]; exact ⟨Nat.le_refl _, rfl, by rw [h3]; rfl⟩
      · obtain ⟨p1, p2, p3⟩ := q2 m k hm
        rw [if_neg (by omega)]
        exact ⟨by omega, p2, p3⟩
    · simp only [lentA, look] at hm
      split at hm
      · simp only [Option.some.injEq, Ob.box.injEq] at hm
        subst hm
        exact cells_pos vt _
      · exact q3 m cs hm
    · simp only [lentA, look] at hm
      split at hm
      · rename_i he; omega
      · have := q4 m o hm; omega
    · simp only [pairsL, namesLA, LT.nameA, List.map_cons, q5]; rfl
    · simp only [pairsL, lentN, LT.isB, Bool.or_true, if_true, List.map_cons, q6]
  | .w vt :: r, j, as, d, h => by
    obtain ⟨x, xs, rfl, h1, h2⟩ := decsLA_cons h
    obtain ⟨q1, q2, q3, q4, q5, q6⟩ := pairs_ok r (j + 1) xs _ h2
    obtain ⟨k0, rfl, h3⟩ := decA_w h1
    refine ⟨fun m o hm => ?_, fun m k hm => ?_, fun m cs hm => ?_, fun m o hm => ?_, ?_, ?_⟩
    · simp only [lentA, look] at hm
      simp only [pairsL, findP]
      split at hm
      · rename_i he; subst he
        rw [if_pos rfl]
        simp only [Option.some.injEq] at hm; subst hm
        exact ⟨k0, rfl, h3⟩
      · rename_i he
        rw [if_neg he]
        exact q1 m o hm
    · simp only [pairsL] at hm
      simp only [lentA, look]
      rcases List.mem_cons.1 hm with hm | hm
      · cases hm
        rw [if_pos rfl]; exact ⟨Nat.le_refl _, rfl, by rw [h3]; rfl⟩
      · obtain ⟨p1, p2, p3⟩ := q2 m k hm
        rw [if_neg (by omega)]
        exact ⟨by omega, p2, p3⟩
    · simp only [lentA, look] at hm
      split at hm
      · simp only [Option.some.injEq, Ob.box.injEq] at hm
        subst hm
        exact emb_pos vt _
      · exact q3 m cs hm
    · simp only [lentA, look] at hm
      split at hm
      · rename_i he; omega
      · have := q4 m o hm; omega
    · simp only [pairsL, namesLA, LT.nameA, List.map_cons, q5]; rfl
    · simp only [pairsL, lentN, LT.isB, Bool.or_true, if_true, List.map_cons, q6]
theorem lentN_lt : ∀ (l : List LT) (j m : Nat), m ∈ lentN l j → j ≤ m
  | [], j, m, h => by cases h
  | a :: r, j, m, h => by
    simp only [lentN] at h
    split at h
    · rcases List.mem_cons.1 h with rfl | h
      · exact Nat.le_refl _
      · have := lentN_lt r (j + 1) m h; omega
    · have := lentN_lt r (j + 1) m h; omega
theorem lentN_nodup : ∀ (l : List LT) (j : Nat), (lentN l j).Nodup
  | [], j => List.nodup_nil
  | a :: r, j => by
    simp only [lentN]
    split
    · refine List.nodup_cons.2 ⟨fun h => ?_, lentN_nodup r (j + 1)⟩
      have := lentN_lt r (j + 1) j h; omega
    · exact lentN_nodup r (j + 1)
theorem find_of_nodup : ∀ {ps : List (Nat × Nat)}, (ps.map (·.1)).Nodup → (ps.map (·.2)).Nodup → ∀ {m k : Nat}, (m, k) ∈ ps → findP ps m = some k ∧ findQ ps k = some m
  | [], _, _, m, k, h => by cases h
  | (a, b) :: r, h1, h2, m, k, h => by
    simp only [List.map_cons] at h1 h2
    obtain ⟨n1, h1⟩ := List.nodup_cons.1 h1
    obtain ⟨n2, h2⟩ := List.nodup_cons.1 h2
    simp only [findP, findQ]
    rcases List.mem_cons.1 h with h | h
    · cases h; exact ⟨if_pos rfl, if_pos rfl⟩
    · obtain ⟨q1, q2⟩ := find_of_nodup h1 h2 h
      have e1 : a ≠ m := fun e => n1 (by rw [e]; exact List.mem_map.2 ⟨_, h, rfl⟩)
      have e2 : b ≠ k := fun e => n2 (by rw [e]; exact List.mem_map.2 ⟨_, h, rfl⟩)
      rw [if_neg e1, if_neg e2]; exact ⟨q1, q2⟩
theorem findQ_none {ps : List (Nat × Nat)} {k : Nat} (h : k ∉ ps.map (·.2)) : findQ ps k = none := by
  cases hq : findQ ps k with
  | none => rfl
  | some m => exact absurd (List.mem_map.2 ⟨_, findQ_mem hq, rfl⟩) h
theorem findQ_not {ps : List (Nat × Nat)} {k : Nat} (h : findQ ps k = none) : k ∉ ps.map (·.2) := fun hm => by
  obtain ⟨⟨a, b⟩, h1, rfl⟩ := List.mem_map.1 hm
  obtain ⟨a', h2⟩ := findQ_some h1
  simp only at h
  rw [h] at h2; cases h2
theorem lentOk {t : Store} {l : List LT} {as : List AV} {d : densL l} (h : decsLA t l as = some d) (hn : (namesLA l as).Nodup) (hb : okBoxA (namesLA l as) t = true) : LentOk t (lentA l 500000 d) (pairsL l 500000 as) := by
  obtain ⟨q1, q2, q3, q4, q5, q6⟩ := pairs_ok l 500000 as d h
  have n1 : ((pairsL l 500000 as).map (·.1)).Nodup := by rw [q6]; exact lentN_nodup _ _
  have n2 : ((pairsL l 500000 as).map (·.2)).Nodup := by rw [q5]; exact hn
  refine ⟨q1, fun m k hm => ⟨(q2 m k hm).1, (q2 m k hm).2.1, find_of_nodup n1 n2 hm⟩, q3, fun k cs hk hq c hc m hp => ?_⟩
  have hk' := findQ_not hq
  rw [q5] at hk'
  have hmem : (k, Ob.box cs) ∈ t := by
    have : ∀ (t : Store), look t k = some (.box cs) → (k, Ob.box cs) ∈ t := by
      intro t
      induction t with
      | nil => intro h; cases h
      | cons p r ih =>
        obtain ⟨j, o⟩ := p
        intro h
        simp only [look] at h
        split at h
        · rename_i e
          simp only [Option.some.injEq] at h; subst h; subst e; exact List.mem_cons_self
        · exact List.mem_cons_of_mem _ (ih h)
    exact this t hk
  have h1 := List.all_eq_true.1 hb _ hmem
  simp only [Bool.or_eq_true] at h1
  rcases h1 with h1 | h1
  · exact absurd (by simpa using h1) hk'
  · have h2 := List.all_eq_true.1 h1 c hc
    refine findQ_none ?_
    rw [q5]
    intro hm
    have hcon : (namesLA l as).contains m = true := by simpa using hm
    cases c with
    | arr i k' e lo n tot =>
      simp only [AV.pos, Option.some.injEq, Prod.mk.injEq] at hp
      obtain ⟨rfl, rfl⟩ := hp
      simp only [AV.freeA, hcon] at h2; cases h2
    | ref i k' off =>
      simp only [AV.pos, Option.some.injEq, Prod.mk.injEq] at hp
      obtain ⟨rfl, rfl⟩ := hp
      simp only [AV.freeA, hcon] at h2; cases h2
    | ear i k' e tot j off =>
      simp only [AV.pos, Option.some.injEq, Prod.mk.injEq] at hp
      obtain ⟨rfl, rfl⟩ := hp
      simp only [AV.freeA, hcon] at h2; cases h2
    | _ => cases hp
theorem look_putLA : ∀ (l : List LT) (as : List AV) (z : effs l) (t : Store) (k : Nat), k ∉ namesLA l as → look (putLA l as z t) k = look t k
  | [], as, z, t, k, h => by cases as <;> rfl
  | .v _ :: r, [], z, t, k, h => rfl
  | .l _ _ :: r, [], z, t, k, h => rfl
  | .m _ _ :: r, [], z, t, k, h => rfl
  | .b _ :: r, [], z, t, k, h => rfl
  | .w _ :: r, [], z, t, k, h => rfl
  | .v _ :: r, x :: xs, z, t, k, h => look_putLA r xs z t k (fun hm => h (List.mem_append_right _ hm))
  | .l _ _ :: r, x :: xs, z, t, k, h => look_putLA r xs z t k (fun hm => h (List.mem_append_right _ hm))
  | .m e vt :: r, x :: xs, z, t, k, h => by
    simp only [putLA]
    split
    · rename_i k' _ _ _ _
      have hk : k ≠ k' := fun e => h (by rw [e]; exact List.mem_append_left _ (by simp [LT.nameA]))
      rw [look_putLA r xs _ _ k (fun hm => h (List.mem_append_right _ hm)), look_lay, if_neg hk]
    · rfl
  | .b vt :: r, x :: xs, z, t, k, h => by
    simp only [putLA]
    split
    · rename_i k'
      have hk : k ≠ k' := fun e => h (by rw [e]; exact List.mem_append_left _ (by simp [LT.nameA]))
      rw [look_putLA r xs _ _ k (fun hm => h (List.mem_append_right _ hm)), look_lay, if_neg hk]
    · rfl
  | .w vt :: r, x :: xs, z, t, k, h => by
    simp only [putLA]
    split
    · rename_i k'
      have hk : k ≠ k' := fun e => h (by rw [e]; exact List.mem_append_left _ (by simp [LT.nameA]))
      rw [look_putLA r xs _ _ k (fun hm => h (List.mem_append_right _ hm)), look_lay, if_neg hk]
    · rfl
theorem dec_m {S : TStore} {e : TypeId} {t : VT} {x : T1} {d : List t.den} (h : (LT.m e t).dec S x = some d) : ∃ k, x = .c (.h k) ∧ lookT S k = some (.arr false e t d) := by
  simp only [LT.dec] at h
  split at h
  · rename_i k
    split at h
    · rename_i e' t' xs hl
      split at h
      · rename_i he
        split at h
        · rename_i ht
          subst he; subst ht
          cases h
          exact ⟨k, rfl, hl⟩
        · cases h
      · cases h
    · cases h
  · cases h
theorem dec_b {S : TStore} {t : VT} {x : T1} {d : t.den} (h : (LT.b t).dec S x = some d) : ∃ k cs, x = .c (.a (.ref 0 k 0)) ∧ lookT S k = some (.box cs) ∧ t.ofTC cs = some (d, []) := by
  simp only [LT.dec] at h
  split at h
  · rename_i k
    split at h
    · rename_i cs hl
      split at h
      · rename_i y hy
        cases h
        exact ⟨k, cs, rfl, hl, hy⟩
      · cases h
    · cases h
  · cases h
theorem dec_w {S : TStore} {t : VT} {x : T1} {d : List t.den} (h : (LT.w t).dec S x = some d) : ∃ k, x = .c (.a (.ref 0 k 0)) ∧ lookT S k = some (.hb t d) := by
  simp only [LT.dec] at h
  split at h
  · rename_i k
    split at h
    · rename_i t' xs hl
      split at h
      · rename_i ht
        subst ht
        cases h
        exact ⟨k, rfl, hl⟩
      · cases h
    · cases h
  · cases h
theorem back_ok {S : TStore} {tt : Store} : ∀ (l : List LT) (j : Nat) (as : List AV) (d : densL l) (z : effs l) (t : Store), decsLA tt l as = some d → getL l j S = some z → (namesLA l as).Nodup → (∀ k, k ∈ namesLA l as → (look t k).isSome = true) →
    ∀ m k, (m, k) ∈ pairsL l j as → ∃ o, look (embStore S) m = some o ∧ look (putLA l as z t) k = some o ∧ o.loose = true ∧ ∀ cs, o = .box cs → ∀ c, c ∈ cs → c.pos = none
  | [], j, as, d, z, t, hd, h, hn, ht, m, k, hm => by cases as <;> cases hm
  | .v vt :: r, j, as, d, z, t, hd, h, hn, ht, m, k, hm => by
    obtain ⟨x, xs, rfl, h1, h2⟩ := decsLA_cons hd
    exact back_ok r (j + 1) xs _ z t h2 h hn ht m k hm
  | .l e vt :: r, j, as, d, z, t, hd, h, hn, ht, m, k, hm => by
    obtain ⟨x, xs, rfl, h1, h2⟩ := decsLA_cons hd
    exact back_ok r (j + 1) xs _ z t h2 h hn ht m k hm
  | .m e vt :: r, j, as, d, z, t, hd, h, hn, ht, m, k, hm => by
    obtain ⟨x, xs, rfl, g1, g2⟩ := decsLA_cons hd
    obtain ⟨k', rfl, _⟩ := decA_m g1
    simp only [getL] at h
    split at h
    · rename_i y zs h1 h2
      cases h
      have hn : (k' :: namesLA r xs).Nodup := hn
      obtain ⟨n1, n2⟩ := List.nodup_cons.1 hn
      have hin := ht k' List.mem_cons_self
      obtain ⟨o0, ho0⟩ := Option.isSome_iff_exists.1 hin
      rcases List.mem_cons.1 hm with hm | hm
      · cases hm
        obtain ⟨k0, hk0, h3⟩ := dec_m h1
        cases hk0
        refine ⟨.arr false e (y.map vt.emb), ?_, ?_, rfl, fun cs hc => by cases hc⟩
        · rw [lookT_emb, h3]; rfl
        · show look (putLA r xs zs _) _ = _
          rw [look_putLA r xs zs _ _ n1, look_lay, if_pos rfl, ho0]; rfl
      · exact back_ok r (j + 1) xs _ zs _ g2 h2 n2 (fun k hk => by
          rw [look_lay]
          split
          · rw [ho0]; rfl
          · exact ht k (List.mem_cons_of_mem _ hk)) m k hm
    · cases h
  | .b vt :: r, j, as, d, z, t, hd, h, hn, ht, m, k, hm => by
    obtain ⟨x, xs, rfl, g1, g2⟩ := decsLA_cons hd
    obtain ⟨k', rfl, _⟩ := decA_b g1
    simp only [getL] at h
    split at h
    · rename_i y zs h1 h2
      cases h
      have hn : (k' :: namesLA r xs).Nodup := hn
      obtain ⟨n1, n2⟩ := List.nodup_cons.1 hn
      have hin := ht k' List.mem_cons_self
      obtain ⟨o0, ho0⟩ := Option.isSome_iff_exists.1 hin
      rcases List.mem_cons.1 hm with hm | hm
      · cases hm
        obtain ⟨k0, cs, hk0, h3, h4⟩ := dec_b h1
        cases hk0
        have he := ofTC_emb vt cs [] y S h4
        rw [List.map_nil, List.append_nil] at he
        refine ⟨.box (vt.cells y), ?_, ?_, rfl, fun cs hc => ?_⟩
        · rw [lookT_emb, h3]; show some (Ob.box (cs.map (TC.emb S))) = _; rw [he]
        · show look (putLA r xs zs _) _ = _
          rw [look_putLA r xs zs _ _ n1, look_lay, if_pos rfl, ho0]; rfl
        · cases hc; exact cells_pos vt y
      · exact back_ok r (j + 1) xs _ zs _ g2 h2 n2 (fun k hk => by
          rw [look_lay]
          split
          · rw [ho0]; rfl
          · exact ht k (List.mem_cons_of_mem _ hk)) m k hm
    · cases h
  | .w vt :: r, j, as, d, z, t, hd, h, hn, ht, m, k, hm => by
    obtain ⟨x, xs, rfl, g1, g2⟩ := decsLA_cons hd
    obtain ⟨k', rfl, _⟩ := decA_w g1
    simp only [getL] at h
    split at h
    · rename_i y zs h1 h2
      cases h
      have hn : (k' :: namesLA r xs).Nodup := hn
      obtain ⟨n1, n2⟩ := List.nodup_cons.1 hn
      have hin := ht k' List.mem_cons_self
      obtain ⟨o0, ho0⟩ := Option.isSome_iff_exists.1 hin
      rcases List.mem_cons.1 hm with hm | hm
      · cases hm
        obtain ⟨k0, hk0, h3⟩ := dec_w h1
        cases hk0
        refine ⟨.box (y.map vt.emb), ?_, ?_, rfl, fun cs hc => ?_⟩
        · rw [lookT_emb, h3]; rfl
        · show look (putLA r xs zs _) _ = _
          rw [look_putLA r xs zs _ _ n1, look_lay, if_pos rfl, ho0]; rfl
        · cases hc; exact emb_pos vt y
      · exact back_ok r (j + 1) xs _ zs _ g2 h2 n2 (fun k hk => by
          rw [look_lay]
          split
          · rw [ho0]; rfl
          · exact ht k (List.mem_cons_of_mem _ hk)) m k hm
    · cases h
theorem t1_valB (t : VT) (x : t.den) (S : TStore) : ((t.t1 x).emb S).valB = true := by
  have h := t1_noH t x
  cases hy : t.t1 x with
  | own => rw [hy] at h; cases h
  | agg cs =>
    rw [hy] at h
    show (cs.map (TC.emb S)).all AV.isVal = true
    rw [List.all_map, List.all_eq_true]
    exact fun c hc => isVal_is (List.all_eq_true.1 h c hc) S
  | c c =>
    rw [hy] at h
    have h2 := isVal_is (c := c) h S
    show (c.emb S).valB = true
    cases hz : c.emb S <;> rw [hz] at h2 <;> first | exact h2 | cases h2
theorem args_ok {t : Store} {ps : List (Nat × Nat)} {S : TStore} : ∀ (l : List LT) (j : Nat) (as : List AV) (d : densL l), (∀ e vt, LT.l e vt ∈ l → 0 < P.cellsOf e) → decsLA t l as = some d → (∀ m k, (m, k) ∈ pairsL l j as → findP ps m = some k) → (∀ m o, (m, o) ∈ lentS l j d → lookT S m = some o) →
    as.length = ((largs l j d).map (T1.emb S)).length ∧ ∀ (i : Nat) (x y : AV), as[i]? = some x → ((largs l j d).map (T1.emb S))[i]? = some y → ArgIn P ps x y
  | [], j, as, d, hc, h, hp, hS => by
    cases as with
    | nil => exact ⟨rfl, fun i x y hx => by simp at hx⟩
    | cons => simp [decsLA] at h
  | .v vt :: r, j, as, d, hc, h, hp, hS => by
    obtain ⟨x0, xs, rfl, h1, h2⟩ := decsLA_cons h
    obtain ⟨q1, q2⟩ := args_ok r (j + 1) xs _ (fun e vt hm => hc e vt (List.mem_cons_of_mem _ hm)) h2 hp hS
    refine ⟨by simpa [largs] using q1, fun i x y hx hy => ?_⟩
    cases i with
    | zero =>
      simp only [List.getElem?_cons_zero, Option.some.injEq] at hx; subst hx
      simp only [largs, List.map_cons, List.getElem?_cons_zero, Option.some.injEq] at hy; subst hy
      have e1 : x0 = vt.emb (Prod.fst d) := ofA_inv h1
      have e2 : (LT.larg j (.v vt) (Prod.fst d)).emb S = vt.emb (Prod.fst d) := t1_emb vt _ S
      rw [e1, e2]
      exact .inl ⟨by rw [← t1_emb vt _ S]; exact t1_valB vt _ S, fun w g S v h => h⟩
    | succ i =>
      simp only [largs, List.map_cons, List.getElem?_cons_succ] at hx hy
      exact q2 i x y hx hy
  | .l e vt :: r, j, as, d, hc, h, hp, hS => by
    obtain ⟨x0, xs, rfl, h1, h2⟩ := decsLA_cons h
    obtain ⟨q1, q2⟩ := args_ok r (j + 1) xs _ (fun e vt hm => hc e vt (List.mem_cons_of_mem _ hm)) h2 hp hS
    refine ⟨by simpa [largs] using q1, fun i x y hx hy => ?_⟩
    cases i with
    | zero =>
      simp only [List.getElem?_cons_zero, Option.some.injEq] at hx; subst hx
      simp only [largs, List.map_cons, List.getElem?_cons_zero, Option.some.injEq] at hy; subst hy
      have h1 : (AT.l e vt).decA x0 = some (Prod.fst d) := h1
      refine .inl ⟨?_, fun w g S' v hv => ?_⟩
      · simp only [AT.decA] at h1
        split at h1 <;> first | rfl | cases h1
      · exact decA_rep (a := .l e vt) (fun e' t' he => by cases he; exact hc e vt List.mem_cons_self) h1 hv
    | succ i =>
      simp only [largs, List.map_cons, List.getElem?_cons_succ] at hx hy
      exact q2 i x y hx hy
  | .m e vt :: r, j, as, d, hc, h, hp, hS => by
    obtain ⟨x0, xs, rfl, h1, h2⟩ := decsLA_cons h
    obtain ⟨k0, rfl, h3⟩ := decA_m h1
    obtain ⟨q1, q2⟩ := args_ok r (j + 1) xs _ (fun e vt hm => hc e vt (List.mem_cons_of_mem _ hm)) h2 (fun m k hm => hp m k (List.mem_cons_of_mem _ hm)) (fun m o hm => hS m o (List.mem_cons_of_mem _ hm))
    refine ⟨by simpa [largs] using q1, fun i x y hx hy => ?_⟩
    cases i with
    | zero =>
      simp only [List.getElem?_cons_zero, Option.some.injEq] at hx; subst hx
      simp only [largs, List.map_cons, List.getElem?_cons_zero, Option.some.injEq] at hy; subst hy
      have hl := hS j _ List.mem_cons_self
      refine .inr (.inl ⟨j, k0, e, (Prod.fst d).length, hp j k0 List.mem_cons_self, rfl, ?_⟩)
      show (match shapeT S j with
        | some (e, n) => AV.arr 0 j e 0 n n
        | none => .dead) = _
      simp only [shapeT, hl]
    | succ i =>
      simp only [largs, List.map_cons, List.getElem?_cons_succ] at hx hy
      exact q2 i x y hx hy
  | .b vt :: r, j, as, d, hc, h, hp, hS => by
    obtain ⟨x0, xs, rfl, h1, h2⟩ := decsLA_cons h
    obtain ⟨k0, rfl, h3⟩ := decA_b h1
    obtain ⟨q1, q2⟩ := args_ok r (j + 1) xs _ (fun e vt hm => hc e vt (List.mem_cons_of_mem _ hm)) h2 (fun m k hm => hp m k (List.mem_cons_of_mem _ hm)) (fun m o hm => hS m o (List.mem_cons_of_mem _ hm))
    refine ⟨by simpa [largs] using q1, fun i x y hx hy => ?_⟩
    cases i with
    | zero =>
      simp only [List.getElem?_cons_zero, Option.some.injEq] at hx; subst hx
      simp only [largs, List.map_cons, List.getElem?_cons_zero, Option.some.injEq] at hy; subst hy
      exact .inr (.inr ⟨j, k0, hp j k0 List.mem_cons_self, rfl, rfl⟩)
    | succ i =>
      simp only [largs, List.map_cons, List.getElem?_cons_succ] at hx hy
      exact q2 i x y hx hy
  | .w vt :: r, j, as, d, hc, h, hp, hS => by
    obtain ⟨x0, xs, rfl, h1, h2⟩ := decsLA_cons h
    obtain ⟨k0, rfl, h3⟩ := decA_w h1
    obtain ⟨q1, q2⟩ := args_ok r (j + 1) xs _ (fun e vt hm => hc e vt (List.mem_cons_of_mem _ hm)) h2 (fun m k hm => hp m k (List.mem_cons_of_mem _ hm)) (fun m o hm => hS m o (List.mem_cons_of_mem _ hm))
    refine ⟨by simpa [largs] using q1, fun i x y hx hy => ?_⟩
    cases i with
    | zero =>
      simp only [List.getElem?_cons_zero, Option.some.injEq] at hx; subst hx
      simp only [largs, List.map_cons, List.getElem?_cons_zero, Option.some.injEq] at hy; subst hy
      exact .inr (.inr ⟨j, k0, hp j k0 List.mem_cons_self, rfl, rfl⟩)
    | succ i =>
      simp only [largs, List.map_cons, List.getElem?_cons_succ] at hx hy
      exact q2 i x y hx hy
theorem lentS_emb (S : TStore) : ∀ (l : List LT) (j : Nat) (d : densL l), (lentS l j d).map (fun p => (p.1, p.2.emb S)) = lentA l j d
  | [], j, d => rfl
  | .v _ :: r, j, d => lentS_emb S r (j + 1) _
  | .l _ _ :: r, j, d => lentS_emb S r (j + 1) _
  | .m e t :: r, j, d => by
    simp only [lentS, lentA, List.map_cons, lentS_emb S r (j + 1)]; rfl
  | .b t :: r, j, d => by
    have h1 := lentS_emb S r (j + 1) (Prod.snd d)
    have h2 := tc_emb t (Prod.fst d) S
    show (j, Ob.box ((t.tc (Prod.fst d)).map (TC.emb S))) :: (lentS r (j + 1) (Prod.snd d)).map (fun p => (p.1, p.2.emb S)) = (j, Ob.box (t.cells (Prod.fst d))) :: lentA r (j + 1) (Prod.snd d)
    rw [h1, h2]
  | .w t :: r, j, d => by
    simp only [lentS, lentA, List.map_cons, lentS_emb S r (j + 1)]; rfl
theorem lentS_le : ∀ (l : List LT) (j : Nat) (d : densL l) (m : Nat) (o : TOb), (m, o) ∈ lentS l j d → j ≤ m
  | [], j, d, m, o, h => by cases h
  | .v _ :: r, j, d, m, o, h => by have := lentS_le r (j + 1) _ m o h; omega
  | .l _ _ :: r, j, d, m, o, h => by have := lentS_le r (j + 1) _ m o h; omega
  | .m e t :: r, j, d, m, o, h => by
    rcases List.mem_cons.1 h with h | h
    · cases h; exact Nat.le_refl _
    · have := lentS_le r (j + 1) _ m o h; omega
  | .b t :: r, j, d, m, o, h => by
    rcases List.mem_cons.1 h with h | h
    · cases h; exact Nat.le_refl _
    · have := lentS_le r (j + 1) _ m o h; omega
  | .w t :: r, j, d, m, o, h => by
    rcases List.mem_cons.1 h with h | h
    · cases h; exact Nat.le_refl _
    · have := lentS_le r (j + 1) _ m o h; omega
theorem lentS_look : ∀ (l : List LT) (j : Nat) (d : densL l) (m : Nat) (o : TOb), (m, o) ∈ lentS l j d → lookT (lentS l j d) m = some o
  | [], j, d, m, o, h => by cases h
  | .v _ :: r, j, d, m, o, h => lentS_look r (j + 1) _ m o h
  | .l _ _ :: r, j, d, m, o, h => lentS_look r (j + 1) _ m o h
  | .m e t :: r, j, d, m, o, h => by
    simp only [lentS, lookT]
    rcases List.mem_cons.1 h with h | h
    · cases h; rw [if_pos rfl]
    · have := lentS_le r (j + 1) _ m o h
      rw [if_neg (by omega)]; exact lentS_look r (j + 1) _ m o h
  | .b t :: r, j, d, m, o, h => by
    simp only [lentS, lookT]
    rcases List.mem_cons.1 h with h | h
    · cases h; rw [if_pos rfl]
    · have := lentS_le r (j + 1) _ m o h
      rw [if_neg (by omega)]; exact lentS_look r (j + 1) _ m o h
  | .w t :: r, j, d, m, o, h => by
    simp only [lentS, lookT]
    rcases List.mem_cons.1 h with h | h
    · cases h; rw [if_pos rfl]
    · have := lentS_le r (j + 1) _ m o h
      rw [if_neg (by omega)]; exact lentS_look r (j + 1) _ m o h
def enterTL (fn : Func) (l : List LT) (d : densL l) : TSt := { slots := (largs l 500000 d).map TV.o ++ List.replicate (fn.ntmps - (largs l 500000 d).length) (.a .und), st := lentS l 500000 d }
def outTL (P : Program) (s : TSt) (rs : List ResultVar) (l : List LT) (K : effs l → TV → Prop) : Prop :=
  resultAllT P s rs fun q => settleT s q fun s1 l1 => outAllT s1 (lentN l 500000) l1 fun vs => need (getL l 500000 s1.st) fun z => K z (oneOfT vs)
def endTL (P : Program) (fn : Func) (l : List LT) (K : effs l → TV → Prop) (e : AExit) (s : TSt) : Prop := match e with
  | .ret => outTL P s fn.results.toList l K
  | .normal => outTL P s fn.results.toList l K
  | _ => False
def wpFnL (P : Program) (Λ : Known) (fn : Func) (l : List LT) (d : densL l) (K : effs l → TV → Prop) : Prop := match fn.body with
  | some c => wpT P Λ c (enterTL fn l d) (endTL P fn l K)
  | none => False
theorem fn_lend {E : Env} {Λ : Known} (hΛ : KnownOk P E Λ) {f : FuncId} {fn : Func} {c : Code} (hf : P.funcs[f]? = some fn) (hb : fn.body = some c) (hL : LamOk P Λ c) {l : List LT} (hc : ∀ e vt, LT.l e vt ∈ l → 0 < P.cellsOf e) {d : densL l} {z : effs l} {r : TV}
    (h : wpFnL P Λ fn l d (fun z' r' => z' = z ∧ r' = r)) {t : Store} {R : List Store} {as : List AV} (hd : decsLA t l as = some d) (hn : (namesLA l as).Nodup) (hbx : okBoxA (namesLA l as) t = true) : CallC P f as (t :: R) (putLA l as z t :: R) (r.emb []) := by
  unfold wpFnL at h
  rw [hb] at h
  have hr := wpT_ok hΛ c _ _ hL h
  obtain ⟨q1, q2, q3, q4, q5, q6⟩ := pairs_ok l 500000 as d hd
  have hLO := lentOk hd hn hbx
  have hS : ∀ m o, (m, o) ∈ lentS l 500000 d → lookT (lentS l 500000 d) m = some o := lentS_look l 500000 d
  obtain ⟨a1, a2⟩ := args_ok (P := P) (S := lentS l 500000 d) (ps := pairsL l 500000 as) l 500000 as d hc hd (fun m k hm => (hLO.back m k hm).2.2.1) hS
  refine body_lent hf hb hLO a1 a2 fun may a w g hs hm => ?_
  have hst : (enterTL fn l d).emb (without (pairsL l 500000 as) t :: R) = enterL fn ((largs l 500000 d).map (T1.emb (lentS l 500000 d))) (lentA l 500000 d :: without (pairsL l 500000 as) t :: R) := by
    have e1 : embStore (lentS l 500000 d) = lentA l 500000 d := lentS_emb (lentS l 500000 d) l 500000 d
    simp only [enterTL, TSt.emb, enterL, e1, List.map_append, List.map_map, List.map_replicate, List.length_map]
    rfl
  rw [← hst] at hs ⊢
  refine wp_mono (hr.code hs hm) fun x a' w' ⟨e, s', hx, hp, hl⟩ => ?_
  have he : (e = .ret ∨ e = .normal) ∧ outTL P s' fn.results.toList l (fun z' r' => z' = z ∧ r' = r) := by
    unfold endTL at hp
    cases e with
    | ret => exact ⟨.inl rfl, hp⟩
    | normal => exact ⟨.inr rfl, hp⟩
    | exit i => exact hp.elim
    | goto l => exact hp.elim
  obtain ⟨he, ho⟩ := he
  unfold outTL at ho
  obtain ⟨q, h1, ho⟩ := resultAllT_ok (R := without (pairsL l 500000 as) t :: R) ho
  obtain ⟨s1, l1, h2, _, ho⟩ := settleT_ok (R := without (pairsL l 500000 as) t :: R) ho
  obtain ⟨ys, h3, hos, ho⟩ := outAllT_ok (R := without (pairsL l 500000 as) t :: R) ho
  obtain ⟨z', hz, rfl, hr'⟩ := need_some ho
  obtain ⟨o1, o2⟩ := oneOfT_ok hos
  refine ⟨e, _, _, _, _, _, embStore s1.st, hx, he, h1, h2, by rw [q6]; exact h3, rfl, ?_, by rw [← hr']; exact o1, fun y hy => ?_, hl⟩
  · have hbk := back_ok (tt := t) l 500000 as d z' t hd hz hn (fun k hk => by
      rw [← q5] at hk
      obtain ⟨⟨m, k'⟩, hm, rfl⟩ := List.mem_map.1 hk
      exact (q2 m k' hm).2.2)
    refine ⟨fun m k hm => ?_, fun k hk => ?_, fun m k cs hm hk c hc' => ?_⟩
    · obtain ⟨o, p1, p2, p3, _⟩ := hbk m k hm
      exact ⟨o, p1, p2, p3⟩
    · have := findQ_not hk
      rw [q5] at this
      exact look_putLA l as z' t k this
    · obtain ⟨o, p1, _, _, p4⟩ := hbk m k hm
      rw [hk] at p1
      simp only [Option.some.injEq] at p1
      exact p4 cs p1.symm c hc'
  · obtain ⟨y', hy', rfl⟩ := List.mem_map.1 hy
    exact out1_shut (hos y' hy') []
theorem nlAV_shift {α : Type} (e : TypeId) (f : α → AV) (x : NL α) : (nlAV e f x).shift 1 = nlAV e f x := by cases x <;> rfl
theorem dec_up {S : TStore} {a : LT} {x : T1} {d : a.den} (h : a.dec S x = some d) : a.decA (embStore S) ((x.emb S).shift 1) = some d ∧ a.nameA ((x.emb S).shift 1) = a.name x := by
  cases a with
  | v t =>
    have h : t.ofT1 x = some d := h
    have e1 := ofT1_emb S h
    have e2 : (t.emb d).shift 1 = t.emb d := by
      have := t1_valB t d []
      rw [t1_emb] at this
      cases hy : t.emb d <;> rw [hy] at this <;> first | rfl | cases this
    refine ⟨?_, ?_⟩
    · show t.ofA _ = _
      rw [← e1, e2]; exact ofA_emb t d
    · have : ∀ y : AV, (LT.v t).nameA y = [] := fun y => by unfold LT.nameA; split <;> first | rfl | (rename_i h; cases h)
      rw [this]; rfl
  | l e t =>
    have h : (AT.l e t).dec x = some d := h
    have h5 := dec_decA h
    have hn : ∀ y : AV, (LT.l e t).nameA y = [] := fun y => by unfold LT.nameA; split <;> first | rfl | (rename_i h; cases h)
    have hn2 : (LT.l e t).name x = [] := by unfold LT.name; split <;> first | rfl | (rename_i h; cases h)
    rw [hn, hn2]
    have hx : (x.emb S).shift 1 = x.emb [] := by
      simp only [AT.dec] at h
      split at h
      · rfl
      · rfl
      · exact nlAV_shift _ _ _
      · cases h
    rw [hx]
    exact ⟨h5, rfl⟩
  | m e t =>
    obtain ⟨k, rfl, h1⟩ := dec_m h
    have e1 : ((T1.c (.h k)).emb S).shift 1 = .arr 1 k e 0 d.length d.length := by
      show (AV.shift 1 (match shapeT S k with
        | some (e, n) => AV.arr 0 k e 0 n n
        | none => .dead)) = _
      simp only [shapeT, h1]; rfl
    rw [e1]
    refine ⟨?_, rfl⟩
    have h2 : look (embStore S) k = some (.arr false e (d.map t.emb)) := by rw [lookT_emb, h1]; rfl
    simp only [LT.decA, h2, List.length_map, and_self, if_true, mapA_emb]
  | b t =>
    obtain ⟨k, cs, rfl, h1, h3⟩ := dec_b h
    refine ⟨?_, rfl⟩
    have he := ofTC_emb t cs [] d S h3
    rw [List.map_nil, List.append_nil] at he
    have h2 : look (embStore S) k = some (.box (t.cells d)) := by
      rw [lookT_emb, h1]; show some (Ob.box (cs.map (TC.emb S))) = _; rw [he]
    show (match look (embStore S) k with
      | some (.box cs) => match t.ofAs cs with
        | some (y, []) => some y
        | _ => none
      | _ => none) = some d
    rw [h2]
    have := ofAs_cells t d []
    rw [List.append_nil] at this
    simp only [this]
  | w t =>
    obtain ⟨k, rfl, h1⟩ := dec_w h
    refine ⟨?_, rfl⟩
    have h2 : look (embStore S) k = some (.box (d.map t.emb)) := by
      rw [lookT_emb, h1]; rfl
    show (match look (embStore S) k with
      | some (.box cs) => mapA t.ofA cs
      | _ => none) = some d
    rw [h2]
    exact mapA_emb t d
theorem decs_up {S : TStore} : ∀ {l : List LT} {xs : List T1} {d : densL l}, decsL S l xs = some d → decsLA (embStore S) l ((xs.map (T1.emb S)).map (AV.shift 1)) = some d ∧ namesLA l ((xs.map (T1.emb S)).map (AV.shift 1)) = namesL l xs
  | [], [], d, h => ⟨h, rfl⟩
  | [], _ :: _, d, h => by cases h
  | a :: r, [], d, h => by cases h
  | a :: r, x :: xs, d, h => by
    simp only [decsL] at h
    split at h
    · rename_i d1 ds h1 h2
      cases h
      obtain ⟨p1, p2⟩ := dec_up h1
      obtain ⟨q1, q2⟩ := decs_up h2
      refine ⟨?_, ?_⟩
      · simp only [List.map_cons, decsLA, p1, q1]
      · simp only [List.map_cons, namesLA, namesL, p2, q2]
    · cases h
theorem free_up {ks : List Nat} {S : TStore} {c : TC} (h : c.free ks = true) : (c.emb S).freeA ks = true := by
  cases c with
  | h k =>
    simp only [TC.emb]
    split
    · exact h
    · rfl
  | eh k j off =>
    simp only [TC.emb]
    split
    · exact h
    · rfl
  | sl e t x => cases x <;> rfl
  | a x =>
    simp only [TC.emb]
    cases x with
    | arr i k e lo n tot => cases i <;> first | exact h | rfl
    | ear i k e tot j off => cases i <;> first | exact h | rfl
    | ref i k off => cases i <;> first | exact h | rfl
    | _ => rfl
theorem boxes_up {ks : List Nat} {S : TStore} (h : okBoxes ks S = true) : okBoxA ks (embStore S) = true := by
  refine List.all_eq_true.2 fun p hp => ?_
  obtain ⟨⟨k, o⟩, hq, rfl⟩ := List.mem_map.1 hp
  have := List.all_eq_true.1 h _ hq
  simp only [Bool.or_eq_true] at this ⊢
  rcases this with h1 | h1
  · exact .inl h1
  · refine .inr ?_
    cases o with
    | arr => rfl
    | hb t xs =>
      refine List.all_eq_true.2 fun c hc => ?_
      have := emb_pos t xs c hc
      cases c <;> first | rfl | cases this
    | box cs =>
      refine List.all_eq_true.2 fun c hc => ?_
      obtain ⟨c', hc', rfl⟩ := List.mem_map.1 hc
      exact free_up (List.all_eq_true.1 h1 c' hc')
end
end Go.AbsM
end

section
namespace Go.AbsM
structure LCtr where
  f : FuncId
  sig : List LT
  pre : densL sig → Prop
  eff : densL sig → effs sig
  out : densL sig → TV
  outK : densL sig → (effs sig → TV → Prop) → Prop
  outK_ok : ∀ d K, outK d K → K (eff d) (out d)
  outOk : ∀ d, (out d).outOk = true
  same : ∀ d, pre d → sameL sig d (eff d)
  any : (sig.any fun a => a.isM || a.isB) = true
def LCtr.det (f : FuncId) (sig : List LT) (pre : densL sig → Prop) (eff : densL sig → effs sig) (out : densL sig → TV) (h : ∀ d, (out d).outOk = true) (same : ∀ d, pre d → sameL sig d (eff d)) (any : (sig.any fun a => a.isM || a.isB) = true) : LCtr :=
  { f, sig, pre, eff, out, outK := fun d K => K (eff d) (out d), outK_ok := fun _ _ h => h, outOk := h, same := same, any := any }
def findD : List LCtr → FuncId → Option LCtr
  | [], _ => none
  | c :: r, f => if c.f = f then some c else findD r f
theorem findD_mem {L : List LCtr} {f : FuncId} {c : LCtr} (h : findD L f = some c) : c ∈ L ∧ c.f = f := by
  induction L with
  | nil => cases h
  | cons a r ih =>
    simp only [findD] at h
    split at h
    · rename_i he
      simp only [Option.some.injEq] at h; subst h
      exact ⟨List.mem_cons_self, he⟩
    · exact ⟨List.mem_cons_of_mem _ (ih h).1, (ih h).2⟩
def lendOf (c : LCtr) : Lend := fun s args K => match decsL s.st c.sig args with
  | some d => if nodupB (namesL c.sig args) && okBoxes (namesL c.sig args) s.st then c.pre d ∧ c.outK d fun z r => K { s with st := putL c.sig args z s.st } r else False
  | none => False
theorem nodupB_ok : ∀ {l : List Nat}, nodupB l = true → l.Nodup
  | [], _ => List.nodup_nil
  | a :: r, h => by
    simp only [nodupB, Bool.and_eq_true, Bool.not_eq_true'] at h
    exact List.nodup_cons.2 ⟨fun hm => by have := h.1; simp at this; exact this hm, nodupB_ok h.2⟩
def Shp (S : TStore) : (l : List LT) → List T1 → effs l → Prop
  | [], _, _ => True
  | .v _ :: r, _ :: xs, z => Shp S r xs z
  | .l _ _ :: r, _ :: xs, z => Shp S r xs z
  | .m e t :: r, x :: xs, z => (∃ k fz t' ys, x = .c (.h k) ∧ lookT S k = some (.arr fz e t' ys) ∧ ys.length = (Prod.fst z).length) ∧ Shp S r xs (Prod.snd z)
  | .b t :: r, x :: xs, z => (∃ k cs, x = .c (.a (.ref 0 k 0)) ∧ lookT S k = some (.box cs)) ∧ Shp S r xs (Prod.snd z)
  | .w t :: r, x :: xs, z => (∃ k t' ys, x = .c (.a (.ref 0 k 0)) ∧ lookT S k = some (.hb t' ys)) ∧ Shp S r xs (Prod.snd z)
  | _ :: _, [], _ => True
theorem Shp.lay {S : TStore} {k0 : Nat} {o o0 : TOb} (h0 : lookT S k0 = some o0) (hs : match o0 with
      | .arr _ e _ ys => ∃ fz t' ys', o = .arr fz e t' ys' ∧ ys'.length = ys.length
      | .hb _ _ => ∃ t' ys', o = .hb t' ys'
      | .box _ => ∃ cs, o = .box cs) : ∀ (l : List LT) (xs : List T1) (z : effs l), Shp S l xs z → Shp (layT S k0 o) l xs z
  | [], _, _, _ => trivial
  | .v _ :: r, [], z, h => trivial
  | .l _ _ :: r, [], z, h => trivial
  | .m _ _ :: r, [], z, h => trivial
  | .b _ :: r, [], z, h => trivial
  | .w _ :: r, [], z, h => trivial
  | .v _ :: r, _ :: xs, z, h => Shp.lay h0 hs r xs z h
  | .l _ _ :: r, _ :: xs, z, h => Shp.lay h0 hs r xs z h
  | .m e t :: r, x :: xs, z, h => by
    obtain ⟨⟨k, fz, t', ys, rfl, h1, h2⟩, h3⟩ := h
    refine ⟨?_, Shp.lay h0 hs r xs _ h3⟩
    by_cases hk : k = k0
    · subst hk
      rw [h0] at h1
      simp only [Option.some.injEq] at h1; subst h1
      obtain ⟨fz2, t2, ys2, rfl, h4⟩ := hs
      exact ⟨k, fz2, t2, ys2, rfl, by rw [lookT_lay, if_pos rfl, h0]; rfl, by omega⟩
    · exact ⟨k, fz, t', ys, rfl, by rw [lookT_lay, if_neg hk]; exact h1, h2⟩
  | .b t :: r, x :: xs, z, h => by
    obtain ⟨⟨k, cs, rfl, h1⟩, h3⟩ := h
    refine ⟨?_, Shp.lay h0 hs r xs _ h3⟩
    by_cases hk : k = k0
    · subst hk
      rw [h0] at h1
      simp only [Option.some.injEq] at h1; subst h1
      obtain ⟨cs2, rfl⟩ := hs
      exact ⟨k, cs2, rfl, by rw [lookT_lay, if_pos rfl, h0]; rfl⟩
    · exact ⟨k, cs, rfl, by rw [lookT_lay, if_neg hk]; exact h1⟩
  | .w t :: r, x :: xs, z, h => by
    obtain ⟨⟨k, t', ys, rfl, h1⟩, h3⟩ := h
    refine ⟨?_, Shp.lay h0 hs r xs _ h3⟩
    by_cases hk : k = k0
    · subst hk
      rw [h0] at h1
      simp only [Option.some.injEq] at h1; subst h1
      obtain ⟨t2, ys2, rfl⟩ := hs
      exact ⟨k, t2, ys2, rfl, by rw [lookT_lay, if_pos rfl, h0]; rfl⟩
    · exact ⟨k, t', ys, rfl, by rw [lookT_lay, if_neg hk]; exact h1⟩
theorem put_up {R : List Store} {S0 : TStore} : ∀ (l : List LT) (xs : List T1) (z : effs l) (s : TSt), Alike S0 s.st → Shp s.st l xs z →
    (TSt.mk s.slots (putL l xs z s.st)).emb R = { s.emb R with stores := putLA l ((xs.map (T1.emb S0)).map (AV.shift 1)) z (embStore s.st) :: R }
  | [], xs, z, s, ha, h => by cases xs <;> rfl
  | .v _ :: r, [], z, s, ha, h => rfl
  | .l _ _ :: r, [], z, s, ha, h => rfl
  | .m _ _ :: r, [], z, s, ha, h => rfl
  | .b _ :: r, [], z, s, ha, h => rfl
  | .w _ :: r, [], z, s, ha, h => rfl
  | .v _ :: r, x :: xs, z, s, ha, h => put_up r xs z s ha h
  | .l _ _ :: r, x :: xs, z, s, ha, h => put_up r xs z s ha h
  | .m e t :: r, x :: xs, z, s, ha, h => by
    obtain ⟨⟨k, fz, t', ys, rfl, h1, h2⟩, h3⟩ := h
    have hal : Alike s.st (layT s.st k (.arr false e t (Prod.fst z))) := shape_lay h1 (by show some (e, ys.length) = some (e, (Prod.fst z).length); rw [h2])
    have ih := put_up (R := R) r xs (Prod.snd z) (s.lay k (.arr false e t (Prod.fst z))) (fun j => (ha j).trans (hal j)) (Shp.lay h1 ⟨false, t, Prod.fst z, rfl, h2.symm⟩ r xs _ h3)
    have e1 := emb_lay R s k (.arr false e t (Prod.fst z)) hal
    have sh : shapeT S0 k = some (e, ys.length) := by rw [ha k]; simp only [shapeT, h1]
    have e2 : ((T1.c (.h k)).emb S0).shift 1 = .arr 1 k e 0 ys.length ys.length := by
      show (AV.shift 1 (match shapeT S0 k with
        | some (e, n) => AV.arr 0 k e 0 n n
        | none => .dead)) = _
      rw [sh]; rfl
    show (TSt.mk s.slots (putL r xs (Prod.snd z) (layT s.st k (.arr false e t (Prod.fst z))))).emb R = _
    have ih' : (TSt.mk s.slots (putL r xs (Prod.snd z) (layT s.st k (.arr false e t (Prod.fst z))))).emb R = _ := ih
    rw [ih', e1]
    simp only [List.map_cons, e2, putLA]
    have e3 : embStore (s.lay k (.arr false e t (Prod.fst z))).st = lay (embStore s.st) k (.arr false e ((Prod.fst z).map t.emb)) := by
      have := congrArg St.stores e1
      exact (List.cons.inj this).1
    rw [e3]
  | .b t :: r, x :: xs, z, s, ha, h => by
    obtain ⟨⟨k, cs, rfl, h1⟩, h3⟩ := h
    have hal : Alike s.st (layT s.st k (.box (t.tc (Prod.fst z)))) := shape_lay h1 rfl
    have ih := put_up (R := R) r xs (Prod.snd z) (s.lay k (.box (t.tc (Prod.fst z)))) (fun j => (ha j).trans (hal j)) (Shp.lay h1 ⟨_, rfl⟩ r xs _ h3)
    have e1 := emb_lay R s k (.box (t.tc (Prod.fst z))) hal
    show (TSt.mk s.slots (putL r xs (Prod.snd z) (layT s.st k (.box (t.tc (Prod.fst z)))))).emb R = _
    have ih' : (TSt.mk s.slots (putL r xs (Prod.snd z) (layT s.st k (.box (t.tc (Prod.fst z)))))).emb R = _ := ih
    rw [ih', e1]
    have e3 : embStore (s.lay k (.box (t.tc (Prod.fst z)))).st = lay (embStore s.st) k (.box (t.cells (Prod.fst z))) := by
      have := congrArg St.stores e1
      have h5 := (List.cons.inj this).1
      rw [← tc_emb t (Prod.fst z) s.st]
      exact h5
    rw [e3]
    rfl
  | .w t :: r, x :: xs, z, s, ha, h => by
    obtain ⟨⟨k, t', ys, rfl, h1⟩, h3⟩ := h
    have hal : Alike s.st (layT s.st k (.hb t (Prod.fst z))) := shape_lay h1 rfl
    have ih := put_up (R := R) r xs (Prod.snd z) (s.lay k (.hb t (Prod.fst z))) (fun j => (ha j).trans (hal j)) (Shp.lay h1 ⟨_, _, rfl⟩ r xs _ h3)
    have e1 := emb_lay R s k (.hb t (Prod.fst z)) hal
    show (TSt.mk s.slots (putL r xs (Prod.snd z) (layT s.st k (.hb t (Prod.fst z))))).emb R = _
    have ih' : (TSt.mk s.slots (putL r xs (Prod.snd z) (layT s.st k (.hb t (Prod.fst z))))).emb R = _ := ih
    rw [ih', e1]
    have e3 : embStore (s.lay k (.hb t (Prod.fst z))).st = lay (embStore s.st) k (.box ((Prod.fst z).map t.emb)) := by
      have := congrArg St.stores e1
      exact (List.cons.inj this).1
    rw [e3]
    rfl
theorem shp_of {S : TStore} : ∀ {l : List LT} {xs : List T1} {d : densL l} (z : effs l), decsL S l xs = some d → sameL l d z → Shp S l xs z
  | [], xs, d, z, h, hs => trivial
  | a :: r, [], d, z, h, hs => by cases h
  | a :: r, x :: xs, d, z, h, hs => by
    simp only [decsL] at h
    split at h
    · rename_i d1 ds h1 h2
      cases h
      cases a with
      | v t => exact shp_of (l := r) z h2 hs
      | l e t => exact shp_of (l := r) z h2 hs
      | m e t =>
        obtain ⟨k, rfl, h3⟩ := dec_m h1
        exact ⟨⟨k, false, t, d1, rfl, h3, hs.1.symm⟩, shp_of (Prod.snd z) h2 hs.2⟩
      | b t =>
        obtain ⟨k, cs, rfl, h3, _⟩ := dec_b h1
        exact ⟨⟨k, cs, rfl, h3⟩, shp_of (Prod.snd z) h2 hs⟩
      | w t =>
        obtain ⟨k, rfl, h3⟩ := dec_w h1
        exact ⟨⟨k, t, d1, rfl, h3⟩, shp_of (Prod.snd z) h2 hs⟩
    · cases h
theorem resolve_valB {s : St} {x : AV} (h : x.valB = true) : resolve s x = some (s, x) := by
  cases x with
  | agg cs =>
    have : ∀ cs : List AV, cs.all AV.isVal = true → resolveL s cs = some (s, cs) := by
      intro cs
      induction cs with
      | nil => intro _; rfl
      | cons a r ih =>
        intro h
        simp only [List.all_cons, Bool.and_eq_true] at h
        have h1 : resolve1 s a = some (s, a) := by
          have := h.1
          cases a <;> first | rfl | cases this
        simp only [resolveL, h1, ih h.2]
    simp only [resolve, this cs h]
  | arr => cases h
  | ref => cases h
  | ear => cases h
  | efz => cases h
  | und => cases h
  | dead => cases h
  | tup => cases h
  | own => cases h
  | obj => cases h
  | _ => rfl
theorem nlAV_valB {α : Type} (e : TypeId) (f : α → AV) (x : NL α) : (nlAV e f x).valB = true := by cases x <;> rfl
theorem lendAll_val {s : St} {x : AV} {r l : List AV} (hv : x.valB = true) (h : lendAll s r = some (s, l)) : lendAll s (x :: r) = some (s, x :: l) := by
  have e2 := resolve_valB (s := s) hv
  unfold lendAll
  rw [h]
  have key : ∀ y : AV, y = x → (match resolve s y with
      | some (s2, b) => some (s2, b :: l)
      | none => none) = some (s, x :: l) := fun y hy => by rw [hy, e2]
  cases x <;> first | exact key _ rfl | cases hv
theorem lend_up {S : TStore} {s : St} : ∀ {l : List LT} {xs : List T1} {d : densL l}, decsL S l xs = some d → lendAll s (xs.map (T1.emb S)) = some (s, (xs.map (T1.emb S)).map (AV.shift 1)) ∧ ∀ (f : Nat → Bool) (j : Nat), (∀ i, f i = true) → (l.any fun a => a.isM || a.isB) = true → openA f j (xs.map (T1.emb S)) = true
  | [], [], d, h => ⟨rfl, fun f j _ ha => by cases ha⟩
  | [], _ :: _, d, h => by cases h
  | a :: r, [], d, h => by cases h
  | a :: r, x :: xs, d, h => by
    simp only [decsL] at h
    split at h
    · rename_i d1 ds h1 h2
      cases h
      obtain ⟨q1, q2⟩ := lend_up (s := s) h2
      have val : ((x.emb S).valB = true) → lendAll s ((x :: xs).map (T1.emb S)) = some (s, ((x :: xs).map (T1.emb S)).map (AV.shift 1)) := fun hv => by
        have e1 : (x.emb S).shift 1 = x.emb S := by
          cases hy : x.emb S <;> rw [hy] at hv <;> first | rfl | cases hv
        simp only [List.map_cons, e1]
        exact lendAll_val hv q1
      cases a with
      | v t =>
        have e1 := ofT1_emb S (show t.ofT1 x = some d1 from h1)
        have hv : (x.emb S).valB = true := by rw [← e1, ← t1_emb t d1 S]; exact t1_valB t d1 S
        refine ⟨val hv, fun f j hf ha => ?_⟩
        simp only [List.map_cons, openA, Bool.or_eq_true]
        exact .inr (q2 f (j + 1) hf ha)
      | l e t =>
        have hv : (x.emb S).valB = true := by
          have h1 : (AT.l e t).dec x = some d1 := h1
          simp only [AT.dec] at h1
          split at h1
          · rfl
          · rfl
          · exact nlAV_valB _ _ _
          · cases h1
        refine ⟨val hv, fun f j hf ha => ?_⟩
        simp only [List.map_cons, openA, Bool.or_eq_true]
        exact .inr (q2 f (j + 1) hf ha)
      | m e t =>
        obtain ⟨k, rfl, h3⟩ := dec_m h1
        have e1 : (T1.c (.h k)).emb S = .arr 0 k e 0 d1.length d1.length := by
          show (match shapeT S k with
            | some (e, n) => AV.arr 0 k e 0 n n
            | none => .dead) = _
          simp only [shapeT, h3]
        refine ⟨?_, fun f j hf _ => ?_⟩
        · simp only [List.map_cons, lendAll, q1, e1]; rfl
        · simp only [List.map_cons, openA, e1, hf j, Bool.true_or]
      | b t =>
        obtain ⟨k, cs, rfl, h3, _⟩ := dec_b h1
        refine ⟨?_, fun f j hf _ => ?_⟩
        · simp only [List.map_cons, lendAll, q1]; rfl
        · simp only [List.map_cons]; rfl
      | w t =>
        obtain ⟨k, rfl, h3⟩ := dec_w h1
        refine ⟨?_, fun f j hf _ => ?_⟩
        · simp only [List.map_cons, lendAll, q1]; rfl
        · simp only [List.map_cons]; rfl
    · cases h
structure TCtr where
  f : FuncId
  sig : List AT
  pre : dens sig → Prop
  out : dens sig → TV
  outK : dens sig → (TV → Prop) → Prop
  outK_ok : ∀ d K, outK d K → K (out d)
  outOk : ∀ d, (out d).outOk = true
def TCtr.det (f : FuncId) (sig : List AT) (pre : dens sig → Prop) (out : dens sig → TV) (h : ∀ d, (out d).outOk = true) : TCtr :=
  { f, sig, pre, out, outK := fun d K => K (out d), outK_ok := fun _ _ h => h, outOk := h }
def findC : List TCtr → FuncId → Option TCtr
  | [], _ => none
  | c :: r, f => if c.f = f then some c else findC r f
theorem findC_mem {L : List TCtr} {f : FuncId} {c : TCtr} (h : findC L f = some c) : c ∈ L ∧ c.f = f := by
  induction L with
  | nil => cases h
  | cons a r ih =>
    simp only [findC] at h
    split at h
    · rename_i he
      simp only [Option.some.injEq] at h; subst h
      exact ⟨List.mem_cons_self, he⟩
    · exact ⟨List.mem_cons_of_mem _ (ih h).1, (ih h).2⟩
def soloK (o : Oper) : Bool :=
  match o.op with
  | .store .. | .alloc .. | .box .. | .buildSlice .. | .makeSlice .. => true
  | .call c => match c.callee with
    | .builtin .append | .builtin .copy | .builtin .clear => true
    | _ => false
  | _ => false
open Classical in
noncomputable def envD (L : List TCtr) (DL : List LCtr) : Env where
  Φ := fun _ => none
  Γ := fun f as => match findD DL f with
    | some _ => none
    | none => match findC L f with
      | some c => match decsA c.sig as with
        | some d => if c.pre d then some ((c.out d).emb []) else none
        | none => none
      | none => none
  Δ := fun f as S => match findD DL f with
    | some c => match S with
      | t :: R => match decsLA t c.sig as with
        | some d => if (namesLA c.sig as).Nodup ∧ okBoxA (namesLA c.sig as) t = true ∧ c.pre d then some (putLA c.sig as (c.eff d) t :: R, (c.out d).emb []) else none
        | none => none
      | [] => none
    | none => none
  lend := fun f _ => (findD DL f).isSome
  solo := soloK
  ok := fun ops => drawM soloK ops
@[reducible] noncomputable def envL (L : List TCtr) : Env := envD L []
def knownD (L : List TCtr) (DL : List LCtr) (blk lab : Nat → Option Piece) : Known where
  solo := soloK
  ok := fun ops => drawM soloK ops
  G := fun f as K => match findD DL f with
    | some _ => False
    | none => match findC L f with
      | some c => match decs c.sig as with
        | some d => c.pre d ∧ c.outK d K
        | none => False
      | none => False
  D := fun f => (findD DL f).map lendOf
  blk := blk
  lab := lab
@[reducible] def knownL (L : List TCtr) (blk lab : Nat → Option Piece) : Known := knownD L [] blk lab
structure GoodC (P : Program) (c : TCtr) : Prop where
  there : ∃ fn cd, P.funcs[c.f]? = some fn ∧ fn.body = some cd ∧ (fn.name == "runtime.NumGoroutine") = false
  cells : ∀ e t, AT.l e t ∈ c.sig → 0 < P.cellsOf e
  call : ∀ d, c.pre d → ∀ S, CallC P c.f ((t1s c.sig d).map (T1.emb [])) S S ((c.out d).emb [])
def Goods (P : Program) (L : List TCtr) : Prop := ∀ c, c ∈ L → GoodC P c
theorem Goods.nil {P : Program} : Goods P [] := fun c h => by cases h
theorem Goods.cons {P : Program} {c : TCtr} {L : List TCtr} (h : GoodC P c) (k : Goods P L) : Goods P (c :: L) := fun x hx => by
  rcases List.mem_cons.1 hx with rfl | hx
  · exact h
  · exact k x hx
structure GoodL (P : Program) (c : LCtr) : Prop where
  there : ∃ fn cd, P.funcs[c.f]? = some fn ∧ fn.body = some cd ∧ (fn.name == "runtime.NumGoroutine") = false
  call : ∀ (t : Store) (R : List Store) (as : List AV) (d : densL c.sig), decsLA t c.sig as = some d → (namesLA c.sig as).Nodup → okBoxA (namesLA c.sig as) t = true → c.pre d → CallC P c.f as (t :: R) (putLA c.sig as (c.eff d) t :: R) ((c.out d).emb [])
def GoodDs (P : Program) (L : List LCtr) : Prop := ∀ c, c ∈ L → GoodL P c
theorem GoodDs.nil {P : Program} : GoodDs P [] := fun c h => by cases h
theorem GoodDs.cons {P : Program} {c : LCtr} {L : List LCtr} (h : GoodL P c) (k : GoodDs P L) : GoodDs P (c :: L) := fun x hx => by
  rcases List.mem_cons.1 hx with rfl | hx
  · exact h
  · exact k x hx
theorem CallC.args {P : Program} {f : FuncId} {as bs : List AV} {S : List Store} {r : AV} (h : CallC P f bs S S r) (hl : bs.length = as.length)
    (hr : ∀ (w : World) (g : Gh) (S : List Store) (i : Nat) (x y : AV) (v : Value), as[i]? = some x → bs[i]? = some y → HRep P w g S x v → HRep P w g S y v) : CallC P f as S S r := by
  intro may w g vs hi hm hlen hargs
  refine h may w g vs hi hm (by omega) fun i y v hy hv => ?_
  have hlt : i < as.length := by
    have := (List.getElem?_eq_some_iff.1 hy).1; omega
  exact hr w g.push ([] :: S) i as[i] y v (List.getElem?_eq_getElem hlt) hy (hargs i as[i] v (List.getElem?_eq_getElem hlt) hv)
open Classical in
theorem lendOf_ok {L : List TCtr} {DL : List LCtr} {blk lab : Nat → Option Piece} : LendOk (envD L DL) (knownD L DL blk lab).D := by
  intro f M hM s args K h
  have hM : (findD DL f).map lendOf = some M := hM
  obtain ⟨c, hc, rfl⟩ := Option.map_eq_some_iff.1 hM
  unfold lendOf at h
  split at h
  · rename_i d hd
    split at h
    · rename_i hn
      simp only [Bool.and_eq_true] at hn
      obtain ⟨n1, n2⟩ := hn
      have hp := h.1
      have hK := c.outK_ok d _ h.2
      refine ⟨_, _, c.outOk d, hK, fun R => ?_⟩
      obtain ⟨e1, e2⟩ := decs_up hd
      have hs := c.same d hp
      have hput := put_up (R := R) c.sig args (c.eff d) s (fun _ => rfl) (shp_of (c.eff d) hd hs)
      obtain ⟨u1, u2⟩ := lend_up (s := s.emb R) hd
      refine ⟨u2 _ 0 (fun i => by show (findD DL f).isSome = true; rw [hc]; rfl) c.any, _, u1, ?_, ?_, ?_⟩
      · show (match findD DL f with
          | some _ => none
          | none => _) = _
        rw [hc]
      · show (match findD DL f with
          | some c => _
          | none => none) = _
        rw [hc]
        show (match decsLA (embStore s.st) c.sig ((args.map (T1.emb s.st)).map (AV.shift 1)) with
          | some d => if (namesLA c.sig ((args.map (T1.emb s.st)).map (AV.shift 1))).Nodup ∧ okBoxA (namesLA c.sig ((args.map (T1.emb s.st)).map (AV.shift 1))) (embStore s.st) = true ∧ c.pre d then some (putLA c.sig ((args.map (T1.emb s.st)).map (AV.shift 1)) (c.eff d) (embStore s.st) :: R, (c.out d).emb []) else none
          | none => none) = _
        rw [e1]
        simp only
        rw [if_pos ⟨by rw [e2]; exact nodupB_ok n1, by rw [e2]; exact boxes_up n2, hp⟩]
        have := congrArg St.stores hput
        rw [this]
      · rw [hput]
    · exact h.elim
  · exact h.elim
theorem knownD_ok {P : Program} {L : List TCtr} {DL : List LCtr} (hw : P.follows .mixedOrders = true) (hL : Goods P L) (hD : GoodDs P DL) (blk lab : Nat → Option Piece) : KnownOk P (envD L DL) (knownD L DL blk lab) where
  env := {
    fn := fun f fn h => by cases h
    ga := fun f as r h => by
      simp only [envD] at h
      split at h
      · cases h
      · split at h
        · rename_i c hc
          split at h
          · rename_i d hd
            split at h
            · rename_i hp
              simp only [Option.some.injEq] at h; subst h
              obtain ⟨hm, rfl⟩ := findC_mem hc
              have hg := hL c hm
              refine ⟨hg.there, fun S => ?_⟩
              exact (hg.call d hp S).args (decsA_rep (P := P) (w := default) (g := ⟨fun _ _ => False, fun _ _ => 0, fun _ _ => 0⟩) (S := []) hg.cells hd).1 fun w g S' i x y v hx hy hv => (decsA_rep (P := P) (w := w) (g := g) (S := S') hg.cells hd).2 i x y v hx hy hv
            · cases h
          · cases h
        · cases h
    de := fun f as S S2 r h => by
      simp only [envD] at h
      split at h
      · rename_i c hc
        split at h
        · rename_i t R
          split at h
          · rename_i d hd
            split at h
            · rename_i hp
              simp only [Option.some.injEq, Prod.mk.injEq] at h
              obtain ⟨rfl, rfl⟩ := h
              obtain ⟨hm, rfl⟩ := findD_mem hc
              have hg := hD c hm
              exact ⟨hg.there, hg.call t R as d hd hp.1 hp.2.1 hp.2.2⟩
            · cases h
          · cases h
        · cases h
      · cases h
    wide := hw
    draw := fun ops h rec s s1 t hr => draw_okM (E := envD L DL) h rec s s1 t hr
    draw2 := fun ops h => by cases h }
  lend := fun f h j => by
    have h : (findD DL f).map lendOf = none := h
    show (findD DL f).isSome = false
    cases hc : findD DL f with
    | none => rfl
    | some c => rw [hc] at h; cases h
  ctr := fun f args K h hn => by
    simp only [knownD] at h
    split at h
    · exact h.elim
    · rename_i hc0
      split at h
      · rename_i c hc
        split at h
        · rename_i d hd
          refine ⟨c.out d, ?_, c.outOk d, c.outK_ok d K h.2⟩
          simp only [envD, hc0, hc, decs_decsA hd, if_pos h.1]
        · exact h.elim
      · exact h.elim
  del := lendOf_ok
  solo := rfl
  draw := fun ops h => h
theorem knownL_ok {P : Program} {L : List TCtr} (hw : P.follows .mixedOrders = true) (hL : Goods P L) (blk lab : Nat → Option Piece) : KnownOk P (envL L) (knownL L blk lab) := knownD_ok hw hL .nil blk lab
theorem goodL_of {P : Program} {L : List TCtr} {DL : List LCtr} {blk lab : Nat → Option Piece} (hw : P.follows .mixedOrders = true) (hL : Goods P L) (hD : GoodDs P DL) {c : LCtr} {fn : Func} {cd : Code} (hf : P.funcs[c.f]? = some fn) (hb : fn.body = some cd) (hname : (fn.name == "runtime.NumGoroutine") = false)
    (hc : ∀ e t, LT.l e t ∈ c.sig → 0 < P.cellsOf e) (hLam : LamOk P (knownD L DL blk lab) cd) (run : ∀ d, c.pre d → wpFnL P (knownD L DL blk lab) fn c.sig d (fun z x => z = c.eff d ∧ x = c.out d)) : GoodL P c where
  there := ⟨fn, cd, hf, hb, hname⟩
  call := fun t R as d hd hn hb2 hp => fn_lend (knownD_ok hw hL hD blk lab) hf hb hLam hc (run d hp) hd hn hb2
theorem good_ofD {P : Program} {L : List TCtr} {DL : List LCtr} {blk lab : Nat → Option Piece} (hw : P.follows .mixedOrders = true) (hL : Goods P L) (hD : GoodDs P DL) {c : TCtr} {fn : Func} {cd : Code} (hf : P.funcs[c.f]? = some fn) (hb : fn.body = some cd) (hname : (fn.name == "runtime.NumGoroutine") = false)
    (hc : ∀ e t, AT.l e t ∈ c.sig → 0 < P.cellsOf e) (hLam : LamOk P (knownD L DL blk lab) cd) (run : ∀ d, c.pre d → wpFn P (knownD L DL blk lab) fn (t1s c.sig d) (fun x => x = c.out d)) : GoodC P c where
  there := ⟨fn, cd, hf, hb, hname⟩
  cells := hc
  call := fun d hp S => fn_call (knownD_ok hw hL hD blk lab) hf hb hLam (fun a ha => t1s_noH c.sig d a ha) (run d hp) S
theorem good_of {P : Program} {L : List TCtr} {blk lab : Nat → Option Piece} (hw : P.follows .mixedOrders = true) (hL : Goods P L) {c : TCtr} {fn : Func} {cd : Code} (hf : P.funcs[c.f]? = some fn) (hb : fn.body = some cd) (hname : (fn.name == "runtime.NumGoroutine") = false)
    (hc : ∀ e t, AT.l e t ∈ c.sig → 0 < P.cellsOf e) (hLam : LamOk P (knownL L blk lab) cd) (run : ∀ d, c.pre d → wpFn P (knownL L blk lab) fn (t1s c.sig d) (fun x => x = c.out d)) : GoodC P c where
  there := ⟨fn, cd, hf, hb, hname⟩
  cells := hc
  call := fun d hp S => fn_call (knownL_ok hw hL blk lab) hf hb hLam (fun a ha => t1s_noH c.sig d a ha) (run d hp) S
end Go.AbsM
end

section
namespace Go.AbsM
section
variable {a b : Int} {m n : Nat} {A B : Prop}
theorem grd_ile (h : a ≤ b) (k : A) : grd (W.ile a b) A := grd_iff.2 ⟨decide_eq_true h, k⟩
theorem grd_nlt (h : m < n) (k : A) : grd (W.nlt m n) A := grd_iff.2 ⟨decide_eq_true h, k⟩
theorem brc_of {t : Bool} (h : t = true → A) (k : t = false → B) : brc t A B := brc_iff.2 ⟨h, k⟩
theorem brc_yes {t : Bool} (h : t = true) (k : A) : brc t A B := brc_iff.2 ⟨fun _ => k, fun e => (by rw [h] at e; cases e)⟩
theorem brc_no {t : Bool} (h : t = false) (k : B) : brc t A B := brc_iff.2 ⟨fun e => (by rw [h] at e; cases e), fun _ => k⟩
theorem brc_ilt (h : a < b → A) (k : b ≤ a → B) : brc (W.ilt a b) A B := brc_of (fun t => h (of_decide_eq_true t)) (fun t => k (by have := of_decide_eq_false t; omega))
theorem brc_ile (h : a ≤ b → A) (k : b < a → B) : brc (W.ile a b) A B := brc_of (fun t => h (of_decide_eq_true t)) (fun t => k (by have := of_decide_eq_false t; omega))
theorem brc_igt (h : b < a → A) (k : a ≤ b → B) : brc (W.igt a b) A B := brc_of (fun t => h (of_decide_eq_true t)) (fun t => k (by have := of_decide_eq_false t; omega))
theorem brc_ige (h : b ≤ a → A) (k : a < b → B) : brc (W.ige a b) A B := brc_of (fun t => h (of_decide_eq_true t)) (fun t => k (by have := of_decide_eq_false t; omega))
theorem brc_ieq (h : a = b → A) (k : a ≠ b → B) : brc (W.ieq a b) A B := brc_of (fun t => h (by simpa [W.ieq] using t)) (fun t => k (by simpa [W.ieq] using t))
theorem brc_ine (h : a ≠ b → A) (k : a = b → B) : brc (W.ine a b) A B := brc_of (fun t => h (by simpa [W.ine] using t)) (fun t => k (by simpa [W.ine] using t))
theorem brc_bnot {t : Bool} (h : t = false → A) (k : t = true → B) : brc (W.bnot t) A B := by
  cases t
  · exact brc_yes rfl (h rfl)
  · exact brc_no rfl (k rfl)
end
theorem wrap_u8 (n : Int) : IntKind.u8.wrap n = n % 256 := by simp [IntKind.wrap, IntKind.bits, IntKind.signed]
theorem wrap_u64 (n : Int) : IntKind.u64.wrap n = n % 18446744073709551616 := by simp [IntKind.wrap, IntKind.bits, IntKind.signed]
theorem wrap_i64 (n : Int) : IntKind.i64.wrap n = (n + 9223372036854775808) % 18446744073709551616 - 9223372036854775808 := by
  simp [IntKind.wrap, IntKind.bits, IntKind.signed]
  split <;> omega
namespace W
variable {a b : Int}
theorem wu8 : W.wrap .u8 a = a % 256 := wrap_u8 a
theorem wu64 : W.wrap .u64 a = a % 18446744073709551616 := wrap_u64 a
theorem wi64 : W.wrap .i64 a = (a + 9223372036854775808) % 18446744073709551616 - 9223372036854775808 := wrap_i64 a
theorem wu8_in (h : 0 ≤ a) (k : a < 256) : W.wrap .u8 a = a := by rw [wu8]; omega
theorem wu64_in (h : 0 ≤ a) (k : a < 18446744073709551616) : W.wrap .u64 a = a := by rw [wu64]; omega
theorem wi64_in (h : -9223372036854775808 ≤ a) (k : a < 9223372036854775808) : W.wrap .i64 a = a := by rw [wi64]; omega
theorem add_i64 (h : -9223372036854775808 ≤ a + b) (k : a + b < 9223372036854775808) : W.add .i64 a b = a + b := by
  show IntKind.i64.wrap (a + b) = _; rw [wrap_i64]; omega
theorem sub_i64 (h : -9223372036854775808 ≤ a - b) (k : a - b < 9223372036854775808) : W.sub .i64 a b = a - b := by
  show IntKind.i64.wrap (a - b) = _; rw [wrap_i64]; omega
theorem mul_i64 (h : -9223372036854775808 ≤ a * b) (k : a * b < 9223372036854775808) : W.mul .i64 a b = a * b := by
  show IntKind.i64.wrap (a * b) = _; rw [wrap_i64]; omega
theorem quo_i64 (h : 0 ≤ a) (k : 0 < b) (m : a < 9223372036854775808) : W.quo .i64 a b = a / b := by
  show IntKind.i64.wrap (a.tdiv b) = _
  rw [Int.tdiv_eq_ediv_of_nonneg h, wrap_i64]
  have h1 : 0 ≤ a / b := Int.ediv_nonneg h (by omega)
  have h2 : a / b ≤ a := Int.ediv_le_self b h
  omega
theorem rem_pos (h : 0 ≤ a) : W.rem a b = a % b := Int.tmod_eq_emod_of_nonneg h
theorem bit_toNat {n : Nat} (h : 0 ≤ a) (k : a < 2 ^ n) : (BitVec.ofInt n a).toNat = a.toNat := by
  rw [BitVec.toNat_ofInt]
  rw [Int.emod_eq_of_lt h (by exact_mod_cast k)]
theorem toNat_lt2 {n : Nat} (h : 0 ≤ a) (k : a < 2 ^ n) : a.toNat < 2 ^ n := by
  have h1 : (a.toNat : Int) = a := Int.toNat_of_nonneg h
  have h2 : (a.toNat : Int) < ((2 ^ n : Nat) : Int) := by rw [h1]; push_cast; exact k
  exact_mod_cast h2
theorem or_pos {k : IntKind} (hk : k.signed = false) (h1 : 0 ≤ a) (h2 : a < 2 ^ k.bits) (h3 : 0 ≤ b) (h4 : b < 2 ^ k.bits) : W.or k a b = ((a.toNat ||| b.toNat : Nat) : Int) := by
  unfold W.or
  rw [BitVec.toNat_or, bit_toNat h1 h2, bit_toNat h3 h4]
  have hlt : a.toNat ||| b.toNat < 2 ^ k.bits := Nat.or_lt_two_pow (toNat_lt2 h1 h2) (toNat_lt2 h3 h4)
  simp only [IntKind.wrap, hk]
  rw [Int.emod_eq_of_lt (by omega) (by exact_mod_cast hlt)]
  simp
theorem and_pos {k : IntKind} (hk : k.signed = false) (h1 : 0 ≤ a) (h2 : a < 2 ^ k.bits) (h3 : 0 ≤ b) (h4 : b < 2 ^ k.bits) : W.and k a b = ((a.toNat &&& b.toNat : Nat) : Int) := by
  unfold W.and
  rw [BitVec.toNat_and, bit_toNat h1 h2, bit_toNat h3 h4]
  have hlt : a.toNat &&& b.toNat < 2 ^ k.bits := Nat.lt_of_le_of_lt Nat.and_le_left (toNat_lt2 h1 h2)
  simp only [IntKind.wrap, hk]
  rw [Int.emod_eq_of_lt (by omega) (by exact_mod_cast hlt)]
  simp
end W
end Go.AbsM
end

section
namespace Go.AbsM
def bodyOf (f : Func) : Code := match f.body with
  | some c => c
  | none => .skip
def hasBody (f : Func) : Bool := f.body.isSome
theorem body_some {f : Func} (h : hasBody f = true) : f.body = some (bodyOf f) := by
  unfold hasBody at h; unfold bodyOf
  cases hb : f.body with
  | none => rw [hb] at h; cases h
  | some c => rfl
def one (k : Nat) (p : Piece) (l : Nat) : Option Piece := match l.beq k with
  | true => some p
  | false => none
theorem one_some {k l : Nat} {p ψ : Piece} (h : one k p l = some ψ) : l = k ∧ ψ = p := by
  unfold one at h
  split at h
  · rename_i hb
    cases h; exact ⟨Nat.eq_of_beq_eq_true hb, rfl⟩
  · cases h
def noneK (_ : Nat) : Option Piece := none
def freeB (blk : Nat → Option Piece) (c : Code) : Bool := (blocksOf c).all (fun p => (blk p.1).isNone) && (scopesOf c).isEmpty
def loopOf : Code → Code
  | .loop c => c
  | _ => .skip
def isLoop : Code → Bool
  | .loop _ => true
  | _ => false
theorem isLoop_eq {c : Code} (h : isLoop c = true) : c = .loop (loopOf c) := by
  cases c <;> first | rfl | cases h
section
variable {P : Program} {E : Env}
theorem lamOk_free {Λ : Known} {c : Code} (h : freeB Λ.blk c = true) : LamOk P Λ c := by
  simp only [freeB, Bool.and_eq_true, List.all_eq_true, List.isEmpty_iff] at h
  refine lamOk_of (fun id c' hm ψ hψ => ?_) fun c' hm => ?_
  · have := h.1 _ hm
    rw [hψ] at this; cases this
  · rw [h.2] at hm; cases hm
def sigB (P : Program) (sig : List AT) : Bool := sig.all fun a => match a with
  | .l e _ => decide (0 < P.cellsOf e)
  | _ => true
theorem sigB_ok {sig : List AT} (h : sigB P sig = true) (e : TypeId) (t : VT) (hm : AT.l e t ∈ sig) : 0 < P.cellsOf e := by
  have := List.all_eq_true.1 h _ hm
  exact of_decide_eq_true this
structure Fits (P : Program) (f : FuncId) (sig : List AT) (fn : Func) : Prop where
  there : P.funcs[f]? = some fn
  body : hasBody fn = true
  name : (fn.name == "runtime.NumGoroutine") = false
  sig : sigB P sig = true
theorem good_by {L : List TCtr} {blk lab : Nat → Option Piece} {c : TCtr} {fn : Func} (hw : P.follows .mixedOrders = true) (hL : Goods P L) (hf : Fits P c.f c.sig fn) (hLam : LamOk P (knownL L blk lab) (bodyOf fn))
    (run : ∀ d, c.pre d → wpFn P (knownL L blk lab) fn (t1s c.sig d) (fun x => x = c.out d)) : GoodC P c :=
  good_of hw hL hf.there (body_some hf.body) hf.name (sigB_ok hf.sig) hLam run
theorem good_plain {L : List TCtr} {c : TCtr} {fn : Func} (hw : P.follows .mixedOrders = true) (hL : Goods P L) (hf : Fits P c.f c.sig fn) (h0 : freeB noneK (bodyOf fn) = true)
    (run : ∀ d, c.pre d → wpFn P (knownL L noneK noneK) fn (t1s c.sig d) (fun x => x = c.out d)) : GoodC P c :=
  good_by hw hL hf (lamOk_free h0) run
def restC (c : Code) (l : Nat) : Code := (findLabel (scC c) l).getD .skip
theorem lam_jump {L : List TCtr} {ι : Type} {n : Nat} {ls ks : List Nat} {mk : ι → TSt} {ψ : ι → Post → Prop} {c : Code} {l : Nat} (lx kx : List Nat) (μ : ι → Nat) (hw : P.follows .mixedOrders = true) (hL : Goods P L)
    (h1 : decide ((scopesOf c).length ≤ 1) = true) (h2 : (blocksOf c).isEmpty = true) (h3 : findLabel (scC c) l = some (restC c l)) (h4 : freeB noneK (restC c l) = true)
    (step : ∀ i Φ, ψ i Φ → wpT P (knownL L noneK (one l (loopP n ls ks mk ψ))) (restC c l) (mk i) (jumpK (knownL L noneK (one l (loopP n ls ks mk ψ))) n ls ks lx kx (scC c) l mk μ ψ (μ i) Φ)) : LamOk P (knownL L noneK (one l (loopP n ls ks mk ψ))) c := by
  refine lamOk_body (by rw [List.isEmpty_iff.1 h2]; rfl) h1 (fun id ψ h => by cases h) fun l' rest ψ' hf hl => ?_
  obtain ⟨rfl, rfl⟩ := one_some hl
  rw [h3] at hf
  simp only [Option.some.injEq] at hf; subst hf
  refine run_jump (lx := lx) (kx := kx) (knownL_ok hw hL _ _) μ (lamOk_free h4) h3 (fun l'' rest' ψ'' hne hf' hl' => ?_) step
  obtain ⟨rfl, _⟩ := one_some hl'
  exact absurd rfl hne
theorem good_jump {L : List TCtr} {c : TCtr} {fn : Func} {ι : Type} {n : Nat} {ls ks : List Nat} {mk : ι → TSt} {ψ : ι → Post → Prop} {l : Nat} (lx kx : List Nat) (μ : ι → Nat) (hw : P.follows .mixedOrders = true) (hL : Goods P L) (hf : Fits P c.f c.sig fn)
    (h1 : decide ((scopesOf (bodyOf fn)).length ≤ 1) = true) (h2 : (blocksOf (bodyOf fn)).isEmpty = true) (h3 : findLabel (scC (bodyOf fn)) l = some (restC (bodyOf fn) l)) (h4 : freeB noneK (restC (bodyOf fn) l) = true)
    (step : ∀ i Φ, ψ i Φ → wpT P (knownL L noneK (one l (loopP n ls ks mk ψ))) (restC (bodyOf fn) l) (mk i) (jumpK (knownL L noneK (one l (loopP n ls ks mk ψ))) n ls ks lx kx (scC (bodyOf fn)) l mk μ ψ (μ i) Φ))
    (run : ∀ d, c.pre d → wpFn P (knownL L noneK (one l (loopP n ls ks mk ψ))) fn (t1s c.sig d) (fun x => x = c.out d)) : GoodC P c :=
  good_by hw hL hf (lam_jump lx kx μ hw hL h1 h2 h3 h4 step) run
theorem good_loop {L : List TCtr} {c : TCtr} {fn : Func} {ι : Type} {n : Nat} {ls ks : List Nat} {mk : ι → TSt} {ψ : ι → Post → Prop} {id : Nat} (lx kx : List Nat) (μ : ι → Nat) (hw : P.follows .mixedOrders = true) (hL : Goods P L) (hf : Fits P c.f c.sig fn)
    (h1 : (scopesOf (bodyOf fn)).isEmpty = true) (h2 : nodupB ((blocksOf (bodyOf fn)).map (·.1)) = true) (h3 : isLoop (blkC (bodyOf fn) id) = true) (h4 : freeB (one id (loopP n ls ks mk ψ)) (loopOf (blkC (bodyOf fn) id)) = true)
    (step : ∀ i Φ, ψ i Φ → wpT P (knownL L (one id (loopP n ls ks mk ψ)) noneK) (loopOf (blkC (bodyOf fn) id)) (mk i) (stepK n ls ks lx kx id mk μ ψ (μ i) Φ))
    (run : ∀ d, c.pre d → wpFn P (knownL L (one id (loopP n ls ks mk ψ)) noneK) fn (t1s c.sig d) (fun x => x = c.out d)) : GoodC P c := by
  refine good_by (lab := noneK) hw hL hf (lamOk_body h2 (by rw [List.isEmpty_iff.1 h1]; rfl) (fun id' ψ' h s Φ hs => ?_) (fun l rest ψ' _ hl => by cases hl)) run
  obtain ⟨rfl, rfl⟩ := one_some h
  rw [isLoop_eq h3]
  exact run_loop (knownL_ok hw hL _ _) μ (lamOk_free h4) step s Φ hs
theorem good_byD {L : List TCtr} {DL : List LCtr} {blk lab : Nat → Option Piece} {c : TCtr} {fn : Func} (hw : P.follows .mixedOrders = true) (hL : Goods P L) (hD : GoodDs P DL) (hf : Fits P c.f c.sig fn) (hLam : LamOk P (knownD L DL blk lab) (bodyOf fn))
    (run : ∀ d, c.pre d → wpFn P (knownD L DL blk lab) fn (t1s c.sig d) (fun x => x = c.out d)) : GoodC P c :=
  good_ofD hw hL hD hf.there (body_some hf.body) hf.name (sigB_ok hf.sig) hLam run
theorem lam_jumpD {L : List TCtr} {DL : List LCtr} {ι : Type} {n : Nat} {ls ks : List Nat} {mk : ι → TSt} {ψ : ι → Post → Prop} {c : Code} {l : Nat} (lx kx : List Nat) (μ : ι → Nat) (hw : P.follows .mixedOrders = true) (hL : Goods P L) (hD : GoodDs P DL)
    (h1 : decide ((scopesOf c).length ≤ 1) = true) (h2 : (blocksOf c).isEmpty = true) (h3 : findLabel (scC c) l = some (restC c l)) (h4 : freeB noneK (restC c l) = true)
    (step : ∀ i Φ, ψ i Φ → wpT P (knownD L DL noneK (one l (loopP n ls ks mk ψ))) (restC c l) (mk i) (jumpK (knownD L DL noneK (one l (loopP n ls ks mk ψ))) n ls ks lx kx (scC c) l mk μ ψ (μ i) Φ)) : LamOk P (knownD L DL noneK (one l (loopP n ls ks mk ψ))) c := by
  refine lamOk_body (by rw [List.isEmpty_iff.1 h2]; rfl) h1 (fun id ψ h => by cases h) fun l' rest ψ' hf hl => ?_
  obtain ⟨rfl, rfl⟩ := one_some hl
  rw [h3] at hf
  simp only [Option.some.injEq] at hf; subst hf
  refine run_jump (lx := lx) (kx := kx) (knownD_ok hw hL hD _ _) μ (lamOk_free h4) h3 (fun l'' rest' ψ'' hne hf' hl' => ?_) step
  obtain ⟨rfl, _⟩ := one_some hl'
  exact absurd rfl hne
theorem good_loopD {L : List TCtr} {DL : List LCtr} {c : TCtr} {fn : Func} {ι : Type} {n : Nat} {ls ks : List Nat} {mk : ι → TSt} {ψ : ι → Post → Prop} {id : Nat} (lx kx : List Nat) (μ : ι → Nat) (hw : P.follows .mixedOrders = true) (hL : Goods P L) (hD : GoodDs P DL) (hf : Fits P c.f c.sig fn)
    (h1 : (scopesOf (bodyOf fn)).isEmpty = true) (h2 : nodupB ((blocksOf (bodyOf fn)).map (·.1)) = true) (h3 : isLoop (blkC (bodyOf fn) id) = true) (h4 : freeB (one id (loopP n ls ks mk ψ)) (loopOf (blkC (bodyOf fn) id)) = true)
    (step : ∀ i Φ, ψ i Φ → wpT P (knownD L DL (one id (loopP n ls ks mk ψ)) noneK) (loopOf (blkC (bodyOf fn) id)) (mk i) (stepK n ls ks lx kx id mk μ ψ (μ i) Φ))
    (run : ∀ d, c.pre d → wpFn P (knownD L DL (one id (loopP n ls ks mk ψ)) noneK) fn (t1s c.sig d) (fun x => x = c.out d)) : GoodC P c := by
  refine good_byD (lab := noneK) hw hL hD hf (lamOk_body h2 (by rw [List.isEmpty_iff.1 h1]; rfl) (fun id' ψ' h s Φ hs => ?_) (fun l rest ψ' _ hl => by cases hl)) run
  obtain ⟨rfl, rfl⟩ := one_some h
  rw [isLoop_eq h3]
  exact run_loop (knownD_ok hw hL hD _ _) μ (lamOk_free h4) step s Φ hs
def sigLB (P : Program) (sig : List LT) : Bool := sig.all fun a => match a with
  | .l e _ => decide (0 < P.cellsOf e)
  | _ => true
theorem sigLB_ok {sig : List LT} (h : sigLB P sig = true) (e : TypeId) (t : VT) (hm : LT.l e t ∈ sig) : 0 < P.cellsOf e := by
  have := List.all_eq_true.1 h _ hm
  exact of_decide_eq_true this
structure FitsL (P : Program) (f : FuncId) (sig : List LT) (fn : Func) : Prop where
  there : P.funcs[f]? = some fn
  body : hasBody fn = true
  name : (fn.name == "runtime.NumGoroutine") = false
  sig : sigLB P sig = true
theorem goodL_by {L : List TCtr} {DL : List LCtr} {blk lab : Nat → Option Piece} {c : LCtr} {fn : Func} (hw : P.follows .mixedOrders = true) (hL : Goods P L) (hD : GoodDs P DL) (hf : FitsL P c.f c.sig fn) (hLam : LamOk P (knownD L DL blk lab) (bodyOf fn))
    (run : ∀ d, c.pre d → wpFnL P (knownD L DL blk lab) fn c.sig d (fun z x => z = c.eff d ∧ x = c.out d)) : GoodL P c :=
  goodL_of hw hL hD hf.there (body_some hf.body) hf.name (sigLB_ok hf.sig) hLam run
theorem goodL_jump {L : List TCtr} {DL : List LCtr} {c : LCtr} {fn : Func} {ι : Type} {n : Nat} {ls ks : List Nat} {mk : ι → TSt} {ψ : ι → Post → Prop} {l : Nat} (lx kx : List Nat) (μ : ι → Nat) (hw : P.follows .mixedOrders = true) (hL : Goods P L) (hD : GoodDs P DL) (hf : FitsL P c.f c.sig fn)
    (h1 : decide ((scopesOf (bodyOf fn)).length ≤ 1) = true) (h2 : (blocksOf (bodyOf fn)).isEmpty = true) (h3 : findLabel (scC (bodyOf fn)) l = some (restC (bodyOf fn) l)) (h4 : freeB noneK (restC (bodyOf fn) l) = true)
    (step : ∀ i Φ, ψ i Φ → wpT P (knownD L DL noneK (one l (loopP n ls ks mk ψ))) (restC (bodyOf fn) l) (mk i) (jumpK (knownD L DL noneK (one l (loopP n ls ks mk ψ))) n ls ks lx kx (scC (bodyOf fn)) l mk μ ψ (μ i) Φ))
    (run : ∀ d, c.pre d → wpFnL P (knownD L DL noneK (one l (loopP n ls ks mk ψ))) fn c.sig d (fun z x => z = c.eff d ∧ x = c.out d)) : GoodL P c :=
  goodL_by hw hL hD hf (lam_jumpD lx kx μ hw hL hD h1 h2 h3 h4 step) run
end
end Go.AbsM
namespace Go.AbsM
section
variable {P : Program} {E : Env}
theorem run_loopB {ι : Type} {Λ : Known} (hΛ : KnownOk P E Λ) {n : Nat} {ls ks lx kx : List Nat} {id : Nat} {mk : ι → TSt} {ψ : ι → Post → Prop} {c : Code} (μ : ι → Nat) (h3 : isLoop (blkC c id) = true) (hL : LamOk P Λ (loopOf (blkC c id)))
    (step : ∀ i Φ, ψ i Φ → wpT P Λ (loopOf (blkC c id)) (mk i) (stepK n ls ks lx kx id mk μ ψ (μ i) Φ)) (s : TSt) (Φ : Post) (h : loopP n ls ks mk ψ s Φ) : Run P (.code (.block id (blkC c id))) s Φ := by
  rw [isLoop_eq h3]
  exact run_loop hΛ μ hL step s Φ h
end
end Go.AbsM
end

section
namespace Go.AbsM
open Go.RowKit
def phi (P : Program) (f : FuncId) : Option Func :=
  match P.funcs[f]? with
  | some fn => if fn.name == "runtime.NumGoroutine" then none else some fn
  | none => none
def envN (P : Program) (lend : FuncId → Nat → Bool) : Env := { Φ := phi P, Γ := fun _ _ => none, Δ := fun _ _ _ => none, lend := lend, solo := soloK, ok := fun ops => drawM soloK ops }
def lawC (f : FuncId) (sig : List AT) (pre : dens sig → Prop) : TCtr := .det f sig pre (fun _ => TV.bool true) fun _ => rfl
def trueC (f : FuncId) : TCtr := lawC f [] fun _ => True
section
variable {P : Program}
theorem GoodC.law {f : FuncId} {sig : List AT} {pre : dens sig → Prop} (h : GoodC P (lawC f sig pre)) {d : dens sig} (hp : pre d) {w : World} {vs : List Value} (hl : vs.length = (t1s sig d).length)
    (hargs : ∀ (i : Nat) (x : AV) (v : Value), ((t1s sig d).map (T1.emb []))[i]? = some x → vs[i]? = some v → Arg P w x v) : Calls P f vs.toArray w fun e w' => e = .returned (.bool true) ∧ Below w.heap.size w w' :=
  law_calls (h.call d hp []) (by rw [List.length_map]; exact hl) hargs
def inKind (k : IntKind) (n : Int) : Prop := k.min ≤ n ∧ n ≤ k.max
def ArgsOk (P : Program) (w : World) : List AV → List Value → Prop
  | [], [] => True
  | x :: xs, v :: vs => Arg P w x v ∧ ArgsOk P w xs vs
  | _, _ => False
theorem ArgsOk.get {w : World} : ∀ {xs : List AV} {vs : List Value}, ArgsOk P w xs vs → vs.length = xs.length ∧ ∀ (i : Nat) (x : AV) (v : Value), xs[i]? = some x → vs[i]? = some v → Arg P w x v
  | [], [], _ => ⟨rfl, fun i x v h => by simp at h⟩
  | x :: xs, v :: vs, h => by
    obtain ⟨q1, q2⟩ := ArgsOk.get h.2
    refine ⟨by simp [q1], fun i y u hy hu => ?_⟩
    cases i with
    | zero => simp at hy hu; subst hy; subst hu; exact h.1
    | succ i => simp at hy hu; exact q2 i y u hy hu
  | [], _ :: _, h => h.elim
  | _ :: _, [], h => h.elim
end
end Go.AbsM
end

section
namespace Go.AbsM
@[irreducible] def Blk (p : Prop) : Prop := p
theorem Blk.un {p : Prop} (h : Blk p) : p := by unfold Blk at h; exact h
theorem Blk.by {p : Prop} (h : p) : Blk p := by unfold Blk; exact h
theorem Blk.nf {p q : Prop} (e : p = q) (h : q) : Blk p := Blk.by (e.mpr h)
end Go.AbsM
end

section
namespace Sp
open Go Go.AbsM
def zig (a : Int) : Int := if a < 0 then -2 * a - 1 else 2 * a
def zag (u : Int) : Int := if u % 2 = 1 then -(u / 2) - 1 else u / 2
end Sp
end

section
namespace Sp
open Go Go.AbsM
def steps (last : Int) : List Int → List Int
  | [] => []
  | x :: r => zig (W.sub .i64 x last) :: steps x r
def inI (l : List Int) : Prop := ∀ x, x ∈ l → -9223372036854775808 ≤ x ∧ x < 9223372036854775808
def inU (l : List Int) : Prop := ∀ x, x ∈ l → 0 ≤ x ∧ x < 18446744073709551616
def moved (by' : Int) (l : List Int) : List Int := l.map fun x => W.add .i64 x by'
def same (a b : List Int) : Bool := decide (a = b)
theorem sub_zero {x : Int} (h0 : -9223372036854775808 ≤ x) (h1 : x < 9223372036854775808) : W.sub .i64 x 0 = x := by
  unfold W.sub; rw [wrap_i64]; omega
end Sp
end

section
namespace Sp
open Go.AbsM
def encN (n : Nat) : List Int := if h : n < 128 then [(n : Int)] else ((n % 128 + 128 : Nat) : Int) :: encN (n / 128)
termination_by n
decreasing_by omega
def enc (u : Int) : List Int := encN u.toNat
theorem or128 (n : Nat) (h : n < 256) : n ||| 128 = n % 128 + 128 := by
  have : ∀ m : Fin 256, m.val ||| 128 = m.val % 128 + 128 := by decide +kernel
  exact this ⟨n, h⟩
theorem encN_len (n : Nat) : 1 ≤ (encN n).length ∧ ∀ k, n < 128 ^ k → (encN n).length ≤ max k 1 := by
  induction n using Nat.strongRecOn with
  | _ n ih =>
    rw [encN]
    split
    · exact ⟨by simp, fun k _ => by simp; omega⟩
    · rename_i h
      obtain ⟨h1, h2⟩ := ih (n / 128) (by omega)
      refine ⟨by simp, fun k hk => ?_⟩
      cases k with
      | zero => simp at hk; omega
      | succ k =>
        have : n / 128 < 128 ^ k := by rw [Nat.pow_succ] at hk; omega
        have := h2 k this
        cases k with
        | zero => simp at hk; omega
        | succ k => simp; omega
end Sp
end

section
namespace Sp
open Go Go.AbsM
def getF (b : List Int) (a : Nat) : Nat → Int → Int → Int × Int × Int
  | 0, n, u => (0, 0, 2)
  | k + 1, n, u =>
    if (a : Int) + n = b.length then (0, 0, 5) else
    if (n = 9 ∧ 1 < b.getD (a + n.toNat) 0) ∨ (0 < n ∧ b.getD (a + n.toNat) 0 = 0) then (0, 0, 2) else
    if 128 ≤ b.getD (a + n.toNat) 0 then getF b a k (n + 1) (u + (b.getD (a + n.toNat) 0 % 128) * 128 ^ n.toNat)
    else (u + (b.getD (a + n.toNat) 0 % 128) * 128 ^ n.toNat, n + 1, 0)
def get (b : List Int) (at_ : Int) : Int × Int × Int := if at_ < 0 ∨ (b.length : Int) < at_ then (0, 0, 1) else getF b at_.toNat 10 0 0
def bytes (b : List Int) : Prop := ∀ x, x ∈ b → 0 ≤ x ∧ x < 256
theorem bytes_get {b : List Int} (h : bytes b) (i : Nat) : 0 ≤ b.getD i 0 ∧ b.getD i 0 < 256 := by
  rw [List.getD_eq_getElem?_getD]
  cases hi : b[i]? with
  | none => simp
  | some x => exact h x (List.mem_of_getElem? hi)
theorem and127 {c : Int} (h0 : 0 ≤ c) (h1 : c < 256) : W.and .u8 c 127 = c % 128 := by
  rw [W.and_pos rfl h0 (by exact h1) (by decide) (by decide)]
  have : c.toNat &&& (127 : Int).toNat = c.toNat % 128 := Nat.and_two_pow_sub_one_eq_mod c.toNat 7
  rw [this]; omega
theorem pow_le9 {n : Nat} (h : n ≤ 9) : 128 ^ n ≤ 9223372036854775808 := by
  have := Nat.pow_le_pow_right (n := 128) (by decide) h
  have e : (128 : Nat) ^ 9 = 9223372036854775808 := by decide
  omega
theorem pow_le8 {n : Nat} (h : n ≤ 8) : 128 ^ n ≤ 72057594037927936 := by
  have := Nat.pow_le_pow_right (n := 128) (by decide) h
  have e : (128 : Nat) ^ 8 = 72057594037927936 := by decide
  omega
end Sp
namespace Sp
open Go Go.AbsM
section
variable {b : List Int} {a k : Nat} {n u : Int}
theorem getF_short (h : (a : Int) + n = b.length) : getF b a (k + 1) n u = (0, 0, 5) := by simp only [getF, if_pos h]
theorem getF_form (h : (a : Int) + n ≠ b.length) (h2 : (n = 9 ∧ 1 < b.getD (a + n.toNat) 0) ∨ (0 < n ∧ b.getD (a + n.toNat) 0 = 0)) : getF b a (k + 1) n u = (0, 0, 2) := by simp only [getF, if_neg h, if_pos h2]
theorem getF_more (h : (a : Int) + n ≠ b.length) (h2 : ¬ ((n = 9 ∧ 1 < b.getD (a + n.toNat) 0) ∨ (0 < n ∧ b.getD (a + n.toNat) 0 = 0))) (h3 : 128 ≤ b.getD (a + n.toNat) 0) :
    getF b a (k + 1) n u = getF b a k (n + 1) (u + (b.getD (a + n.toNat) 0 % 128) * 128 ^ n.toNat) := by simp only [getF, if_neg h, if_neg h2, if_pos h3]
theorem getF_done (h : (a : Int) + n ≠ b.length) (h2 : ¬ ((n = 9 ∧ 1 < b.getD (a + n.toNat) 0) ∨ (0 < n ∧ b.getD (a + n.toNat) 0 = 0))) (h3 : b.getD (a + n.toNat) 0 < 128) :
    getF b a (k + 1) n u = (u + (b.getD (a + n.toNat) 0 % 128) * 128 ^ n.toNat, n + 1, 0) := by simp only [getF, if_neg h, if_neg h2, if_neg (show ¬ 128 ≤ b.getD (a + n.toNat) 0 by omega)]
end
end Sp
namespace Sp
theorem get_in {b : List Int} {a : Int} (h0 : 0 ≤ a) (h : a ≤ b.length) : get b a = getF b a.toNat 10 0 0 := if_neg (by omega)
end Sp
end

section
namespace Sp
open Go Go.AbsM
theorem encN_low {v : Nat} (h : v < 128) : encN v = [(v : Int)] := by rw [encN, dif_pos h]
theorem encN_high {v : Nat} (h : 128 ≤ v) : encN v = ((v % 128 + 128 : Nat) : Int) :: encN (v / 128) := by rw [encN, dif_neg (by omega)]
theorem getF_enc (L : List Int) (p : Nat) : ∀ (v : Nat) (n u : Nat), n ≤ 9 → u < 128 ^ n → (0 < n → 0 < v) → u + v * 128 ^ n < 18446744073709551616 → p + n ≤ L.length →
    (∀ i, p + n + i < L.length → i < (encN v).length → L.getD (p + n + i) 0 = (encN v).getD i 0) →
    getF L p ((9 - n) + 1) n u = if p + n + (encN v).length ≤ L.length then (((u + v * 128 ^ n : Nat) : Int), ((n + (encN v).length : Nat) : Int), 0) else (0, 0, 5) := by
  intro v
  induction v using Nat.strongRecOn with
  | _ v ih =>
    intro n u hn hu hv hb hp hm
    have hpos : 0 < 128 ^ n := Nat.pow_pos (by decide)
    have hl1 := (encN_len v).1
    by_cases he : p + n = L.length
    · rw [getF_short (by omega), if_neg (by omega)]
    have hne : (p : Int) + n ≠ L.length := by omega
    have h9 : n = 9 → v ≤ 1 := by
      intro h; subst h
      have e : (128 : Nat) ^ 9 = 9223372036854775808 := by decide
      rw [e] at hb
      omega
    by_cases h : v < 128
    · have hc : L.getD (p + n) 0 = (v : Int) := by
        have := hm 0 (by omega) (by omega)
        rw [encN_low h] at this; simpa using this
      have hno : ¬ (((n : Int) = 9 ∧ 1 < L.getD (p + (n : Int).toNat) 0) ∨ (0 < (n : Int) ∧ L.getD (p + (n : Int).toNat) 0 = 0)) := by
        rw [Int.toNat_natCast, hc]
        rintro (⟨a, b⟩ | ⟨a, b⟩)
        · have := h9 (by omega); omega
        · have := hv (by omega); omega
      rw [getF_done hne hno (by rw [Int.toNat_natCast, hc]; omega), Int.toNat_natCast, hc]
      have hlen : (encN v).length = 1 := by rw [encN_low h]; rfl
      rw [hlen, if_pos (by omega)]
      have : (v : Int) % 128 = v := by omega
      rw [this]; push_cast; rfl
    · have hc : L.getD (p + n) 0 = ((v % 128 + 128 : Nat) : Int) := by
        have := hm 0 (by omega) (by omega)
        rw [encN_high (by omega)] at this; simpa using this
      have hn8 : n ≤ 8 := by
        by_cases hh : n = 9
        · have := h9 hh; omega
        · omega
      have hno : ¬ (((n : Int) = 9 ∧ 1 < L.getD (p + (n : Int).toNat) 0) ∨ (0 < (n : Int) ∧ L.getD (p + (n : Int).toNat) 0 = 0)) := by
        rw [Int.toNat_natCast, hc]
        rintro (⟨a, b⟩ | ⟨a, b⟩) <;> omega
      rw [getF_more hne hno (by rw [Int.toNat_natCast, hc]; omega), Int.toNat_natCast, hc]
      have hk : 9 - n = (9 - (n + 1)) + 1 := by omega
      have hlen : (encN v).length = 1 + (encN (v / 128)).length := by rw [encN_high (by omega)]; simp; omega
      have hmod : ((v % 128 + 128 : Nat) : Int) % 128 = ((v % 128 : Nat) : Int) := by omega
      have hsplit : u + v * 128 ^ n = u + (v % 128) * 128 ^ n + v / 128 * 128 ^ (n + 1) := by
        have h1 : v = v % 128 + 128 * (v / 128) := by omega
        have h2 : v * 128 ^ n = (v % 128) * 128 ^ n + 128 * (v / 128) * 128 ^ n := by
          rw [← Nat.add_mul, ← h1]
        rw [Nat.pow_succ, h2]
        have h3 : 128 * (v / 128) * 128 ^ n = v / 128 * (128 ^ n * 128) := by
          rw [Nat.mul_comm (128 ^ n) 128, ← Nat.mul_assoc, Nat.mul_comm 128 (v / 128)]
        omega
      have hu2 : u + (v % 128) * 128 ^ n < 128 ^ (n + 1) := by
        have h1 : (v % 128) * 128 ^ n ≤ 127 * 128 ^ n := Nat.mul_le_mul_right _ (by omega)
        rw [Nat.pow_succ]; omega
      have := ih (v / 128) (by omega) (n + 1) (u + (v % 128) * 128 ^ n) (by omega) hu2 (fun _ => by omega) (by omega) (by omega) (fun i hi1 hi2 => by
        have := hm (i + 1) (by omega) (by omega)
        rw [encN_high (by omega)] at this
        simp only [List.getD_cons_succ] at this
        rw [← this]; congr 1; omega)
      rw [hk, hmod]
      have e1 : (u : Int) + ((v % 128 : Nat) : Int) * 128 ^ n = ((u + (v % 128) * 128 ^ n : Nat) : Int) := by push_cast; rfl
      have e2 : (n : Int) + 1 = ((n + 1 : Nat) : Int) := by push_cast; rfl
      rw [e1, e2, this, hlen, ← hsplit]
      have e3 : n + 1 + (encN (v / 128)).length = n + (1 + (encN (v / 128)).length) := by omega
      have e4 : p + (n + 1) + (encN (v / 128)).length = p + n + (1 + (encN (v / 128)).length) := by omega
      rw [e3, e4]
theorem getF_ok (L : List Int) (hL : bytes L) (p : Nat) : ∀ (k n u : Nat) (x m : Int), n + k = 10 → u < 128 ^ n → p + n ≤ L.length → getF L p k n u = (x, m, 0) →
    ∃ v M : Nat, x = ((u + v * 128 ^ n : Nat) : Int) ∧ m = ((n + M : Nat) : Int) ∧ p + n + M ≤ L.length ∧ encN v = (L.drop (p + n)).take M ∧ (0 < n → 0 < v) ∧ u + v * 128 ^ n < 18446744073709551616 := by
  intro k
  induction k with
  | zero => intro n u x m hk hu hp h; simp [getF] at h
  | succ k ih =>
    intro n u x m hk hu hp h
    by_cases he : (p : Int) + n = L.length
    · rw [getF_short he] at h; cases h
    by_cases hf : ((n : Int) = 9 ∧ 1 < L.getD (p + (n : Int).toNat) 0) ∨ (0 < (n : Int) ∧ L.getD (p + (n : Int).toNat) 0 = 0)
    · rw [getF_form he hf] at h; cases h
    have hc := bytes_get hL (p + n)
    have hlt : p + n < L.length := by omega
    obtain ⟨c, hcc⟩ : ∃ c : Nat, L.getD (p + n) 0 = c := ⟨(L.getD (p + n) 0).toNat, by omega⟩
    have hdrop : L.drop (p + n) = (c : Int) :: L.drop (p + n + 1) := by
      rw [List.drop_eq_getElem_cons hlt]
      congr 1
      rw [← hcc, List.getD_eq_getElem?_getD, List.getElem?_eq_getElem hlt]; rfl
    have hf' := hf
    rw [Int.toNat_natCast, hcc] at hf'
    simp only [not_or, not_and] at hf'
    have hb : c ≤ 1 ∨ n ≤ 8 := by
      by_cases h9 : n = 9
      · left; have := hf'.1 (by omega); omega
      · right; omega
    by_cases h3 : 128 ≤ L.getD (p + (n : Int).toNat) 0
    · rw [getF_more he hf h3, Int.toNat_natCast, hcc] at h
      rw [Int.toNat_natCast, hcc] at h3
      have e1 : (u : Int) + (c : Int) % 128 * 128 ^ n = ((u + (c % 128) * 128 ^ n : Nat) : Int) := by push_cast; rfl
      have e2 : (n : Int) + 1 = ((n + 1 : Nat) : Int) := by push_cast; rfl
      rw [e1, e2] at h
      have hu2 : u + (c % 128) * 128 ^ n < 128 ^ (n + 1) := by
        have h1 : (c % 128) * 128 ^ n ≤ 127 * 128 ^ n := Nat.mul_le_mul_right _ (by omega)
        rw [Nat.pow_succ]; omega
      obtain ⟨v, M, q1, q2, q3, q4, q5, q6⟩ := ih (n + 1) _ x m (by omega) hu2 (by omega) h
      have hv := q5 (by omega)
      have hsum : u + (c % 128 + 128 * v) * 128 ^ n = u + (c % 128) * 128 ^ n + v * 128 ^ (n + 1) := by
        rw [Nat.pow_succ, Nat.add_mul]
        have h3 : 128 * v * 128 ^ n = v * (128 ^ n * 128) := by
          rw [Nat.mul_comm (128 ^ n) 128, ← Nat.mul_assoc, Nat.mul_comm 128 v]
        omega
      refine ⟨c % 128 + 128 * v, M + 1, by rw [hsum]; exact q1, by rw [q2]; congr 1; omega, by omega, ?_, fun _ => by omega, by rw [hsum]; exact q6⟩
      rw [encN_high (by omega), hdrop, List.take_succ_cons]
      have h1 : (c % 128 + 128 * v) / 128 = v := by omega
      have h2 : (c % 128 + 128 * v) % 128 + 128 = c := by omega
      rw [h1, h2, q4]
      rfl
    · rw [getF_done he hf (by omega), Int.toNat_natCast, hcc] at h
      rw [Int.toNat_natCast, hcc] at h3
      simp only [Prod.mk.injEq] at h
      obtain ⟨h1, h2, _⟩ := h
      have hc128 : (c : Int) % 128 = c := by omega
      rw [hc128] at h1
      refine ⟨c, 1, by rw [← h1]; push_cast; rfl, by rw [← h2]; push_cast; rfl, by omega, ?_, fun hn => ?_, ?_⟩
      · rw [encN_low (by omega), hdrop]; rfl
      · have := hf'.2 (by omega); omega
      · rcases hb with hb | hb
        · have h9 : 128 ^ n ≤ 9223372036854775808 := pow_le9 (by omega)
          have : c * 128 ^ n ≤ 1 * 128 ^ n := Nat.mul_le_mul_right _ hb
          omega
        · have h8 : 128 ^ n ≤ 72057594037927936 := pow_le8 hb
          have : c * 128 ^ n ≤ 127 * 128 ^ n := Nat.mul_le_mul_right _ (by omega)
          omega
theorem get_put {b : List Int} {u : Int} (h0 : 0 ≤ u) (h1 : u < 18446744073709551616) : get (b ++ enc u) b.length = (u, ((enc u).length : Int), 0) := by
  rw [get_in (by omega) (by simp; omega), Int.toNat_natCast]
  have := getF_enc (b ++ enc u) b.length u.toNat 0 0 (by omega) (by decide) (fun h => by omega) (by simp; omega) (by simp) (fun i hi1 hi2 => by
    simp only [Nat.add_zero, List.getD_eq_getElem?_getD]
    rw [List.getElem?_append_right (by omega)]
    unfold enc
    congr 2; omega)
  rw [if_pos (by simp [enc])] at this
  simp only [Nat.pow_zero, Nat.mul_one, Nat.zero_add] at this
  have e : ((u.toNat : Nat) : Int) = u := Int.toNat_of_nonneg h0
  rw [e] at this
  exact this
end Sp
end

section
namespace Sp
open Go Go.AbsM
def e4 (b : List Int) (a : Int) : Int := W.or .u32 (W.or .u32 (W.or .u32 (W.wrap .u32 (b.getD a.toNat 0)) (W.shl .u32 (W.wrap .u32 (b.getD (a + 1).toNat 0)) 8)) (W.shl .u32 (W.wrap .u32 (b.getD (a + 2).toNat 0)) 16)) (W.shl .u32 (W.wrap .u32 (b.getD (a + 3).toNat 0)) 24)
def get4 (b : List Int) (a : Int) : Int × Int × Int := if a < 0 ∨ (b.length : Int) < a then (0, 0, 1) else if (b.length : Int) - a < 4 then (0, 0, 5) else (e4 b a, 4, 0)
end Sp
namespace Sp
def more (v : Int) : Int := if v ≤ 0 then 0 else (enc v).length
end Sp
namespace Sp
end Sp
namespace Sp
def encs : List Int → List Int
  | [] => []
  | x :: r => enc x ++ encs r
def ends (l : List Int) : List Int := (List.range l.length).map fun i => ((encs (l.take (i + 1))).length : Int)
end Sp
namespace Sp
end Sp
end

section
namespace Sp
open Go Go.AbsM
def ofVal (L v : Nat) : List Int := (List.range L).map fun j => ((v >>> (8 * j) % 256 : Nat) : Int)
def valOf : List Int → Nat
  | [] => 0
  | x :: r => x.toNat % 256 ||| valOf r <<< 8
theorem ofVal_len (L v : Nat) : (ofVal L v).length = L := by simp [ofVal]
theorem ofVal_get {L v j : Nat} (h : j < L) : (ofVal L v).getD j 0 = ((v >>> (8 * j) % 256 : Nat) : Int) := by
  rw [List.getD_eq_getElem?_getD]; simp [ofVal, h]
theorem p256 : (256 : Nat) = 2 ^ 8 := rfl
theorem tb_mod (x i : Nat) : (x % 256).testBit i = (decide (i < 8) && x.testBit i) := by rw [p256, Nat.testBit_mod_two_pow]
theorem ofVal_zero (L : Nat) : ofVal L 0 = List.replicate L 0 := by
  apply List.ext_getElem?
  intro i
  simp only [ofVal, List.getElem?_map, List.getElem?_replicate]
  by_cases h : i < L
  · simp [h]
  · simp [h]
theorem ofVal_or {L v j x : Nat} (h : j < L) (hx : x < 256) : (ofVal L v).set j (((v >>> (8 * j) % 256 ||| x : Nat)) : Int) = ofVal L (v ||| x <<< (8 * j)) := by
  apply List.ext_getElem?
  intro i
  simp only [ofVal, List.getElem?_set, List.length_map, List.length_range, List.getElem?_map]
  have key : ∀ i, ((v ||| x <<< (8 * j)) >>> (8 * i)) % 256 = if i = j then (v >>> (8 * j) % 256 ||| x) else v >>> (8 * i) % 256 := by
    intro i
    have hx8 : ∀ b, 8 ≤ b → x.testBit b = false := fun b hb => Nat.testBit_lt_two_pow (Nat.lt_of_lt_of_le hx (by rw [p256]; exact Nat.pow_le_pow_right (by decide) hb))
    split
    · rename_i e; subst e
      apply Nat.eq_of_testBit_eq
      intro b
      simp only [tb_mod, Nat.testBit_or, Nat.testBit_shiftRight, Nat.testBit_shiftLeft]
      by_cases hb : b < 8
      · simp [hb]
      · simp [hb, hx8 b (by omega)]
    · rename_i e
      apply Nat.eq_of_testBit_eq
      intro b
      simp only [tb_mod, Nat.testBit_or, Nat.testBit_shiftRight, Nat.testBit_shiftLeft]
      by_cases hb : b < 8
      · by_cases hg : 8 * j ≤ 8 * i + b
        · rw [hx8 (8 * i + b - 8 * j) (by omega)]; simp
        · simp [hg]
      · simp [hb]
  by_cases hi : i < L
  · by_cases e : i = j
    · subst e; simp [hi, key]
    · rw [if_neg (Ne.symm e)]; simp [hi, key, e]
  · have e : i ≠ j := by omega
    rw [if_neg (Ne.symm e)]; simp [hi]
theorem ofVal_bytes (L v : Nat) : bytes (ofVal L v) := fun x hx => by
  simp only [ofVal, List.mem_map] at hx
  obtain ⟨j, _, rfl⟩ := hx
  have := Nat.mod_lt (v >>> (8 * j)) (show 0 < 256 by decide)
  omega
theorem valOf_lt (b : List Int) : valOf b < 2 ^ (8 * b.length) := by
  induction b with
  | nil => exact Nat.one_pos
  | cons x r ih =>
    rw [valOf, List.length_cons]
    apply Nat.or_lt_two_pow
    · exact Nat.lt_of_lt_of_le (Nat.mod_lt _ (by decide)) (by rw [p256]; exact Nat.pow_le_pow_right (by decide) (by omega))
    · rw [Nat.shiftLeft_eq]
      calc valOf r * 2 ^ 8 < 2 ^ (8 * r.length) * 2 ^ 8 := Nat.mul_lt_mul_of_pos_right ih (by decide)
        _ = 2 ^ (8 * (r.length + 1)) := by rw [← Nat.pow_add]; rfl
theorem ofVal_valOf : ∀ (b : List Int), bytes b → ofVal b.length (valOf b) = b
  | [], _ => rfl
  | x :: r, h => by
    have ih := ofVal_valOf r (fun y hy => h y (List.mem_cons_of_mem _ hy))
    have hx := h x List.mem_cons_self
    rw [ofVal, List.length_cons, List.range_succ_eq_map, List.map_cons, List.map_map]
    congr 1
    · have e : (valOf (x :: r) >>> (8 * 0)) % 256 = x.toNat := by
        apply Nat.eq_of_testBit_eq
        intro b
        have hlt : x.toNat < 256 := by omega
        simp only [valOf, tb_mod, Nat.testBit_or, Nat.testBit_shiftRight, Nat.testBit_shiftLeft, Nat.mul_zero, Nat.zero_add]
        by_cases hb : b < 8
        · have : ¬ (8 ≤ b) := by omega
          simp [hb, this]
        · have : x.toNat.testBit b = false := Nat.testBit_lt_two_pow (Nat.lt_of_lt_of_le hlt (by rw [p256]; exact Nat.pow_le_pow_right (by decide) (by omega)))
          simp [hb, this]
      rw [e]; omega
    · conv => rhs; rw [← ih]
      simp only [ofVal]
      apply List.map_congr_left
      intro j _
      simp only [Function.comp]
      have e : (valOf (x :: r) >>> (8 * (j + 1))) % 256 = (valOf r >>> (8 * j)) % 256 := by
        apply Nat.eq_of_testBit_eq
        intro b
        simp only [valOf, tb_mod, Nat.testBit_or, Nat.testBit_shiftRight, Nat.testBit_shiftLeft]
        by_cases hb : b < 8
        · have h1 : ¬ (8 * (j + 1) + b < 8) := by omega
          have h2 : 8 ≤ 8 * (j + 1) + b := by omega
          have h3 : 8 * (j + 1) + b - 8 = 8 * j + b := by omega
          simp [h1, h2, h3]
        · simp [hb]
      rw [e]
theorem ofVal_inj {L v u : Nat} (hv : v < 2 ^ (8 * L)) (hu : u < 2 ^ (8 * L)) (h : ofVal L v = ofVal L u) : v = u := by
  apply Nat.eq_of_testBit_eq
  intro b
  by_cases hb : b < 8 * L
  · have hj : b / 8 < L := by omega
    have h1 := congrArg (fun l => l.getD (b / 8) 0) h
    simp only [ofVal_get hj] at h1
    have h2 : (v >>> (8 * (b / 8))) % 256 = (u >>> (8 * (b / 8))) % 256 := by exact_mod_cast h1
    have h3 := congrArg (fun n => n.testBit (b % 8)) h2
    simp only [tb_mod, Nat.testBit_shiftRight] at h3
    have h4 : 8 * (b / 8) + b % 8 = b := Nat.div_add_mod b 8
    rw [h4] at h3
    have h5 : b % 8 < 8 := Nat.mod_lt _ (by decide)
    simpa [h5] using h3
  · rw [Nat.testBit_lt_two_pow (Nat.lt_of_lt_of_le hv (Nat.pow_le_pow_right (by decide) (by omega))), Nat.testBit_lt_two_pow (Nat.lt_of_lt_of_le hu (Nat.pow_le_pow_right (by decide) (by omega)))]
theorem put_step {u at' n s : Nat} (hu : u < 2 ^ n) (hs : s = min n (8 - at' % 8)) : ((u <<< (at' % 8)) % 256) <<< (8 * (at' / 8)) ||| (u >>> s) <<< (at' + s) = u <<< at' := by
  apply Nat.eq_of_testBit_eq
  intro b
  simp only [Nat.testBit_or, Nat.testBit_shiftLeft, Nat.testBit_shiftRight, tb_mod]
  have hm : at' % 8 < 8 := Nat.mod_lt _ (by decide)
  have hd : 8 * (at' / 8) + at' % 8 = at' := Nat.div_add_mod at' 8
  by_cases h1 : at' ≤ b
  · have a1 : 8 * (at' / 8) ≤ b := by omega
    have a2 : at' % 8 ≤ b - 8 * (at' / 8) := by omega
    have a3 : b - 8 * (at' / 8) - at' % 8 = b - at' := by omega
    simp only [a1, a2, a3, h1, decide_true, Bool.true_and]
    by_cases h2 : at' + s ≤ b
    · have a4 : s + (b - (at' + s)) = b - at' := by omega
      simp only [h2, decide_true, Bool.true_and, a4]
      cases (u.testBit (b - at')) <;> simp
    · simp only [h2, decide_false, Bool.false_and, Bool.or_false]
      have : b - 8 * (at' / 8) < 8 := by omega
      simp [this]
  · have a1 : ¬ (at' + s ≤ b) := by omega
    simp only [h1, a1, decide_false, Bool.false_and, Bool.or_false]
    by_cases h2 : 8 * (at' / 8) ≤ b
    · have : ¬ (at' % 8 ≤ b - 8 * (at' / 8)) := by omega
      simp [this]
    · simp [h2]
theorem shr_lt {u n s : Nat} (hu : u < 2 ^ n) (hs : s ≤ n) : u >>> s < 2 ^ (n - s) := by
  rw [Nat.shiftRight_eq_div_pow]
  apply Nat.div_lt_of_lt_mul
  rw [← Nat.pow_add]
  have : s + (n - s) = n := by omega
  rw [this]; exact hu
theorem get_step {v a at' h s : Nat} (hs : s ≤ 8 - at' % 8) (ha : at' = a + h) : (v >>> a) % 2 ^ h ||| ((((v >>> (8 * (at' / 8)) % 256) >>> (at' % 8)) % 2 ^ s) <<< h) = (v >>> a) % 2 ^ (h + s) := by
  apply Nat.eq_of_testBit_eq
  intro b
  simp only [Nat.testBit_or, Nat.testBit_shiftLeft, Nat.testBit_shiftRight, tb_mod, Nat.testBit_mod_two_pow]
  have hm : at' % 8 < 8 := Nat.mod_lt _ (by decide)
  have hd : 8 * (at' / 8) + at' % 8 = at' := Nat.div_add_mod at' 8
  by_cases h1 : b < h
  · have a1 : ¬ (h ≤ b) := by omega
    have a2 : b < h + s := by omega
    simp [h1, a1, a2]
  · have a1 : h ≤ b := by omega
    simp only [h1, a1, decide_false, decide_true, Bool.false_and, Bool.true_and, Bool.false_or]
    by_cases h2 : b < h + s
    · have a3 : b - h < s := by omega
      have a4 : at' % 8 + (b - h) < 8 := by omega
      have a5 : 8 * (at' / 8) + (at' % 8 + (b - h)) = a + b := by omega
      simp [h2, a3, a4, a5]
    · have a3 : ¬ (b - h < s) := by omega
      simp [h2, a3]
def packN (w : Nat) : List Int → Nat
  | [] => 0
  | x :: r => x.toNat ||| packN w r <<< w
def unpackN (w v : Nat) : Nat → List Int
  | 0 => []
  | n + 1 => (((v % 2 ^ w : Nat) : Int)) :: unpackN w (v >>> w) n
theorem unpackN_len (w : Nat) : ∀ (n v : Nat), (unpackN w v n).length = n
  | 0, _ => rfl
  | n + 1, v => by rw [unpackN, List.length_cons, unpackN_len w n]
theorem unpackN_get (w : Nat) : ∀ (n v i : Nat), i < n → (unpackN w v n).getD i 0 = ((v >>> (i * w) % 2 ^ w : Nat) : Int)
  | 0, _, i, h => by omega
  | n + 1, v, 0, h => by simp [unpackN]
  | n + 1, v, i + 1, h => by
    have e : i * w + w = (i + 1) * w := by rw [Nat.add_mul, Nat.one_mul]
    rw [unpackN]
    show (unpackN w (v >>> w) n).getD i 0 = _
    rw [unpackN_get w n (v >>> w) i (by omega), ← Nat.shiftRight_add, Nat.add_comm w, e]
def fits (w : Nat) (l : List Int) : Prop := ∀ x, x ∈ l → 0 ≤ x ∧ x.toNat < 2 ^ w
theorem unpack_pack (w : Nat) : ∀ (l : List Int), fits w l → unpackN w (packN w l) l.length = l
  | [], _ => rfl
  | x :: r, h => by
    have hx := h x List.mem_cons_self
    have ih := unpack_pack w r fun y hy => h y (List.mem_cons_of_mem _ hy)
    rw [List.length_cons, unpackN]
    have e1 : (packN w (x :: r)) % 2 ^ w = x.toNat := by
      apply Nat.eq_of_testBit_eq
      intro b
      simp only [packN, Nat.testBit_mod_two_pow, Nat.testBit_or, Nat.testBit_shiftLeft]
      by_cases hb : b < w
      · have : ¬ (w ≤ b) := by omega
        simp [hb, this]
      · have := Nat.testBit_lt_two_pow (Nat.lt_of_lt_of_le hx.2 (Nat.pow_le_pow_right (by decide) (show w ≤ b by omega)))
        simp [hb, this]
    have e2 : (packN w (x :: r)) >>> w = packN w r := by
      apply Nat.eq_of_testBit_eq
      intro b
      have := Nat.testBit_lt_two_pow (Nat.lt_of_lt_of_le hx.2 (Nat.pow_le_pow_right (by decide) (show w ≤ w + b by omega)))
      simp [packN, Nat.testBit_or, Nat.testBit_shiftLeft, Nat.testBit_shiftRight, this]
    rw [e1, e2, ih, Int.toNat_of_nonneg hx.1]
theorem packN_lt {w : Nat} : ∀ {l : List Int}, fits w l → packN w l < 2 ^ (l.length * w)
  | [], _ => Nat.one_le_two_pow
  | x :: r, h => by
    have hx := (h x List.mem_cons_self).2
    have ih := packN_lt (w := w) (l := r) fun y hy => h y (List.mem_cons_of_mem _ hy)
    have e : (r.length + 1) * w = r.length * w + w := by rw [Nat.add_mul, Nat.one_mul]
    rw [packN, List.length_cons]
    apply Nat.or_lt_two_pow
    · exact Nat.lt_of_lt_of_le hx (Nat.pow_le_pow_right (by decide) (by rw [e]; omega))
    · rw [Nat.shiftLeft_eq, e, Nat.pow_add]
      exact Nat.mul_lt_mul_of_pos_right ih (Nat.two_pow_pos w)
theorem packN_app (w : Nat) : ∀ (a b : List Int), packN w (a ++ b) = packN w a ||| packN w b <<< (a.length * w)
  | [], b => by simp [packN]
  | x :: a, b => by
    have e : (a.length + 1) * w = a.length * w + w := by rw [Nat.add_mul, Nat.one_mul]
    rw [List.cons_append, packN, packN, packN_app w a b, Nat.or_assoc, List.length_cons, e, Nat.shiftLeft_add]
    congr 1
    apply Nat.eq_of_testBit_eq
    intro i
    simp only [Nat.testBit_or, Nat.testBit_shiftLeft]
    by_cases h : w ≤ i <;> simp [h]
theorem packN_take {w : Nat} {l : List Int} {i : Nat} (h : i < l.length) : packN w (l.take (i + 1)) = packN w (l.take i) ||| (l.getD i 0).toNat <<< (i * w) := by
  have e : l.take (i + 1) = l.take i ++ [l.getD i 0] := by
    rw [List.take_add_one, List.getElem?_eq_getElem h, List.getD_eq_getElem?_getD, List.getElem?_eq_getElem h]; rfl
  have e2 : (l.take i).length = i := by rw [List.length_take]; omega
  rw [e, packN_app, e2]
  simp [packN]
end Sp
namespace Sp
open Go Go.AbsM
theorem valOf_ofVal {L v : Nat} (h : v < 2 ^ (8 * L)) : valOf (ofVal L v) = v := by
  have h1 := ofVal_valOf (ofVal L v) (ofVal_bytes L v)
  have h2 := valOf_lt (ofVal L v)
  rw [ofVal_len] at h1 h2
  exact ofVal_inj h2 h h1
def mayB (n w : Int) : Bool := decide (0 ≤ n ∧ n ≤ 65536 ∧ 0 ≤ w ∧ w ≤ 64)
def size (n w : Int) : Int := if mayB n w then (n * w + 7) / 8 else 0
def bitLen (n : Nat) : Nat := if n = 0 then 0 else n.log2 + 1
def blen (x : Int) : Int := (bitLen x.toNat : Nat)
def orAll : List Int → Nat
  | [] => 0
  | x :: r => x.toNat ||| orAll r
def width (l : List Int) : Int := (bitLen (orAll l) : Nat)
def putB (b : List Int) (a u : Int) : List Int := ofVal b.length (valOf b ||| u.toNat <<< a.toNat)
def getB (b : List Int) (a n : Int) : Int := ((valOf b >>> a.toNat) % 2 ^ n.toNat : Nat)
theorem bitLen_le {n w : Nat} : bitLen n ≤ w ↔ n < 2 ^ w := by
  unfold bitLen
  split
  · rename_i h; subst h; simp [Nat.two_pow_pos]
  · rename_i h
    rw [Nat.succ_le_iff, Nat.log2_lt h]
end Sp
end

section
namespace Sp
open Go Go.AbsM
theorem shr_nat {k : IntKind} {U s : Nat} (h : s ≤ k.bits) : W.shr k (U : Int) (s : Int) = ((U >>> s : Nat) : Int) := by
  unfold W.shr
  have e : min (s : Int).toNat k.bits = s := by rw [Int.toNat_natCast]; omega
  rw [e, Nat.shiftRight_eq_div_pow, Int.fdiv_eq_ediv_of_nonneg _ (by exact_mod_cast Nat.zero_le _)]
  push_cast; rfl
theorem shl_u64 {U s : Nat} (h : s ≤ 64) : W.shl .u64 (U : Int) (s : Int) = ((U <<< s % 18446744073709551616 : Nat) : Int) := by
  unfold W.shl
  have e : min (s : Int).toNat IntKind.u64.bits = s := by rw [Int.toNat_natCast]; show min s 64 = s; omega
  rw [e, wrap_u64, Nat.shiftLeft_eq, Int.natCast_emod, Int.natCast_mul, Int.natCast_pow]; rfl
theorem or_u8n {x y : Nat} (hx : x < 256) (hy : y < 256) : W.or .u8 (x : Int) (y : Int) = ((x ||| y : Nat) : Int) := by
  have := W.or_pos (k := .u8) (a := (x : Int)) (b := (y : Int)) rfl (by omega) (by show (x : Int) < 256; omega) (by omega) (by show (y : Int) < 256; omega)
  simpa using this
theorem or_u64 {x y : Nat} (hx : x < 18446744073709551616) (hy : y < 18446744073709551616) : W.or .u64 (x : Int) (y : Int) = ((x ||| y : Nat) : Int) := by
  have := W.or_pos (k := .u64) (a := (x : Int)) (b := (y : Int)) rfl (by omega) (by show (x : Int) < 18446744073709551616; omega) (by omega) (by show (y : Int) < 18446744073709551616; omega)
  simpa using this
theorem and_u8 {x y : Nat} (hx : x < 256) (hy : y < 256) : W.and .u8 (x : Int) (y : Int) = ((x &&& y : Nat) : Int) := by
  have := W.and_pos (k := .u8) (a := (x : Int)) (b := (y : Int)) rfl (by omega) (by show (x : Int) < 256; omega) (by omega) (by show (y : Int) < 256; omega)
  simpa using this
theorem and_u64 {x y : Nat} (hx : x < 18446744073709551616) (hy : y < 18446744073709551616) : W.and .u64 (x : Int) (y : Int) = ((x &&& y : Nat) : Int) := by
  have := W.and_pos (k := .u64) (a := (x : Int)) (b := (y : Int)) rfl (by omega) (by show (x : Int) < 18446744073709551616; omega) (by omega) (by show (y : Int) < 18446744073709551616; omega)
  simpa using this
theorem byte_shl {U r : Nat} (h : r < 8) : W.wrap .u8 (W.shl .u64 (U : Int) (r : Int)) = (((U <<< r) % 256 : Nat) : Int) := by
  rw [shl_u64 (by omega), W.wu8]
  have : (((U <<< r % 18446744073709551616 : Nat) : Int)) % 256 = ((U <<< r % 18446744073709551616 % 256 : Nat) : Int) := by rw [Int.natCast_emod]; rfl
  rw [this]; congr 1; omega
theorem quo8 {A : Nat} (h : A < 9223372036854775808) : W.quo .i64 (A : Int) 8 = ((A / 8 : Nat) : Int) := by
  rw [W.quo_i64 (by omega) (by omega) (by omega)]; push_cast; rfl
theorem rem8 (A : Nat) : W.rem (A : Int) 8 = ((A % 8 : Nat) : Int) := by
  rw [W.rem_pos (by omega)]; push_cast; rfl
theorem imin_nat (a b : Nat) : W.imin (a : Int) (b : Int) = ((min a b : Nat) : Int) := by
  unfold W.imin; split <;> omega
theorem get_val {b : List Int} {j : Nat} (hb : bytes b) (hj : j < b.length) : b.getD j 0 = ((valOf b >>> (8 * j) % 256 : Nat) : Int) := by
  have := ofVal_get (L := b.length) (v := valOf b) hj
  rw [ofVal_valOf b hb] at this; exact this
theorem put_all {b : List Int} {A U N : Nat} (hb : bytes b) (hA : A + N ≤ 8 * b.length) (hU : U < 2 ^ N) (hN : N ≠ 0) :
    bytes (b.set (A / 8) (((((b.getD (A / 8) 0).toNat ||| (U <<< (A % 8)) % 256 : Nat)) : Int))) ∧ putB (b.set (A / 8) (((((b.getD (A / 8) 0).toNat ||| (U <<< (A % 8)) % 256 : Nat)) : Int))) ((A + min N (8 - A % 8) : Nat) : Int) ((U >>> min N (8 - A % 8) : Nat) : Int) = putB b (A : Int) (U : Int) := by
  have hv := valOf_lt b
  have hj : A / 8 < b.length := by omega
  have e0 : b = ofVal b.length (valOf b) := (ofVal_valOf b hb).symm
  have eg : (b.getD (A / 8) 0).toNat = valOf b >>> (8 * (A / 8)) % 256 := by
    rw [get_val hb hj, Int.toNat_natCast]
  rw [eg]
  have hx : (U <<< (A % 8)) % 256 < 256 := Nat.mod_lt _ (by decide)
  have e1 : b.set (A / 8) ((((valOf b >>> (8 * (A / 8)) % 256 ||| (U <<< (A % 8)) % 256 : Nat)) : Int)) = ofVal b.length (valOf b ||| ((U <<< (A % 8)) % 256) <<< (8 * (A / 8))) := by
    have := ofVal_or (L := b.length) (v := valOf b) hj hx
    rw [← e0] at this; exact this
  have hlt : valOf b ||| ((U <<< (A % 8)) % 256) <<< (8 * (A / 8)) < 2 ^ (8 * b.length) := by
    apply Nat.or_lt_two_pow hv
    rw [Nat.shiftLeft_eq]
    calc (U <<< (A % 8)) % 256 * 2 ^ (8 * (A / 8)) < 2 ^ 8 * 2 ^ (8 * (A / 8)) := Nat.mul_lt_mul_of_pos_right hx (Nat.two_pow_pos _)
      _ = 2 ^ (8 + 8 * (A / 8)) := by rw [← Nat.pow_add]
      _ ≤ 2 ^ (8 * b.length) := Nat.pow_le_pow_right (by decide) (by omega)
  rw [e1]
  refine ⟨ofVal_bytes _ _, ?_⟩
  unfold putB
  rw [ofVal_len, valOf_ofVal hlt, Nat.or_assoc]
  simp only [Int.toNat_natCast]
  rw [put_step hU rfl]
theorem mask_and (x s : Nat) : x &&& (2 ^ s - 1) = x % 2 ^ s := Nat.and_two_pow_sub_one_eq_mod x s
end Sp
end

section
namespace Go.AbsM
open Go.RowKit
section
variable {P : Program}
theorem GoodC.out {c : TCtr} (h : GoodC P c) (d : dens c.sig) (hp : c.pre d) {w : World} (vs : List Value) (hargs : ArgsOk P w ((t1s c.sig d).map (T1.emb [])) vs) :
    Calls P c.f vs.toArray w fun e w' => ∃ v g', e = .returned v ∧ Below w.heap.size w w' ∧ ResRep P (fun b => w.heap.size ≤ b) w' g' [] ((c.out d).emb []) v := by
  obtain ⟨q1, q2⟩ := hargs.get
  have hi0 : SInv P w (allGh w) (fun b => w.heap.size ≤ b) [] := ⟨(fun i k cs h => by cases h), (fun i k e xs h => by cases h), (fun i k e xs h => by cases h), (fun i k o i' k' o' h => by cases h), fun b o h => h⟩
  refine ((h.call d hp []) _ w (allGh w) vs hi0 (fun b h => h) q1 fun i x v hx hv => (q2 i x v hx hv).hrep_any rfl).mono fun e w' ⟨v, g', he, hF, hI, _, hR⟩ => ?_
  exact ⟨v, g', he, ⟨hF.os, hF.tape, hF.output, hF.size, fun k hk => hF.heap k (by omega)⟩, hR⟩
theorem res_x {may : Nat → Prop} {w : World} {g : Gh} {S : List Store} {u v : Value} (h : ResRep P may w g S (.x u) v) : v = u := by
  obtain ⟨b, hR⟩ := h
  have h : Rep P w g.M (.x u) v := hR
  cases h; rfl
theorem repl_ints {w : World} {M : Nat → Nat → Prop} {e : TypeId} {k : IntKind} {ns : List Int} {us : List Value} (h : RepL P w M e (ns.map (AV.int k)) us) : us = ns.map (Value.int k) := by
  obtain ⟨hl, hr, _⟩ := h
  apply List.ext_getElem?
  intro i
  by_cases hi : i < ns.length
  · have hlu : i < us.length := by rw [hl, List.length_map]; exact hi
    obtain ⟨u, h1⟩ : ∃ u, us[i]? = some u := ⟨_, List.getElem?_eq_getElem hlu⟩
    have h2 : (ns.map (AV.int k))[i]? = some (.x (.int k ns[i])) := by
      rw [List.getElem?_map, List.getElem?_eq_getElem hi]; rfl
    have h3 := hr i _ _ h2 h1
    rw [h1, List.getElem?_map, List.getElem?_eq_getElem hi]
    cases h3; rfl
  · rw [List.getElem?_eq_none (by rw [hl, List.length_map]; omega), List.getElem?_eq_none (by simp; omega)]
def OutRow (w : World) (b : Nat) (e : TypeId) (k : IntKind) (ns : List Int) (cap : Nat) : Prop := ∃ cur : List Value, w.heap[b]? = some (.cells cur.toArray e (0, 0)) ∧ cur.length = cap ∧ cap ≤ maxLen ∧ cur.take ns.length = ns.map (Value.int k)
theorem own_row {may : Nat → Prop} {w : World} {g : Gh} {S : List Store} {e : TypeId} {k : IntKind} {ns : List Int} {v : Value} {b : Nat} (he : P.cellsOf e = 1) (ho : Nat.beq e objE = false) (h : OwnAt P may w g S e (ns.map (AV.int k)) v b) :
    ∃ c cap, v = .slice (some ⟨b, 0, none⟩) ns.length c ∧ may b ∧ ns.length ≤ c ∧ c ≤ cap ∧ OutRow w b e k ns cap := by
  obtain ⟨h1, _, _, h2⟩ := h
  rcases h2 with ⟨_, _, cur, us, cap, c, rfl, h3, h4, h5, h6, h7, h8, h9, h10, h11⟩ | ⟨h2, _⟩
  · have e1 := repl_ints h10
    subst e1
    rw [he] at h5 h7 h11
    simp only [List.length_map, Nat.mul_one] at h3 h5 h7 h9 h11 ⊢
    refine ⟨c, cap, rfl, h1, h3, by omega, cur, h6, h7, h8, ?_⟩
    rw [h11]
    exact flat_ints _ _
  · rw [ho] at h2; cases h2
theorem res_own {may : Nat → Prop} {w : World} {g : Gh} {S : List Store} {e : TypeId} {k : IntKind} {ns : List Int} {u v : Value} (he : P.cellsOf e = 1) (ho : Nat.beq e objE = false) (h : ResRep P may w g S (.tup [.own e (ns.map (AV.int k)), .x u]) v) :
    ∃ b c cap, v = .tuple #[.slice (some ⟨b, 0, none⟩) ns.length c, u] ∧ may b ∧ ns.length ≤ c ∧ c ≤ cap ∧ OutRow w b e k ns cap := by
  obtain ⟨vs, rfl, hl, bl, hall, _⟩ := h
  match vs, hl with
  | [v0, v1], _ =>
    obtain ⟨c, cap, rfl, h1, h2, h3, h4⟩ := own_row he ho (hall 0 _ _ rfl rfl)
    have h5 : Rep P w g.M (.x u) v1 := hall 1 _ _ rfl rfl
    cases h5
    exact ⟨_, c, cap, rfl, h1, h2, h3, h4⟩
end
end Go.AbsM
end
