/-
  The abstract machine: regions whose order is open: every order does the same.
-/
import Derived.Test.YtmfegciehdjicaaAbsQuiet
import Derived.Orders
set_option linter.unusedVariables false
set_option linter.unusedSimpArgs false
namespace Go.AbsM

section
variable {ops : Array Oper} {st : Oper → St → Option St}

def ab (st : Oper → St → Option St) (ops : Array Oper) (i : Nat) (s : St) : Option St :=
  match ops[i]? with
  | none => some s
  | some o => match guardA ops s o.guard with
    | some true => st o s
    | some false => some (s.put o.dst .und)
    | none => none

theorem opsA_cons (i : Nat) (r : List Nat) (s : St) : opsA st ops (i :: r) s = (ab st ops i s).bind (opsA st ops r) := by
  simp only [opsA, ab]
  cases ops[i]? with
  | none => rfl
  | some o =>
    simp only
    cases guardA ops s o.guard with
    | none => rfl
    | some b =>
      cases b with
      | false => rfl
      | true =>
        simp only
        cases st o s <;> rfl

def AnyA (ab : Nat → St → Option St) (ops : Array Oper) : Nat → Array Bool → St → St → Prop
  | 0, listed, s, s' => Region.ready .any ops listed = [] ∧ s = s'
  | n + 1, listed, s, s' => (Region.ready .any ops listed = [] → s = s') ∧ ∀ i ∈ Region.ready .any ops listed, ∃ s1, ab i s = some s1 ∧ AnyA ab ops n (listed.setIfInBounds i true) s1 s'

theorem AnyA.sound : ∀ (fuel t : Nat) (listed : Array Bool) (s s' : St), AnyA (ab st ops) ops fuel listed s s' → opsA st ops (Region.linearise.go .any ops fuel t listed []) s = some s' := by
  intro fuel
  induction fuel with
  | zero => intro t listed s s' h; rw [h.2]; rfl
  | succ fuel ih =>
    intro t listed s s' h
    obtain ⟨h0, h1⟩ := h
    simp only [Region.linearise.go]
    change opsA st ops (match (Region.ready .any ops listed)[t % (Region.ready .any ops listed).length]? with
      | some i => Region.linearise.go .any ops fuel (t / (Region.ready .any ops listed).length) (listed.setIfInBounds i true) [i]
      | none => [].reverse) s = some s'
    cases hi : (Region.ready .any ops listed)[t % (Region.ready .any ops listed).length]? with
    | none =>
      have hnil : Region.ready .any ops listed = [] := by
        cases hr : Region.ready .any ops listed with
        | nil => rfl
        | cons x xs =>
          rw [hr] at hi
          have hlt : t % (x :: xs).length < (x :: xs).length := Nat.mod_lt _ (by simp)
          simp at hi
          simp at hlt
          omega
      rw [h0 hnil]; rfl
    | some i =>
      simp only []
      obtain ⟨s1, hs1, hr⟩ := h1 i (List.mem_of_getElem? hi)
      rw [linearise_go_acc, List.reverse_singleton, List.singleton_append, opsA_cons, hs1]
      exact ih _ _ _ _ hr

def Comm (ab : Nat → St → Option St) (i j : Nat) : Prop := ∀ s si sij, ab i s = some si → ab j si = some sij → ∃ sj, ab j s = some sj ∧ ab i sj = some sij

theorem getD_true_of {R : Array Bool} {j : Nat} (hj : j < R.size) (h : R.getD j false ≠ true) : R.getD j true = false := by
  simp [hj] at h ⊢; exact h

theorem AnyA.first {ab : Nat → St → Option St} {i : Nat} {R listed0 : Array Bool} (hsz : R.size = ops.size) (hcl : ∀ j, j ∈ Region.ready .any ops R → j = i) (hcomm : ∀ j, R.getD j false = true → listed0.getD j true = false → Comm ab i j) :
    ∀ (fuel : Nat) (listed : Array Bool) (s s1 s' : St), (∀ j, listed.getD j false = true → R.getD j false = true) → (∀ j, listed.getD j true = false → listed0.getD j true = false) → i ∈ Region.ready .any ops listed → ab i s = some s1 →
      AnyA ab ops fuel (listed.setIfInBounds i true) s1 s' → AnyA ab ops (fuel + 1) listed s s' := by
  intro fuel
  induction fuel with
  | zero =>
    intro listed s s1 s' hR h0 hi hab H
    refine ⟨fun h => (by rw [h] at hi; cases hi), fun j hj => ?_⟩
    by_cases hji : j = i
    · subst hji; exact ⟨s1, hab, H⟩
    · have := ready_mono hj hji
      rw [H.1] at this
      cases this
  | succ fuel ih =>
    intro listed s s1 s' hR h0 hi hab H
    refine ⟨fun h => (by rw [h] at hi; cases hi), fun j hj => ?_⟩
    by_cases hji : j = i
    · subst hji; exact ⟨s1, hab, H⟩
    · obtain ⟨s2, h2, H2⟩ := H.2 j (ready_mono hj hji)
      obtain ⟨hjun, oj, hoj, hall⟩ := mem_ready.1 hj
      have hjsz : j < ops.size := (Array.getElem?_eq_some_iff.1 hoj).1
      have hjR : R.getD j false = true := Classical.byContradiction fun hn => hji (hcl j (mem_ready.2 ⟨getD_true_of (by omega) hn, oj, hoj, fun e he hb => hR _ (hall e he hb)⟩))
      obtain ⟨sj, q1, q2⟩ := hcomm j hjR (h0 j hjun) s s1 s2 hab h2
      refine ⟨sj, q1, ih (listed.setIfInBounds j true) sj s2 s' (fun m hm => ?_) (fun m hm => ?_) (ready_mono hi (Ne.symm hji)) q2 ?_⟩
      · by_cases hmj : j = m
        · subst hmj; exact hjR
        · rw [getD_set_ne false hmj] at hm; exact hR m hm
      · by_cases hmj : j = m
        · subst hmj; exact h0 j hjun
        · rw [getD_set_ne true hmj] at hm; exact h0 m hm
      · rw [Array.setIfInBounds_comm _ _ hji]
        exact H2

/-! ### The check -/

def around (ops : Array Oper) (i : Nat) : Nat → Array Bool → Array Bool
  | 0, R => R
  | n + 1, R => match (Region.ready .any ops R).filter (fun j => j != i) with
    | [] => R
    | js => around ops i n (js.foldl (fun R j => R.setIfInBounds j true) R)

def commB (solo : Oper → Bool) (ops : Array Oper) (i j : Nat) : Bool :=
  match ops[i]?, ops[j]? with
  | some x, some y => !solo x && !solo y && Oper.apart ops x y
  | _, _ => false

def checkAt (solo : Oper → Bool) (ops : Array Oper) (i : Nat) (listed : Array Bool) : Bool :=
  let R := around ops i ops.size listed
  R.size == ops.size && (Region.ready .any ops R).all (· == i) && (List.range ops.size).all fun j => (!listed.getD j false || R.getD j false) && (!R.getD j false || listed.getD j true || commB solo ops i j)

def drawFrom (solo : Oper → Bool) (ops : Array Oper) : Nat → Nat → Array Bool → Bool
  | 0, _, listed => (Region.ready .any ops listed).isEmpty
  | n + 1, k, listed => (Region.ready .any ops listed).contains k && checkAt solo ops k listed && drawFrom solo ops n (k + 1) (listed.setIfInBounds k true)

def drawB (solo : Oper → Bool) (ops : Array Oper) : Bool := drawFrom solo ops ops.size 0 (Array.replicate ops.size false)

theorem AnyA.lex {solo : Oper → Bool} (hc : ∀ i j, commB solo ops i j = true → Comm (ab st ops) i j) : ∀ (n k : Nat) (listed : Array Bool) (s s' : St), listed.size = ops.size → drawFrom solo ops n k listed = true → opsA st ops (List.range' k n) s = some s' → AnyA (ab st ops) ops n listed s s' := by
  intro n
  induction n with
  | zero =>
    intro k listed s s' hsz hB h
    simp only [List.range'_zero, opsA, Option.some.injEq] at h
    exact ⟨by simpa [drawFrom] using hB, h⟩
  | succ n ih =>
    intro k listed s s' hsz hB h
    simp only [drawFrom, Bool.and_eq_true] at hB
    obtain ⟨⟨hr, hk⟩, hB'⟩ := hB
    rw [List.range'_succ, opsA_cons] at h
    cases hab : ab st ops k s with
    | none => rw [hab] at h; cases h
    | some s1 =>
      rw [hab] at h
      simp only [checkAt, Bool.and_eq_true, beq_iff_eq, List.all_eq_true, List.mem_range, Bool.or_eq_true, Bool.not_eq_true'] at hk
      obtain ⟨⟨k1, k2⟩, k3⟩ := hk
      refine AnyA.first (R := around ops k ops.size listed) (listed0 := listed) k1 (fun j hj => k2 j hj) (fun j hj hl => ?_) n listed s s1 s' (fun j hj => ?_) (fun j hj => hj) (by simpa using hr) hab (ih (k + 1) _ _ _ (by simp [hsz]) hB' h)
      · have hjs : j < ops.size := by
          rcases Nat.lt_or_ge j ops.size with h' | h'
          · exact h'
          · rw [← k1] at h'; simp [Array.getElem?_eq_none h'] at hj
        rcases (k3 j hjs).2 with (h' | h') | h'
        · rw [hj] at h'; cases h'
        · rw [hl] at h'; cases h'
        · exact hc k j h'
      · have hjs : j < ops.size := by
          rcases Nat.lt_or_ge j listed.size with h' | h'
          · omega
          · simp [Array.getElem?_eq_none h'] at hj
        rcases (k3 j hjs).1 with h' | h'
        · rw [hj] at h'; cases h'
        · exact h'

/-- What an operation does hangs on the slots that it looks at, and on the stores. -/
def Dep (st : Oper → St → Option St) (ops : Array Oper) (o : Oper) : Prop :=
  ∀ (s s1 : St), st o s = some s1 → ∃ v, s1 = s.put o.dst v ∧ ∀ s' : St, s'.stores = s.stores → (∀ t, t ∈ o.looksAt ops → s'.get t = s.get t) → st o s' = some (s'.put o.dst v)

theorem get_put {s : St} {d : Option Nat} {v : AV} {t : Nat} (h : d ≠ some t) : (s.put d v).get t = s.get t := by
  cases d with
  | none => rfl
  | some d =>
    have : d ≠ t := fun e => h (by rw [e])
    simp [St.put, St.get, List.getElem?_set_ne this]

theorem put_comm {s : St} {d d' : Option Nat} {v v' : AV} (h : ∀ k, d = some k → d' ≠ some k) : (s.put d v).put d' v' = (s.put d' v').put d v := by
  cases d with
  | none => rfl
  | some d =>
    cases d' with
    | none => rfl
    | some d' =>
      have : d ≠ d' := fun e => h d rfl (by rw [e])
      simp [St.put, List.set_comm _ _ this]

theorem guard_dep {s s' : St} {o : Oper} (h : ∀ t, t ∈ o.looksAt ops → s'.get t = s.get t) : guardA ops s' o.guard = guardA ops s o.guard := by
  cases hg : o.guard with
  | none => rfl
  | some p =>
    obtain ⟨j, want⟩ := p
    simp only [guardA]
    cases hd : (ops[j]?).bind (·.dst) with
    | none => rfl
    | some t =>
      have : t ∈ o.looksAt ops := by
        unfold Oper.looksAt
        simp [hg, hd]
      simp only [h t this]

theorem ab_dep {i : Nat} {o : Oper} (hi : ops[i]? = some o) (h : Dep st ops o) (s s1 : St) (h1 : ab st ops i s = some s1) :
    ∃ v, s1 = s.put o.dst v ∧ ∀ s' : St, s'.stores = s.stores → (∀ t, t ∈ o.looksAt ops → s'.get t = s.get t) → ab st ops i s' = some (s'.put o.dst v) := by
  simp only [ab, hi] at h1 ⊢
  cases hg : guardA ops s o.guard with
  | none => rw [hg] at h1; cases h1
  | some b =>
    rw [hg] at h1
    cases b with
    | false =>
      simp only [Option.some.injEq] at h1
      exact ⟨.und, h1.symm, fun s' hs hl => by rw [guard_dep hl, hg]⟩
    | true =>
      obtain ⟨v, hv, hr⟩ := h s s1 h1
      exact ⟨v, hv, fun s' hs hl => by rw [guard_dep hl, hg]; exact hr s' hs hl⟩

theorem comm_of_dep {i j : Nat} {x y : Oper} (hi : ops[i]? = some x) (hj : ops[j]? = some y) (hx : Dep st ops x) (hy : Dep st ops y) (hap : Oper.apart ops x y = true) : Comm (ab st ops) i j := by
  intro s si sij h1 h2
  obtain ⟨p1, p2, p3⟩ := Oper.apart_spec hap
  obtain ⟨v, rfl, hv⟩ := ab_dep hi hx s si h1
  obtain ⟨u, rfl, hu⟩ := ab_dep hj hy _ sij h2
  refine ⟨s.put y.dst u, hu s (put_stores _ _ _).symm fun t ht => (get_put fun hd => p1 t hd ht).symm, ?_⟩
  rw [hv (s.put y.dst u) (put_stores _ _ _) fun t ht => get_put fun hd => p3 t hd ht]
  rw [put_comm fun k hk => p2 k hk]
end
end Go.AbsM
