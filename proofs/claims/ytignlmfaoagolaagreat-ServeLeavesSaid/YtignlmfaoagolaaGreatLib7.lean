/-
  The abstract machine and the typed machine over it: deterministic evaluators of translated code over plain values, each proved sound. Part 7 of 7.
-/
import Derived.Test.YtignlmfaoagolaaGreatLib6
import Derived.Below
import Derived.Maps.Own
import Derived.Lib.SlKeysI
set_option linter.unusedVariables false
set_option linter.unusedSimpArgs false
set_option linter.unusedSectionVars false
/-! ## FnTrace2 -/
namespace Go.FM
noncomputable section
variable [Env]
structure Tc where
  T : Nat → L
  F : Nat → FM.F
  H : Nat → HT
  C : Nat → Nat
  V : Nat → HV
  B : Nat → Bool
def Tc.ext (x : Tc) (i : Nat) (t : L) (f : FM.F) (h : HT) (c : Nat) (v : HV) (b : Bool) : Tc :=
  ⟨fun j => if j ≤ i then x.T j else t, fun j => if j ≤ i then x.F j else f, fun j => if j ≤ i then x.H j else h, fun j => if j ≤ i then x.C j else c, fun j => if j = i then v else x.V j, fun j => if j = i then b else x.B j⟩
structure Same (x y : Tc) (i : Nat) : Prop where
  T : ∀ j, j ≤ i → y.T j = x.T j
  F : ∀ j, j ≤ i → y.F j = x.F j
  H : ∀ j, j ≤ i → y.H j = x.H j
  C : ∀ j, j ≤ i → y.C j = x.C j
  V : ∀ j, j < i → y.V j = x.V j
  B : ∀ j, j < i → y.B j = x.B j
theorem Tc.ext_same (x : Tc) (i : Nat) (t : L) (f : FM.F) (h : HT) (c : Nat) (v : HV) (b : Bool) : Same x (x.ext i t f h c v b) i :=
  ⟨fun j hj => if_pos hj, fun j hj => if_pos hj, fun j hj => if_pos hj, fun j hj => if_pos hj, fun j hj => if_neg (by omega), fun j hj => if_neg (by omega)⟩
section
variable {Pr : Program} {D : Nat}
def AlOk (D : Nat) (f : HT → Nat → List HV → CR) : Prop := ∀ h c args v h' c', f h c args = .ok v h' c' → ∃ b, c' = c + 1 ∧ c < 4 ^ D ∧ h' = HT.set D c (.own 0 b) h ∧ f .nil c args = .ok v (HT.set D c (.own 0 b) .nil) (c + 1)
theorem newO_al {o : HB} {x v : HV} {h h' : HT} {c c' : Nat} (hn : newO D 0 o x h c = .ok v h' c') : ∃ b, c' = c + 1 ∧ c < 4 ^ D ∧ h' = HT.set D c (.own 0 b) h ∧ newO D 0 o x .nil c = .ok v (HT.set D c (.own 0 b) .nil) (c + 1) := by
  obtain ⟨h1, h2, rfl, rfl, rfl⟩ := newO_some hn
  refine ⟨o, rfl, h1, rfl, ?_⟩
  have hb : Nat.blt c (Nat.pow 4 D) = true := Nat.ble_eq_true_of_le h1
  unfold newO
  rw [hb]
  cases o with
  | no => exact absurd rfl h2
  | cells cs => rfl
  | byt n d => rfl
  | map es cl => rfl
theorem allocF_al {e : TypeId} {f : HT → Nat → List HV → CR} (hf : allocF Pr D e = .f f) : AlOk D f := by
  unfold allocF at hf
  split at hf
  · cases hf
  · cases hall : (zeroT Pr e).cells.all HV.isCell with
    | false => rw [hall] at hf; cases hf
    | true =>
      rw [hall] at hf
      injection hf with hf; subst hf
      exact fun h c args v h' c' hr => newO_al hr
theorem boxF_al {e : TypeId} {f : HT → Nat → List HV → CR} (hf : boxF Pr D e = .f f) : AlOk D f := by
  unfold boxF at hf
  split at hf
  · injection hf with hf; subst hf
    intro h c args v h' c' hr
    simp only at hr ⊢
    split at hr
    · split at hr
      · rename_i hc; simp only [if_pos hc]; exact newO_al hr
      · cases hr
    · cases hr
  · cases hf
theorem buildSliceF_al {t : TypeId} {len : Nat} {is : List Nat} {f : HT → Nat → List HV → CR} (hf : buildSliceF Pr D t len is = .f f) : AlOk D f := by
  unfold buildSliceF at hf
  split at hf
  · split at hf
    · cases hf
    · split at hf
      · cases hf
      · injection hf with hf; subst hf
        intro h c args v h' c' hr
        simp only at hr ⊢
        split at hr
        · exact newO_al hr
        · cases hr
    · cases hf
  · cases hf
theorem makeSliceF_al {t : TypeId} {f : HT → Nat → List HV → CR} (hf : makeSliceF Pr D t = .f f) : AlOk D f := by
  unfold makeSliceF at hf
  split at hf
  · split at hf
    · split at hf
      · cases hf
      · injection hf with hf; subst hf
        intro h c args v h' c' hr
        simp only at hr ⊢
        split at hr
        · split at hr
          · rename_i l co h1 h2
            split at hr
            · rename_i hc; simp only [h1, h2, if_pos hc]; exact newO_al hr
            · cases hr
          · cases hr
        · cases hr
    · cases hf
  · cases hf
theorem compOp_al {gl : Nat} {reg : List Nat} {dst : Option Nat} {op : Op} {st : P} {f : HT → Nat → List HV → CR} {xs : List G} (h : compOp Pr D gl reg dst op = .al st f xs) : AlOk D f ∧ st = dstP gl dst := by
  have key : ∀ {a : AN} {st' : P} {xs' : List G}, oAN st' a xs' = .al st f xs → a = .f f ∧ st = st' := by
    intro a st' xs' e
    cases a with
    | f q => simp only [oAN, FOp.al.injEq] at e; exact ⟨by rw [e.2.1], e.1.symm⟩
    | no => cases e
  cases op
  case makeFunc fn first caps =>
    cases fn <;> (try cases h)
    rename_i q
    have h : (if first.isEmpty then FOp.un (dstP gl dst) (makeFnF q) (opnds gl reg caps.toList) else .bad 28) = .al st f xs := h
    split at h <;> cases h
  case makeMap t r =>
    cases r with
    | some r => cases h
    | none =>
      have h : FOp.al (dstP gl dst) (makeM D) [] = .al st f xs := h
      simp only [FOp.al.injEq] at h
      obtain ⟨rfl, rfl, _⟩ := h
      exact ⟨fun h c args v h' c' hr => newO_al hr, rfl⟩
  all_goals simp only [compOp] at h
  case alloc e => exact ⟨allocF_al (key h).1, (key h).2⟩
  case box e x => exact ⟨boxF_al (key h).1, (key h).2⟩
  case buildSlice t l ps => exact ⟨buildSliceF_al (key h).1, (key h).2⟩
  case makeSlice t l c => exact ⟨makeSliceF_al (key h).1, (key h).2⟩
  all_goals (try simp only [oF1, oF2, oF3, oFN, oE2, oH1, compBi, cmpOp] at h)
  all_goals (try cases h)
  all_goals (repeat (first | (split at h) | cases h))
end
section
variable (Pr : Program) (D nt gl : Nat) (ops : Array Oper)
def regAt (j : Nat) : List Nat := regOps [] (ops.toList.take j)
def foAt (j : Nat) (o : Oper) : FOp := compG Pr D ops nt gl (regAt ops j) o
def kdsOf : List Kd := (fopsOf Pr D ops nt gl [] ops.toList).map kdF
def ancOf : List Nat := ancs [] ops.toList
def backAt (j : Nat) : Nat := Nat.sub (cntE (fun i => Nat.blt i j) 0 (kdsOf Pr D nt gl ops)) (cntE (fun i => Nat.testBit (natAt (ancOf ops) j) i) 0 (kdsOf Pr D nt gl ops))
def fwdAt (j : Nat) : Nat := Nat.sub (cntE (fun i => !(Nat.testBit (natAt (ancOf ops) i) j)) 0 (kdsOf Pr D nt gl ops)) (cntE (fun i => Nat.blt i j) 0 (kdsOf Pr D nt gl ops))
def chkAt (j : Nat) (o : Oper) : List G := if laterN (ancOf ops) j 0 (kdsOf Pr D nt gl ops) then opnds gl (regAt ops j) o.op.operands.toList else []
structure StepOk (x : Tc) (j : Nat) (o : Oper) : Prop where
  dst : dstOk nt o.dst = true
  grd : GuardIs ops gl (regAt ops j) (x.T j) (x.F j) o (x.B j)
  live : x.V j ≠ .dead
  le : x.C j ≤ x.C (j + 1)
  t : x.T (j + 1) = putT (dstP gl o.dst) (x.V j) (x.T j)
  f : x.F (j + 1) = putF (dstP gl o.dst) (x.V j) (x.F j)
  off : x.B j = false → x.V j = .und ∧ x.H (j + 1) = x.H j ∧ x.C (j + 1) = x.C j
  on : x.B j = true → OpW Pr D gl (regAt ops j) o (x.T j) (x.F j) (x.H j) (x.C j) (x.V j) (x.H (j + 1)) (x.C (j + 1))
  light : light (foAt Pr D nt gl ops j o) = true → x.V j = valG (foAt Pr D nt gl ops j o) (x.T j) (x.F j) (x.H j) ∧ x.H (j + 1) = x.H j ∧ x.C (j + 1) = x.C j
  al : kdF (foAt Pr D nt gl ops j o) = .new → x.B j = true → ∃ b, x.C (j + 1) = x.C j + 1 ∧ x.C j < 4 ^ D ∧ x.H (j + 1) = HT.set D (x.C j) (.own 0 b) (x.H j) ∧ OpW Pr D gl (regAt ops j) o (x.T j) (x.F j) .nil (x.C j) (x.V j) (HT.set D (x.C j) (.own 0 b) .nil) (x.C j + 1)
  chk : kdF (foAt Pr D nt gl ops j o) = .new ∨ kdF (foAt Pr D nt gl ops j o) = .eff → underA (x.C j) (evs (chkAt Pr D nt gl ops j o) (x.T j) (x.F j)) = true
structure TrOk (x : Tc) (i : Nat) : Prop where
  step : ∀ j o, j < i → ops.toList[j]? = some o → StepOk Pr D nt gl ops x j o
  read : ∀ j o, j < i → ops.toList[j]? = some o → kdF (foAt Pr D nt gl ops j o) = .read → ∀ q, q ∈ marks (kdsOf Pr D nt gl ops) i → cnt (kdsOf Pr D nt gl ops) j ≤ cnt (kdsOf Pr D nt gl ops) q + backAt Pr D nt gl ops j → cnt (kdsOf Pr D nt gl ops) q ≤ cnt (kdsOf Pr D nt gl ops) j + fwdAt Pr D nt gl ops j →
    valG (foAt Pr D nt gl ops j o) (x.T j) (x.F j) (x.H q) = x.V j
def PendOk (x : Tc) (i : Nat) (p : Pend) : Prop :=
  ∀ j o, j < i → ops.toList[j]? = some o → kdF (foAt Pr D nt gl ops j o) = .read → cnt (kdsOf Pr D nt gl ops) i < cnt (kdsOf Pr D nt gl ops) j + fwdAt Pr D nt gl ops j →
    PHas (cnt (kdsOf Pr D nt gl ops) j + fwdAt Pr D nt gl ops j - cnt (kdsOf Pr D nt gl ops) i) (fun h => vEq (x.V j) (valG (foAt Pr D nt gl ops j o) (x.T j) (x.F j) h)) p
end
section
variable {Pr : Program} {D nt gl : Nat} {ops : Array Oper} {x y : Tc} {i : Nat}
theorem StepOk.same {j : Nat} {o : Oper} (h : StepOk Pr D nt gl ops x j o) (hs : Same x y i) (hj : j < i) : StepOk Pr D nt gl ops y j o := by
  have a1 := hs.T j (by omega)
  have a2 := hs.T (j + 1) hj
  have b1 := hs.F j (by omega)
  have b2 := hs.F (j + 1) hj
  have c1 := hs.H j (by omega)
  have c2 := hs.H (j + 1) hj
  have d1 := hs.C j (by omega)
  have d2 := hs.C (j + 1) hj
  have e1 := hs.V j hj
  have e2 := hs.B j hj
  obtain ⟨h1, h2, h3, h11, h4, h5, h6, h7, h8, h9, h10⟩ := h
  constructor
  · exact h1
  all_goals (simp only [a1, a2, b1, b2, c1, c2, d1, d2, e1, e2]; assumption)
theorem TrOk.same (h : TrOk Pr D nt gl ops x i) (hs : Same x y i) : TrOk Pr D nt gl ops y i where
  step := fun j o hj ho => (h.step j o hj ho).same hs hj
  read := fun j o hj ho hk q hq h1 h2 => by
    rw [hs.T j (by omega), hs.F j (by omega), hs.H q (marks_le _ _ _ hq), hs.V j hj]
    exact h.read j o hj ho hk q hq h1 h2
theorem PendOk.same {p : Pend} (h : PendOk Pr D nt gl ops x i p) (hs : Same x y i) : PendOk Pr D nt gl ops y i p := by
  intro j o hj ho hk hlt
  rw [hs.T j (by omega), hs.F j (by omega), hs.V j hj]
  exact h j o hj ho hk hlt
theorem Same.trans {z : Tc} {k : Nat} (h : Same x y i) (h' : Same y z k) (hi : i ≤ k) : Same x z i :=
  ⟨fun j hj => (h'.T j (by omega)).trans (h.T j hj), fun j hj => (h'.F j (by omega)).trans (h.F j hj), fun j hj => (h'.H j (by omega)).trans (h.H j hj), fun j hj => (h'.C j (by omega)).trans (h.C j hj), fun j hj => (h'.V j (by omega)).trans (h.V j hj), fun j hj => (h'.B j (by omega)).trans (h.B j hj)⟩
end
end
end Go.FM

/-! ## FnTrace3 -/
namespace Go.FM
noncomputable section
variable [Env]
section
variable {Pr : Program} {D nt gl : Nat} {ops : Array Oper} {reg : List Nat} {t : L} {f : F} {s : S} {cl : Cl} {o : Oper} {k : K}
theorem putT_some {d : Option Nat} (hd : d.isSome = true) (v : HV) (t : L) : putT (dstP gl d) v t = v :: t := by
  cases d with
  | none => cases hd
  | some d =>
    have e : dstP gl (some d) = (Nat.testBit gl d).casesOn (motive := fun _ => P) .loc (pVar (rank gl d)) := rfl
    rw [e]
    cases Nat.testBit gl d with
    | false => rfl
    | true =>
      obtain ⟨u, hu, _⟩ := pVar_eq (rank gl d)
      show putT (pVar (rank gl d)) v t = _
      rw [hu]; rfl
theorem compG_new (hcl : ClOk Pr D cl) (hds : o.dst.isSome = true) (hk : kdF (compG Pr D ops nt gl reg o) = .new) (h : ∀ w, exec cl (compG Pr D ops nt gl reg o) k t s ≠ .x w) :
    ∃ b v h' c', dstOk nt o.dst = true ∧ GuardIs ops gl reg t s.f o b ∧ v ≠ .dead ∧ exec cl (compG Pr D ops nt gl reg o) k t s = k (putT (dstP gl o.dst) v t) ⟨putF (dstP gl o.dst) v s.f, h', c'⟩ ∧
      (b = true → OpW Pr D gl reg o t s.f s.h s.c v h' c') ∧ (b = false → v = .und ∧ h' = s.h ∧ c' = s.c) ∧
      (b = true → ∃ q, c' = s.c + 1 ∧ s.c < 4 ^ D ∧ h' = HT.set D s.c (.own 0 q) s.h ∧ OpW Pr D gl reg o t s.f .nil s.c v (HT.set D s.c (.own 0 q) .nil) (s.c + 1)) := by
  obtain ⟨b, v, h', c', hd, hg, hv, he, hT, hF, _⟩ := compG_ok hcl h
  cases b with
  | false => exact ⟨false, v, h', c', hd, hg, hv, he, hT, hF, fun e => by cases e⟩
  | true =>
    have main : ∀ (st : P) (q : HT → Nat → List HV → CR) (xs : List G), AlOk D q → (∀ (k : K) (s' : S), s'.f = s.f → exec cl (compG Pr D ops nt gl reg o) k t s' = finC st (q s'.h s'.c (evs xs t s'.f)) k t s') → st = dstP gl o.dst →
        ∃ v h' c', v ≠ .dead ∧ exec cl (compG Pr D ops nt gl reg o) k t s = k (putT (dstP gl o.dst) v t) ⟨putF (dstP gl o.dst) v s.f, h', c'⟩ ∧ OpW Pr D gl reg o t s.f s.h s.c v h' c' ∧
        ∃ q, c' = s.c + 1 ∧ s.c < 4 ^ D ∧ h' = HT.set D s.c (.own 0 q) s.h ∧ OpW Pr D gl reg o t s.f .nil s.c v (HT.set D s.c (.own 0 q) .nil) (s.c + 1) := by
      intro st q xs hal hex hst
      subst hst
      have h0 := h
      rw [hex k s rfl] at h0
      obtain ⟨v, h', c', hr, hv, he⟩ := finC_some h0
      obtain ⟨bd, e1, e2, e3, e4⟩ := hal _ _ _ _ _ _ hr
      have run : ∀ (s' : S) (h1 : HT) (c1 : Nat), s'.f = s.f → q s'.h s'.c (evs xs t s'.f) = .ok v h1 c1 → exec cl (compG Pr D ops nt gl reg o) R.n t s' = R.n (putT (dstP gl o.dst) v t) ⟨putF (dstP gl o.dst) v s'.f, h1, c1⟩ := by
        intro s' h1 c1 hf hr'
        rw [hex R.n s' hf, hr']
        show forceN c1 (fun c => forceV v (.x 40) fun v => put (dstP gl o.dst) v R.n t ⟨s'.f, h1, c⟩) = _
        rw [forceN_eq, forceV_eq _ _ hv, put_eq]
      have opw : ∀ (s' : S) (h1 : HT) (c1 : Nat), s'.f = s.f → q s'.h s'.c (evs xs t s'.f) = .ok v h1 c1 → OpW Pr D gl reg o t s.f s'.h s'.c v h1 c1 := by
        intro s' h1 c1 hf hr'
        have e := run s' h1 c1 hf hr'
        obtain ⟨b2, v2, h2, c2, _, hg2, _, he2, hT2, _, _⟩ := compG_ok (k := R.n) (s := s') (t := t) hcl (fun w => by rw [e]; intro e; cases e)
        rw [e] at he2
        rw [putT_some hds, putT_some hds] at he2
        injection he2 with a1 a2
        injection a1 with a1 _
        injection a2 with _ a2 a3
        subst a1; subst a2; subst a3
        rw [hf] at hg2 hT2
        cases hg2.uniq hg
        exact hT2 rfl
      rw [hex k s rfl]
      exact ⟨v, h', c', hv, he, opw s h' c' rfl hr, bd, e1, e2, e3, opw ⟨s.f, .nil, s.c⟩ _ _ rfl e4⟩
    have fin : ∃ (st : P) (q : HT → Nat → List HV → CR) (xs : List G), AlOk D q ∧ (∀ (k : K) (s' : S), s'.f = s.f → exec cl (compG Pr D ops nt gl reg o) k t s' = finC st (q s'.h s'.c (evs xs t s'.f)) k t s') ∧ st = dstP gl o.dst := by
      clear main
      revert hk hg
      unfold compG
      rw [hd]
      simp only
      cases hgd : o.guard with
      | none =>
        simp only
        intro hk hg
        cases hc : compOp Pr D gl reg o.dst o.op <;> rw [hc] at hk <;> try (cases hk; done)
        · rename_i st q xs
          obtain ⟨h1, h2⟩ := compOp_al hc
          exact ⟨st, q, xs, h1, fun k s' _ => rfl, h2⟩
        · exact absurd hc (compOp_nogrd _ _ _ _)
      | some p =>
        obtain ⟨j, want⟩ := p
        simp only
        cases hj : (ops[j]?).bind (·.dst) with
        | none => intro hk; cases hk
        | some x =>
          simp only
          intro hk hg
          unfold GuardIs at hg
          rw [hgd] at hg
          obtain ⟨x', hx', hw⟩ := hg
          rw [hj] at hx'
          simp only [Option.some.injEq] at hx'; subst hx'
          cases hc : compOp Pr D gl reg o.dst o.op <;> rw [hc] at hk <;> try (cases hk; done)
          rename_i st q xs
          obtain ⟨h1, h2⟩ := compOp_al hc
          refine ⟨st, q, xs, h1, fun k s' hf => ?_, h2⟩
          have e : exec cl (.grd (opnd gl reg (.tmp x)) want (dstP gl o.dst) (.al st q xs)) k t s' = Option.casesOn (wants ((opnd gl reg (.tmp x)).ev t s'.f) want) (.x 47) fun b => b.casesOn (put (dstP gl o.dst) .und k t s') (exec cl (.al st q xs) k t s') := rfl
          have hw' : wants ((opnd gl reg (.tmp x)).ev t s'.f) want = some true := by rw [hf]; exact hw
          rw [e, hw']
          rfl
    obtain ⟨st, q, xs, h1, h2, h3⟩ := fin
    obtain ⟨v, h', c', a1, a2, a3, a4⟩ := main st q xs h1 h2 h3
    exact ⟨true, v, h', c', hd, hg, a1, a2, fun _ => a3, (fun e => by cases e), fun _ => a4⟩
end
end
end Go.FM

/-! ## FnTrace4 -/
namespace Go.FM
noncomputable section
variable [Env]
section
variable {Pr : Program} {D nt gl : Nat} {ops : Array Oper} {cl : Cl}
theorem regOps_append (reg : List Nat) : ∀ (a b : List Oper), regOps reg (a ++ b) = regOps (regOps reg a) b := by
  intro a
  induction a generalizing reg with
  | nil => intro b; rfl
  | cons o r ih => intro b; exact ih (regOf o.dst reg) b
theorem regAt_succ {i : Nat} {o : Oper} (ho : ops.toList[i]? = some o) : regAt ops (i + 1) = regOf o.dst (regAt ops i) := by
  unfold regAt
  rw [List.take_add_one, ho, regOps_append]
  rfl
theorem fopsOf_get : ∀ (l : List Oper) (reg : List Nat) (i : Nat), (fopsOf Pr D ops nt gl reg l)[i]? = (l[i]?).map fun o => compG Pr D ops nt gl (regOps reg (l.take i)) o
  | [], reg, i => by simp [fopsOf]
  | o :: r, reg, 0 => by simp [fopsOf, regOps]
  | o :: r, reg, i + 1 => by
    have := fopsOf_get r (regOf o.dst reg) i
    simpa [fopsOf, regOps] using this
theorem kds_get {i : Nat} {o : Oper} (ho : ops.toList[i]? = some o) : (kdsOf Pr D nt gl ops)[i]? = some (kdF (foAt Pr D nt gl ops i o)) := by
  unfold kdsOf
  rw [List.getElem?_map, fopsOf_get, ho]
  rfl
theorem eff_get {i : Nat} {o : Oper} (ho : ops.toList[i]? = some o) : effAt (kdsOf Pr D nt gl ops) i = isEff (kdF (foAt Pr D nt gl ops i o)) := by
  unfold effAt
  rw [kds_get ho]
variable {x y : Tc} {i : Nat} {o : Oper}
theorem TrOk.adv (h : TrOk Pr D nt gl ops x i) (ho : ops.toList[i]? = some o) (hst : StepOk Pr D nt gl ops x i o)
    (hrd : ∀ j o, j ≤ i → ops.toList[j]? = some o → kdF (foAt Pr D nt gl ops j o) = .read → ∀ q, q ∈ marks (kdsOf Pr D nt gl ops) (i + 1) → ¬ (j < i ∧ q ∈ marks (kdsOf Pr D nt gl ops) i) →
      cnt (kdsOf Pr D nt gl ops) j ≤ cnt (kdsOf Pr D nt gl ops) q + backAt Pr D nt gl ops j → cnt (kdsOf Pr D nt gl ops) q ≤ cnt (kdsOf Pr D nt gl ops) j + fwdAt Pr D nt gl ops j →
      valG (foAt Pr D nt gl ops j o) (x.T j) (x.F j) (x.H q) = x.V j) : TrOk Pr D nt gl ops x (i + 1) where
  step := fun j o' hj ho' => by
    rcases Nat.lt_or_ge j i with h1 | h1
    · exact h.step j o' h1 ho'
    · have : j = i := by omega
      subst this
      rw [ho] at ho'
      simp only [Option.some.injEq] at ho'; subst ho'
      exact hst
  read := fun j o' hj ho' hk q hq h1 h2 => by
    by_cases hc : j < i ∧ q ∈ marks (kdsOf Pr D nt gl ops) i
    · exact h.read j o' hc.1 ho' hk q hc.2 h1 h2
    · exact hrd j o' (by omega) ho' hk q hq hc h1 h2
section
variable (x : Tc) (i : Nat) (t : L) (f : FM.F) (h : HT) (c : Nat) (v : HV) (b : Bool)
theorem Tc.ext_T1 : (x.ext i t f h c v b).T (i + 1) = t := if_neg (by omega)
theorem Tc.ext_F1 : (x.ext i t f h c v b).F (i + 1) = f := if_neg (by omega)
theorem Tc.ext_H1 : (x.ext i t f h c v b).H (i + 1) = h := if_neg (by omega)
theorem Tc.ext_C1 : (x.ext i t f h c v b).C (i + 1) = c := if_neg (by omega)
theorem Tc.ext_T0 : (x.ext i t f h c v b).T i = x.T i := if_pos (Nat.le_refl i)
theorem Tc.ext_F0 : (x.ext i t f h c v b).F i = x.F i := if_pos (Nat.le_refl i)
theorem Tc.ext_H0 : (x.ext i t f h c v b).H i = x.H i := if_pos (Nat.le_refl i)
theorem Tc.ext_C0 : (x.ext i t f h c v b).C i = x.C i := if_pos (Nat.le_refl i)
theorem Tc.ext_V : (x.ext i t f h c v b).V i = v := if_pos rfl
theorem Tc.ext_B : (x.ext i t f h c v b).B i = b := if_pos rfl
theorem Tc.ext_marks {ks : List Kd} : (marks ks i).map (x.ext i t f h c v b).H = (marks ks i).map x.H := List.map_congr_left fun q hq => if_pos (marks_le ks i q hq)
end
theorem marks_no {ks : List Kd} (h : effAt ks i = false) : marks ks (i + 1) = marks ks i ∧ cnt ks (i + 1) = cnt ks i := by simp [marks, cnt, h]
theorem marks_yes {ks : List Kd} (h : effAt ks i = true) : marks ks (i + 1) = (i + 1) :: marks ks i ∧ cnt ks (i + 1) = cnt ks i + 1 := by simp [marks, cnt, h]
theorem runD_tr (hcl : ClOk Pr D cl) (hseen : ∀ j o, ops.toList[j]? = some o → seen (kdF (foAt Pr D nt gl ops j o)) o = true) :
    ∀ (r : List Oper) (i : Nat) (x : Tc) (hs : List HT) (p : Pend) (t : L) (s : S), ops.toList.drop i = r → hs = (marks (kdsOf Pr D nt gl ops) i).map x.H → PendOk Pr D nt gl ops x i p → TrOk Pr D nt gl ops x i →
      x.T i = t → x.F i = s.f → x.H i = s.h → x.C i = s.c →
      (∀ w, runD cl D (compD gl (ancOf ops) (kdsOf Pr D nt gl ops) i (regAt ops i) (fopsOf Pr D ops nt gl (regAt ops i) r) r) hs p t s ≠ .x w) →
      ∃ y, Same x y i ∧ TrOk Pr D nt gl ops y (i + r.length) ∧ runD cl D (compD gl (ancOf ops) (kdsOf Pr D nt gl ops) i (regAt ops i) (fopsOf Pr D ops nt gl (regAt ops i) r) r) hs p t s = .n (y.T (i + r.length)) ⟨y.F (i + r.length), y.H (i + r.length), y.C (i + r.length)⟩ ∧ y.C (i + r.length) ≤ 4 ^ D := by
  intro r
  induction r with
  | nil =>
    intro i x hs p t s hl hh hp hT h1 h2 h3 h4 hx
    have e : runD cl D (compD gl (ancOf ops) (kdsOf Pr D nt gl ops) i (regAt ops i) (fopsOf Pr D ops nt gl (regAt ops i) []) []) hs p t s = (Nat.ble s.c (Nat.pow 4 D)).casesOn (.x 64) (.n t s) := rfl
    rw [e] at hx ⊢
    cases hb : Nat.ble s.c (Nat.pow 4 D) with
    | false => rw [hb] at hx; exact absurd rfl (hx 64)
    | true =>
      refine ⟨x, ⟨fun _ _ => rfl, fun _ _ => rfl, fun _ _ => rfl, fun _ _ => rfl, fun _ _ => rfl, fun _ _ => rfl⟩, hT, ?_, ?_⟩
      · show R.n t s = _
        simp only [List.length_nil, Nat.add_zero]
        rw [h1, h2, h3, h4]
      · simp only [List.length_nil, Nat.add_zero]
        rw [h4]; exact Nat.le_of_ble_eq_true hb
  | cons o r ih =>
    intro i x hs p t s hl hh hp hT h1 h2 h3 h4 hx
    have ho : ops.toList[i]? = some o := by
      have := congrArg (·[0]?) hl
      simpa using this
    have hr : ops.toList.drop (i + 1) = r := by
      have := congrArg List.tail hl
      simpa using this
    have hreg := regAt_succ ho
    have heff := eff_get (Pr := Pr) (D := D) (nt := nt) (gl := gl) ho
    have hse := hseen i o ho
    have efo : fopsOf Pr D ops nt gl (regAt ops i) (o :: r) = foAt Pr D nt gl ops i o :: fopsOf Pr D ops nt gl (regAt ops (i + 1)) r := by rw [hreg]; rfl
    rw [efo] at hx ⊢
    have go : ∀ (b : Bool) (v : HV) (h' : HT) (c' : Nat) (hs' : List HT) (p' : Pend), StepOk Pr D nt gl ops (x.ext i (putT (dstP gl o.dst) v t) (putF (dstP gl o.dst) v s.f) h' c' v b) i o →
        hs' = (marks (kdsOf Pr D nt gl ops) (i + 1)).map (x.ext i (putT (dstP gl o.dst) v t) (putF (dstP gl o.dst) v s.f) h' c' v b).H →
        PendOk Pr D nt gl ops (x.ext i (putT (dstP gl o.dst) v t) (putF (dstP gl o.dst) v s.f) h' c' v b) (i + 1) p' →
        TrOk Pr D nt gl ops (x.ext i (putT (dstP gl o.dst) v t) (putF (dstP gl o.dst) v s.f) h' c' v b) (i + 1) →
        (∀ w, runD cl D (compD gl (ancOf ops) (kdsOf Pr D nt gl ops) (i + 1) (regAt ops (i + 1)) (fopsOf Pr D ops nt gl (regAt ops (i + 1)) r) r) hs' p' (putT (dstP gl o.dst) v t) ⟨putF (dstP gl o.dst) v s.f, h', c'⟩ ≠ .x w) →
        ∃ y, Same x y i ∧ TrOk Pr D nt gl ops y (i + (o :: r).length) ∧ runD cl D (compD gl (ancOf ops) (kdsOf Pr D nt gl ops) (i + 1) (regAt ops (i + 1)) (fopsOf Pr D ops nt gl (regAt ops (i + 1)) r) r) hs' p' (putT (dstP gl o.dst) v t) ⟨putF (dstP gl o.dst) v s.f, h', c'⟩ = .n (y.T (i + (o :: r).length)) ⟨y.F (i + (o :: r).length), y.H (i + (o :: r).length), y.C (i + (o :: r).length)⟩ ∧ y.C (i + (o :: r).length) ≤ 4 ^ D := by
      intro b v h' c' hs' p' q1 q2 q3 q4 q5
      obtain ⟨y, k1, k2, k3⟩ := ih (i + 1) _ hs' p' _ ⟨putF (dstP gl o.dst) v s.f, h', c'⟩ hr q2 q3 q4 (Tc.ext_T1 ..) (Tc.ext_F1 ..) (Tc.ext_H1 ..) (Tc.ext_C1 ..) q5
      rw [show i + (o :: r).length = i + 1 + r.length by simp; omega]
      exact ⟨y, (Tc.ext_same x i _ _ _ _ _ _).trans k1 (by omega), k2, k3⟩
    have mk : ∀ (b : Bool) (v : HV) (h' : HT) (c' : Nat), dstOk nt o.dst = true → GuardIs ops gl (regAt ops i) t s.f o b → v ≠ .dead → s.c ≤ c' → (b = false → v = .und ∧ h' = s.h ∧ c' = s.c) → (b = true → OpW Pr D gl (regAt ops i) o t s.f s.h s.c v h' c') →
        (light (foAt Pr D nt gl ops i o) = true → v = valG (foAt Pr D nt gl ops i o) t s.f s.h ∧ h' = s.h ∧ c' = s.c) →
        (kdF (foAt Pr D nt gl ops i o) = .new → b = true → ∃ q, c' = s.c + 1 ∧ s.c < 4 ^ D ∧ h' = HT.set D s.c (.own 0 q) s.h ∧ OpW Pr D gl (regAt ops i) o t s.f .nil s.c v (HT.set D s.c (.own 0 q) .nil) (s.c + 1)) →
        (kdF (foAt Pr D nt gl ops i o) = .new ∨ kdF (foAt Pr D nt gl ops i o) = .eff → underA s.c (evs (chkAt Pr D nt gl ops i o) t s.f) = true) →
        StepOk Pr D nt gl ops (x.ext i (putT (dstP gl o.dst) v t) (putF (dstP gl o.dst) v s.f) h' c' v b) i o := by
      intro b v h' c' k1 k2 k3 k0 k4 k5 k6 k7 k8
      constructor
      · exact k1
      · rw [Tc.ext_T0, Tc.ext_F0, Tc.ext_B, h1, h2]; exact k2
      · rw [Tc.ext_V]; exact k3
      · rw [Tc.ext_C1, Tc.ext_C0, h4]; exact k0
      · rw [Tc.ext_T1, Tc.ext_T0, Tc.ext_V, h1]
      · rw [Tc.ext_F1, Tc.ext_F0, Tc.ext_V, h2]
      · rw [Tc.ext_B, Tc.ext_V, Tc.ext_H1, Tc.ext_H0, Tc.ext_C1, Tc.ext_C0, h3, h4]; exact k4
      · rw [Tc.ext_B, Tc.ext_V, Tc.ext_H1, Tc.ext_H0, Tc.ext_C1, Tc.ext_C0, Tc.ext_T0, Tc.ext_F0, h1, h2, h3, h4]; exact k5
      · rw [Tc.ext_V, Tc.ext_H1, Tc.ext_H0, Tc.ext_C1, Tc.ext_C0, Tc.ext_T0, Tc.ext_F0, h1, h2, h3, h4]; exact k6
      · rw [Tc.ext_B, Tc.ext_V, Tc.ext_H1, Tc.ext_H0, Tc.ext_C1, Tc.ext_C0, Tc.ext_T0, Tc.ext_F0, h1, h2, h3, h4]; exact k7
      · rw [Tc.ext_C0, Tc.ext_T0, Tc.ext_F0, h1, h2, h4]; exact k8
    have sm : ∀ b v h' c', Same x (x.ext i (putT (dstP gl o.dst) v t) (putF (dstP gl o.dst) v s.f) h' c' v b) i := fun b v h' c' => Tc.ext_same _ _ _ _ _ _ _ _
    have pend0 : ∀ b v h' c', effAt (kdsOf Pr D nt gl ops) i = false → kdF (foAt Pr D nt gl ops i o) ≠ .read → PendOk Pr D nt gl ops (x.ext i (putT (dstP gl o.dst) v t) (putF (dstP gl o.dst) v s.f) h' c' v b) (i + 1) p := by
      intro b v h' c' hne hk j o' hj ho' hk' hlt
      rw [(marks_no hne).2] at hlt ⊢
      rcases Nat.lt_or_ge j i with q | q
      · exact (hp.same (sm b v h' c')) j o' q ho' hk' hlt
      · have : j = i := by omega
        subst this
        rw [ho] at ho'
        simp only [Option.some.injEq] at ho'; subst ho'
        exact absurd hk' hk
    have tr0 : ∀ b v h' c', effAt (kdsOf Pr D nt gl ops) i = false → kdF (foAt Pr D nt gl ops i o) ≠ .read → StepOk Pr D nt gl ops (x.ext i (putT (dstP gl o.dst) v t) (putF (dstP gl o.dst) v s.f) h' c' v b) i o →
        TrOk Pr D nt gl ops (x.ext i (putT (dstP gl o.dst) v t) (putF (dstP gl o.dst) v s.f) h' c' v b) (i + 1) := by
      intro b v h' c' hne hk hst
      refine (hT.same (sm b v h' c')).adv ho hst fun j o' hj ho' hk' q hq hnot _ _ => ?_
      rw [(marks_no hne).1] at hq
      rcases Nat.lt_or_ge j i with q' | q'
      · exact absurd ⟨q', hq⟩ hnot
      · have : j = i := by omega
        subst this
        rw [ho] at ho'
        simp only [Option.some.injEq] at ho'; subst ho'
        exact absurd hk' hk
    generalize hfo : foAt Pr D nt gl ops i o = fo at *
    have hfo' : compG Pr D ops nt gl (regAt ops i) o = fo := hfo
    cases hk : kdF fo with
    | pure =>
      have hne : effAt (kdsOf Pr D nt gl ops) i = false := by rw [heff, hk]; rfl
      have ed : compD gl (ancOf ops) (kdsOf Pr D nt gl ops) i (regAt ops i) (fo :: fopsOf Pr D ops nt gl (regAt ops (i + 1)) r) (o :: r) = .pure fo (compD gl (ancOf ops) (kdsOf Pr D nt gl ops) (i + 1) (regAt ops (i + 1)) (fopsOf Pr D ops nt gl (regAt ops (i + 1)) r) r) := by
        simp only [compD, hk, hreg]
      rw [ed] at hx ⊢
      have er : ∀ R', runD cl D (.pure fo R') hs p t s = exec cl fo (runD cl D R' hs p) t s := fun _ => rfl
      rw [er] at hx ⊢
      rw [← hfo'] at hx
      obtain ⟨b, v, h', c', k1, k2, k3, k4, k5, k6, k7⟩ := compG_ok hcl hx
      rw [k4] at hx
      rw [hfo'] at k4 k7
      rw [k4]
      have st := mk b v h' c' k1 k2 k3 (by rw [(k7 (by rw [light_kd, hk]; simp)).2.2.1]; exact Nat.le_refl _) k6 k5 (fun e => ⟨(k7 e).1, (k7 e).2.1, (k7 e).2.2.1⟩) (fun e => by rw [hk] at e; cases e) (fun e => by rw [hk] at e; rcases e with e | e <;> cases e)
      exact go b v h' c' hs p st (by rw [(marks_no hne).1, Tc.ext_marks]; exact hh) (pend0 b v h' c' hne (by rw [hk]; simp)) (tr0 b v h' c' hne (by rw [hk]; simp) st) hx
    | new =>
      have hne : effAt (kdsOf Pr D nt gl ops) i = false := by rw [heff, hk]; rfl
      have ed : compD gl (ancOf ops) (kdsOf Pr D nt gl ops) i (regAt ops i) (fo :: fopsOf Pr D ops nt gl (regAt ops (i + 1)) r) (o :: r) = .new fo (chkAt Pr D nt gl ops i o) (compD gl (ancOf ops) (kdsOf Pr D nt gl ops) (i + 1) (regAt ops (i + 1)) (fopsOf Pr D ops nt gl (regAt ops (i + 1)) r) r) := by
        simp only [compD, hk, hreg]; rfl
      rw [ed] at hx ⊢
      have er : ∀ R', runD cl D (.new fo (chkAt Pr D nt gl ops i o) R') hs p t s = (underA s.c (evs (chkAt Pr D nt gl ops i o) t s.f)).casesOn (.x 61) (exec cl fo (runD cl D R' hs p) t s) := fun _ => rfl
      rw [er] at hx ⊢
      cases hu : underA s.c (evs (chkAt Pr D nt gl ops i o) t s.f) with
      | false => rw [hu] at hx; exact absurd rfl (hx 61)
      | true =>
        rw [hu] at hx
        simp only at hx ⊢
        rw [← hfo'] at hx
        have hds : o.dst.isSome = true := by rw [hk] at hse; exact hse
        obtain ⟨b, v, h', c', k1, k2, k3, k4, k5, k6, k7⟩ := compG_new hcl hds (by rw [hfo']; exact hk) hx
        rw [k4] at hx
        rw [hfo'] at k4
        rw [k4]
        have st := mk b v h' c' k1 k2 k3 (by cases b with | false => rw [(k6 rfl).2.2]; exact Nat.le_refl _ | true => obtain ⟨_, e, _⟩ := k7 rfl; omega) k6 k5 (fun e => by rw [light_kd, hk] at e; rcases e with e | e <;> cases e) (fun _ => k7) (fun _ => hu)
        exact go b v h' c' hs p st (by rw [(marks_no hne).1, Tc.ext_marks]; exact hh) (pend0 b v h' c' hne (by rw [hk]; simp)) (tr0 b v h' c' hne (by rw [hk]; simp) st) hx
    | read =>
      have hne : effAt (kdsOf Pr D nt gl ops) i = false := by rw [heff, hk]; rfl
      have ed : compD gl (ancOf ops) (kdsOf Pr D nt gl ops) i (regAt ops i) (fo :: fopsOf Pr D ops nt gl (regAt ops (i + 1)) r) (o :: r) = .read fo (backAt Pr D nt gl ops i) (fwdAt Pr D nt gl ops i) (compD gl (ancOf ops) (kdsOf Pr D nt gl ops) (i + 1) (regAt ops (i + 1)) (fopsOf Pr D ops nt gl (regAt ops (i + 1)) r) r) := by
        simp only [compD, hk, hreg]; rfl
      rw [ed] at hx ⊢
      have hds : o.dst.isSome = true := by rw [hk] at hse; exact hse
      generalize compD gl (ancOf ops) (kdsOf Pr D nt gl ops) (i + 1) (regAt ops (i + 1)) (fopsOf Pr D ops nt gl (regAt ops (i + 1)) r) r = R' at *
      have er : runD cl D (.read fo (backAt Pr D nt gl ops i) (fwdAt Pr D nt gl ops i) R') hs p t s = exec cl fo (fun t' s' => (same (fun h => vEq (hd t') (valG fo t s.f h)) (Nat.succ (backAt Pr D nt gl ops i)) hs).casesOn (.x 60)
        (runD cl D R' hs (Nat.casesOn (fwdAt Pr D nt gl ops i) p fun n => .cons (Nat.succ n) (fun h => vEq (hd t') (valG fo t s.f h)) p) t' s')) t s := rfl
      rw [er] at hx ⊢
      rw [← hfo'] at hx
      obtain ⟨b, v, h', c', k1, k2, k3, k4, k5, k6, k7⟩ := compG_ok hcl hx
      rw [k4] at hx
      rw [hfo'] at k4 k7 hx
      rw [k4]
      have ehd : hd (putT (dstP gl o.dst) v t) = v := by rw [putT_some hds]; rfl
      simp only [ehd] at hx ⊢
      cases hsm : same (fun h => vEq v (valG fo t s.f h)) (Nat.succ (backAt Pr D nt gl ops i)) hs with
      | false => rw [hsm] at hx; exact absurd rfl (hx 60)
      | true =>
        rw [hsm] at hx
        simp only at hx ⊢
        have st := mk b v h' c' k1 k2 k3 (by rw [(k7 (by rw [light_kd, hk]; simp)).2.2.1]; exact Nat.le_refl _) k6 k5 (fun e => ⟨(k7 e).1, (k7 e).2.1, (k7 e).2.2.1⟩) (fun e => by rw [hk] at e; cases e) (fun e => by rw [hk] at e; rcases e with e | e <;> cases e)
        refine go b v h' c' hs _ st (by rw [(marks_no hne).1, Tc.ext_marks]; exact hh) ?_ ?_ hx
        · intro j o' hj ho' hk' hlt
          rw [(marks_no hne).2] at hlt ⊢
          rcases Nat.lt_or_ge j i with q | q
          · have := (hp.same (sm b v h' c')) j o' q ho' hk' hlt
            cases fwdAt Pr D nt gl ops i with
            | zero => exact this
            | succ n => exact .inr this
          · have : j = i := by omega
            subst this
            rw [ho] at ho'
            simp only [Option.some.injEq] at ho'; subst ho'
            rw [Tc.ext_V, Tc.ext_T0, Tc.ext_F0, h1, h2, hfo]
            generalize hfw : fwdAt Pr D nt gl ops j = fw at *
            cases fw with
            | zero => omega
            | succ n => exact .inl ⟨by omega, rfl⟩
        · refine (hT.same (sm b v h' c')).adv ho st fun j o' hj ho' hk' q hq hnot q1 q2 => ?_
          rw [(marks_no hne).1] at hq
          rcases Nat.lt_or_ge j i with q' | q'
          · exact absurd ⟨q', hq⟩ hnot
          · have : j = i := by omega
            subst this
            rw [ho] at ho'
            simp only [Option.some.injEq] at ho'; subst ho'
            rw [Tc.ext_V, Tc.ext_T0, Tc.ext_F0, h1, h2, hfo, (sm b v h' c').H q (marks_le _ _ _ hq)]
            have hget : hs[cnt (kdsOf Pr D nt gl ops) j - cnt (kdsOf Pr D nt gl ops) q]? = some (x.H q) := by rw [hh, List.getElem?_map, marks_at _ _ _ hq]; rfl
            exact (vEq_eq (same_get _ _ _ hsm _ _ (by omega) hget)).symm
    | eff =>
      have hye : effAt (kdsOf Pr D nt gl ops) i = true := by rw [heff, hk]; rfl
      have ed : compD gl (ancOf ops) (kdsOf Pr D nt gl ops) i (regAt ops i) (fo :: fopsOf Pr D ops nt gl (regAt ops (i + 1)) r) (o :: r) = .eff fo (chkAt Pr D nt gl ops i o) (compD gl (ancOf ops) (kdsOf Pr D nt gl ops) (i + 1) (regAt ops (i + 1)) (fopsOf Pr D ops nt gl (regAt ops (i + 1)) r) r) := by
        simp only [compD, hk, hreg]; rfl
      rw [ed] at hx ⊢
      generalize compD gl (ancOf ops) (kdsOf Pr D nt gl ops) (i + 1) (regAt ops (i + 1)) (fopsOf Pr D ops nt gl (regAt ops (i + 1)) r) r = R' at *
      have er : runD cl D (.eff fo (chkAt Pr D nt gl ops i o) R') hs p t s = (underA s.c (evs (chkAt Pr D nt gl ops i o) t s.f)).casesOn (.x 62) (exec cl fo (fun t' s' => (pAll s'.h p && Nat.ble s.c s'.c).casesOn (.x 63) (runD cl D R' (s'.h :: hs) (pNext p) t' s')) t s) := rfl
      rw [er] at hx ⊢
      cases hu : underA s.c (evs (chkAt Pr D nt gl ops i o) t s.f) with
      | false => rw [hu] at hx; exact absurd rfl (hx 62)
      | true =>
        rw [hu] at hx
        simp only at hx ⊢
        rw [← hfo'] at hx
        obtain ⟨b, v, h', c', k1, k2, k3, k4, k5, k6, k7⟩ := compG_ok hcl hx
        rw [k4] at hx
        rw [hfo'] at k4 k7
        rw [k4]
        simp only at hx ⊢
        cases hpb : (pAll h' p && Nat.ble s.c c') with
        | false => rw [hpb] at hx; exact absurd rfl (hx 63)
        | true =>
          rw [hpb] at hx
          have hpc := hpb
          simp only [Bool.and_eq_true] at hpc
          obtain ⟨hpa, hle⟩ := hpc
          have hle := Nat.le_of_ble_eq_true hle
          simp only at hx ⊢
          have st := mk b v h' c' k1 k2 k3 hle k6 k5 (fun e => ⟨(k7 e).1, (k7 e).2.1, (k7 e).2.2.1⟩) (fun e => by rw [hk] at e; cases e) (fun _ => hu)
          refine go b v h' c' (h' :: hs) (pNext p) st (by rw [(marks_yes hye).1, List.map_cons, Tc.ext_marks, Tc.ext_H1, hh]) ?_ ?_ hx
          · intro j o' hj ho' hk' hlt
            rw [(marks_yes hye).2] at hlt ⊢
            rcases Nat.lt_or_ge j i with q | q
            · have := (hp.same (sm b v h' c')) j o' q ho' hk' (by omega)
              rw [show cnt (kdsOf Pr D nt gl ops) j + fwdAt Pr D nt gl ops j - cnt (kdsOf Pr D nt gl ops) i = (cnt (kdsOf Pr D nt gl ops) j + fwdAt Pr D nt gl ops j - (cnt (kdsOf Pr D nt gl ops) i + 1)) + 1 by omega] at this
              rcases pNext_has this with e | e
              · exact e
              · omega
            · have : j = i := by omega
              subst this
              rw [ho] at ho'
              simp only [Option.some.injEq] at ho'; subst ho'
              rw [hfo, hk] at hk'; cases hk'
          · refine (hT.same (sm b v h' c')).adv ho st fun j o' hj ho' hk' q hq hnot q1 q2 => ?_
            rw [(marks_yes hye).1] at hq
            rcases Nat.lt_or_ge j i with q' | q'
            · rcases List.mem_cons.1 hq with e | e
              · subst e
                rw [(marks_yes hye).2] at q2
                have := (hp.same (sm b v h' c')) j o' q' ho' hk' (by omega)
                rw [show cnt (kdsOf Pr D nt gl ops) j + fwdAt Pr D nt gl ops j - cnt (kdsOf Pr D nt gl ops) i = (cnt (kdsOf Pr D nt gl ops) j + fwdAt Pr D nt gl ops j - (cnt (kdsOf Pr D nt gl ops) i + 1)) + 1 by omega] at this
                have := pAll_has hpa this
                rw [Tc.ext_H1]
                exact (vEq_eq this).symm
              · exact absurd ⟨q', e⟩ hnot
            · have : j = i := by omega
              subst this
              rw [ho] at ho'
              simp only [Option.some.injEq] at ho'; subst ho'
              rw [hfo, hk] at hk'; cases hk'
end
end
end Go.FM

/-! ## FnSched -/
namespace Go.FM
noncomputable section
variable [Env]
section
variable {Pr : Program} {D nt gl : Nat} {ops : Array Oper} {A : List Nat}
theorem okRow_get {j : Nat} {kj : Kd} {oj : Oper} : ∀ {l : List (Kd × Oper)} {i0 : Nat}, okRow ops A j kj oj i0 l = true → ∀ i ki oi, l[i]? = some (ki, oi) → i0 + i < j → okPair ops A (i0 + i) ki oi j kj oj = true
  | [], i0, _, i, ki, oi, hg, _ => by simp at hg
  | (k, o) :: r, i0, h, i, ki, oi, hg, hlt => by
    have e : okRow ops A j kj oj i0 ((k, o) :: r) = (Nat.blt i0 j).casesOn (motive := fun _ => Bool) true (okPair ops A i0 k o j kj oj && okRow ops A j kj oj (i0 + 1) r) := rfl
    rw [e] at h
    have hb : Nat.blt i0 j = true := Nat.ble_eq_true_of_le (by omega : i0 + 1 ≤ j)
    rw [hb] at h
    simp only [Bool.and_eq_true] at h
    cases i with
    | zero => simp at hg; obtain ⟨rfl, rfl⟩ := hg; exact h.1
    | succ i =>
      have := okRow_get h.2 i ki oi (by simpa using hg) (by omega)
      rw [show i0 + (i + 1) = i0 + 1 + i by omega]; exact this
theorem okRows_get {all : List (Kd × Oper)} : ∀ {l : List (Kd × Oper)} {j0 : Nat}, okRows ops A all j0 l = true → ∀ j kj oj, l[j]? = some (kj, oj) → low (j0 + j) oj.after.toList = true ∧ seen kj oj = true ∧ okRow ops A (j0 + j) kj oj 0 all = true
  | [], j0, _, j, kj, oj, hg => by simp at hg
  | (k, o) :: r, j0, h, j, kj, oj, hg => by
    simp only [okRows, Bool.and_eq_true] at h
    cases j with
    | zero => simp at hg; obtain ⟨rfl, rfl⟩ := hg; exact ⟨h.1.1.1, h.1.1.2, h.1.2⟩
    | succ j =>
      have := okRows_get h.2 j kj oj (by simpa using hg)
      rw [show j0 + (j + 1) = j0 + 1 + j by omega]; exact this
theorem ancE_get {B : List Nat} : ∀ {es : List Edge} {i : Nat}, Nat.testBit (ancE B es) i = true → ∃ e, e ∈ es ∧ Region.binds .any e = true ∧ (e.on = i ∨ Nat.testBit (natAt B e.on) i = true)
  | [], i, h => by simp [ancE] at h
  | e :: r, i, h => by
    simp only [ancE] at h
    split at h
    · rename_i hb
      have e1 : ∀ a b : Nat, Nat.lor a b = a ||| b := fun _ _ => rfl
      have e2 : Nat.pow 2 e.on = 2 ^ e.on := rfl
      rw [e1, e1, e2, Nat.testBit_or, Nat.testBit_or, Nat.testBit_two_pow, Bool.or_eq_true, Bool.or_eq_true, decide_eq_true_eq] at h
      rcases h with h | h
      · exact ⟨e, by simp, hb, h⟩
      · obtain ⟨e', h1, h2⟩ := ancE_get h
        exact ⟨e', by simp [h1], h2⟩
    · obtain ⟨e', h1, h2⟩ := ancE_get h
      exact ⟨e', by simp [h1], h2⟩
theorem natAt_eq : ∀ (l : List Nat) (i : Nat), natAt l i = l.getD i 0
  | [], i => by cases i <;> simp [natAt]
  | a :: r, 0 => by simp [natAt]
  | a :: r, i + 1 => by simpa [natAt] using natAt_eq r i
theorem ancs_pre : ∀ (l : List Oper) (A : List Nat), ∃ B, ancs A l = A ++ B
  | [], A => ⟨[], by simp [ancs]⟩
  | o :: r, A => by
    obtain ⟨B, h⟩ := ancs_pre r (A ++ [ancE A o.after.toList])
    exact ⟨ancE A o.after.toList :: B, by simp [ancs, h]⟩
theorem ancs_get : ∀ (l : List Oper) (A : List Nat) (j : Nat) (o : Oper), l[j]? = some o → ∃ B, B.length = A.length + j ∧ (∀ k, k < B.length → natAt B k = natAt (ancs A l) k) ∧ natAt (ancs A l) (A.length + j) = ancE B o.after.toList
  | [], A, j, o, h => by simp at h
  | x :: r, A, 0, o, h => by
    simp at h; subst h
    obtain ⟨B, hB⟩ := ancs_pre r (A ++ [ancE A x.after.toList])
    refine ⟨A, by simp, fun k hk => ?_, ?_⟩
    · show _ = natAt (ancs (A ++ [ancE A x.after.toList]) r) k
      rw [hB, natAt_eq, natAt_eq]
      simp [List.getElem?_append, hk]
    · show natAt (ancs (A ++ [ancE A x.after.toList]) r) _ = _
      rw [hB, natAt_eq]
      simp
  | x :: r, A, j + 1, o, h => by
    obtain ⟨B, h1, h2, h3⟩ := ancs_get r (A ++ [ancE A x.after.toList]) j o (by simpa using h)
    simp only [List.length_append, List.length_cons, List.length_nil] at h1 h3
    exact ⟨B, by omega, h2, by rw [show A.length + (j + 1) = A.length + (0 + 1) + j by omega]; exact h3⟩
theorem cntE_mono {p q : Nat → Bool} : ∀ (l : List Kd) (i0 : Nat), (∀ k, l[k]? = some .eff → p (i0 + k) = true → q (i0 + k) = true) → cntE p i0 l ≤ cntE q i0 l
  | [], i0, _ => Nat.le_refl _
  | k :: r, i0, h => by
    have ih := cntE_mono r (i0 + 1) fun k hk hp => by
      have := h (k + 1) (by simpa using hk)
      rw [show i0 + (k + 1) = i0 + 1 + k by omega] at this
      exact this hp
    cases k with
    | eff =>
      have e : ∀ p : Nat → Bool, cntE p i0 (.eff :: r) = (p i0).casesOn (motive := fun _ => Nat) (cntE p (i0 + 1) r) (Nat.succ (cntE p (i0 + 1) r)) := fun _ => rfl
      rw [e, e]
      have h0 := h 0 rfl
      simp only [Nat.add_zero] at h0
      cases hp : p i0 with
      | false => cases q i0 <;> simp <;> omega
      | true => rw [h0 hp]; simp; omega
    | _ => exact ih
theorem cntE_step : ∀ (l : List Kd) (i0 p : Nat), cntE (fun j => Nat.blt j (i0 + p + 1)) i0 l = cntE (fun j => Nat.blt j (i0 + p)) i0 l + (if effAt l p then 1 else 0)
  | [], i0, p => by simp [cntE, effAt]
  | k :: r, i0, p => by
    have hb : ∀ a b : Nat, Nat.blt a b = decide (a < b) := fun a b => by
      cases h : Nat.blt a b with
      | true => simp [show a < b from Nat.le_of_ble_eq_true h]
      | false =>
        simp
        have := fun h' : a < b => (Nat.ble_eq_true_of_le h' : Nat.ble (a + 1) b = true)
        rcases Nat.lt_or_ge a b with q | q
        · have h2 : Nat.blt a b = true := this q
          rw [h] at h2; cases h2
        · exact q
    have zero : ∀ (l : List Kd) (i0 m : Nat), m ≤ i0 → cntE (fun j => Nat.blt j m) i0 l = 0 := by
      intro l
      induction l with
      | nil => intro i0 m _; rfl
      | cons k r ih =>
        intro i0 m hm
        cases k with
        | eff =>
          show (Nat.blt i0 m).casesOn (motive := fun _ => Nat) (cntE (fun j => Nat.blt j m) (i0 + 1) r) _ = 0
          rw [hb, decide_eq_false (by omega)]
          exact ih (i0 + 1) m (by omega)
        | _ => exact ih (i0 + 1) m (by omega)
    cases p with
    | zero =>
      rw [zero (k :: r) i0 (i0 + 0) (by omega)]
      have z := zero r (i0 + 1) (i0 + 0 + 1) (by omega)
      cases k with
      | eff =>
        show (Nat.blt i0 (i0 + 0 + 1)).casesOn (motive := fun _ => Nat) (cntE _ (i0 + 1) r) (Nat.succ (cntE _ (i0 + 1) r)) = _
        rw [hb, decide_eq_true (by omega), z]
        rfl
      | _ => exact z
    | succ p =>
      have ih := cntE_step r (i0 + 1) p
      rw [show i0 + 1 + p + 1 = i0 + (p + 1) + 1 by omega, show i0 + 1 + p = i0 + (p + 1) by omega] at ih
      have ee : effAt (k :: r) (p + 1) = effAt r p := by simp [effAt]
      rw [ee]
      cases k with
      | eff =>
        show (Nat.blt i0 (i0 + (p + 1) + 1)).casesOn (motive := fun _ => Nat) (cntE _ (i0 + 1) r) (Nat.succ (cntE _ (i0 + 1) r)) = (Nat.blt i0 (i0 + (p + 1))).casesOn (motive := fun _ => Nat) (cntE _ (i0 + 1) r) (Nat.succ (cntE _ (i0 + 1) r)) + _
        rw [hb, hb, decide_eq_true (by omega), decide_eq_true (by omega)]
        show Nat.succ (cntE _ (i0 + 1) r) = Nat.succ (cntE _ (i0 + 1) r) + _
        rw [ih]; omega
      | _ => exact ih
theorem cntE_cnt (ks : List Kd) : ∀ p, cntE (fun j => Nat.blt j p) 0 ks = cnt ks p
  | 0 => by
    have : ∀ (l : List Kd) (i0 : Nat), cntE (fun j => Nat.blt j 0) i0 l = 0 := by
      intro l
      induction l with
      | nil => intro i0; rfl
      | cons k r ih =>
        intro i0
        cases k with
        | eff => exact ih (i0 + 1)
        | _ => exact ih (i0 + 1)
    exact this ks 0
  | p + 1 => by
    have := cntE_step ks 0 p
    simp only [Nat.zero_add] at this
    rw [this, cntE_cnt ks p]
    simp only [cnt]
    split <;> rfl
end
end
end Go.FM

/-! ## FnSched2 -/
namespace Go.FM
noncomputable section
variable [Env]
structure Stat (Pr : Program) (D nt gl : Nat) (ops : Array Oper) : Prop where
  low : ∀ j o e, ops.toList[j]? = some o → e ∈ o.after.toList → Region.binds .any e = true → e.on < j
  seen : ∀ j o, ops.toList[j]? = some o → seen (kdF (foAt Pr D nt gl ops j o)) o = true
  pair : ∀ i j oi oj, ops.toList[i]? = some oi → ops.toList[j]? = some oj → i < j → Nat.testBit (natAt (ancOf ops) j) i = true ∨
    (meets ops oi oj = false ∧ meets ops oj oi = false ∧ ¬ (kdF (foAt Pr D nt gl ops j oj) = .eff ∧ (kdF (foAt Pr D nt gl ops i oi) = .eff ∨ kdF (foAt Pr D nt gl ops i oi) = .new)))
  anc : ∀ j o i, ops.toList[j]? = some o → Nat.testBit (natAt (ancOf ops) j) i = true → ∃ e, e ∈ o.after.toList ∧ Region.binds .any e = true ∧ (e.on = i ∨ Nat.testBit (natAt (ancOf ops) e.on) i = true)
section
variable {Pr : Program} {D nt gl : Nat} {ops : Array Oper}
theorem zip_get {j : Nat} {o : Oper} (ho : ops.toList[j]? = some o) : ((kdsOf Pr D nt gl ops).zip ops.toList)[j]? = some (kdF (foAt Pr D nt gl ops j o), o) := by
  rw [List.getElem?_zip_eq_some]
  exact ⟨kds_get ho, ho⟩
theorem stat_of (h : okRows ops (ancOf ops) ((kdsOf Pr D nt gl ops).zip ops.toList) 0 ((kdsOf Pr D nt gl ops).zip ops.toList) = true) : Stat Pr D nt gl ops := by
  have row := fun j o (ho : ops.toList[j]? = some o) => okRows_get h j _ _ (zip_get (Pr := Pr) (D := D) (nt := nt) (gl := gl) ho)
  simp only [Nat.zero_add] at row
  have hlow : ∀ j o e, ops.toList[j]? = some o → e ∈ o.after.toList → Region.binds .any e = true → e.on < j := by
    intro j o e ho he hb
    have := (row j o ho).1
    simp only [low, List.all_eq_true] at this
    have := this e he
    rw [if_pos hb] at this
    exact Nat.le_of_ble_eq_true this
  refine ⟨hlow, fun j o ho => (row j o ho).2.1, fun i j oi oj hi hj hlt => ?_, fun j o i ho hb => ?_⟩
  · have := okRow_get (row j oj hj).2.2 i _ _ (zip_get hi) (by omega)
    simp only [Nat.zero_add, okPair, Bool.or_eq_true, Bool.and_eq_true, Bool.not_eq_true', Bool.or_eq_false_iff] at this
    rcases this with h1 | ⟨⟨h1, h2⟩, h3⟩
    · exact .inl h1
    · refine .inr ⟨h1, h2, fun ⟨e1, e2⟩ => ?_⟩
      rw [e1] at h3
      rcases e2 with e2 | e2 <;> rw [e2] at h3 <;> cases h3
  · obtain ⟨B, h1, h2, h3⟩ := ancs_get ops.toList [] j o ho
    simp only [List.length_nil, Nat.zero_add] at h1 h3
    have hb' : Nat.testBit (natAt (ancs [] ops.toList) j) i = true := hb
    rw [h3] at hb'
    obtain ⟨e, q1, q2, q3⟩ := ancE_get hb'
    refine ⟨e, q1, q2, ?_⟩
    rw [h2 e.on (by rw [h1]; exact hlow j o e ho q1 q2)] at q3
    exact q3
def Done (ops : Array Oper) (X : Nat → Prop) : Prop := (∀ i, X i → i < ops.toList.length) ∧ ∀ i o e, X i → ops.toList[i]? = some o → e ∈ o.after.toList → Region.binds .any e = true → X e.on
def Ready (ops : Array Oper) (X : Nat → Prop) (j : Nat) (o : Oper) : Prop := ops.toList[j]? = some o ∧ ¬ X j ∧ ∀ e, e ∈ o.after.toList → Region.binds .any e = true → X e.on
variable {X : Nat → Prop} {x : Tc} {j : Nat} {o : Oper}
theorem Done.get (hd : Done ops X) {i : Nat} (hi : X i) : ∃ o, ops.toList[i]? = some o := ⟨ops.toList[i]'(hd.1 i hi), List.getElem?_eq_getElem _⟩
theorem Done.anc (hst : Stat Pr D nt gl ops) (hd : Done ops X) : ∀ (j : Nat), X j → ∀ i, Nat.testBit (natAt (ancOf ops) j) i = true → X i := by
  intro j
  induction j using Nat.strongRecOn with
  | ind j ih =>
    intro hj i hb
    obtain ⟨o, ho⟩ := hd.get hj
    obtain ⟨e, h1, h2, h3⟩ := hst.anc j o i ho hb
    have hx := hd.2 j o e hj ho h1 h2
    rcases h3 with h3 | h3
    · rw [← h3]; exact hx
    · exact ih e.on (hst.low j o e ho h1 h2) hx i h3
theorem Ready.anc (hst : Stat Pr D nt gl ops) (hd : Done ops X) (hr : Ready ops X j o) {i : Nat} (hb : Nat.testBit (natAt (ancOf ops) j) i = true) : X i := by
  obtain ⟨e, h1, h2, h3⟩ := hst.anc j o i hr.1 hb
  have hx := hr.2.2 e h1 h2
  rcases h3 with h3 | h3
  · rw [← h3]; exact hx
  · exact hd.anc hst _ hx i h3
theorem Ready.done (hd : Done ops X) (hr : Ready ops X j o) : Done ops (fun i => X i ∨ i = j) := by
  refine ⟨fun i hi => ?_, fun i o' e hi ho' he hb => ?_⟩
  · rcases hi with hi | rfl
    · exact hd.1 i hi
    · exact (List.getElem?_eq_some_iff.1 hr.1).1
  · rcases hi with hi | rfl
    · exact .inl (hd.2 i o' e hi ho' he hb)
    · have := hr.1
      rw [ho'] at this
      simp only [Option.some.injEq] at this; subst this
      exact .inl (hr.2.2 e he hb)
theorem Ready.meet (hst : Stat Pr D nt gl ops) (hd : Done ops X) (hr : Ready ops X j o) {i : Nat} {oi : Oper} (hi : ops.toList[i]? = some oi) (hm : meets ops oi o = true ∨ meets ops o oi = true) : (X i → i < j) ∧ (i < j → X i) := by
  constructor
  · intro hx
    rcases Nat.lt_trichotomy i j with h | h | h
    · exact h
    · subst h; exact absurd hx hr.2.1
    · rcases hst.pair j i o oi hr.1 hi h with q | ⟨q1, q2, _⟩
      · exact absurd (hd.anc hst i hx j q) hr.2.1
      · rw [q1, q2] at hm; simp at hm
  · intro h
    rcases hst.pair i j oi o hi hr.1 h with q | ⟨q1, q2, _⟩
    · exact hr.anc hst hd q
    · rw [q1, q2] at hm; simp at hm
def TmpR (gl : Nat) (ops : Array Oper) (x : Tc) (g : Gm) (c m q : Nat) (u : Value) : Prop :=
  (Nat.testBit gl q = true → TRep g c (fget (rank gl q) (x.F m)) u) ∧ ∀ j, idx q (regAt ops m) = some j → TRep g c (lget j (x.T m)) u
variable {g g' : Gm} {c c' m q : Nat} {u : Value}
theorem TmpR.mono' (h : TmpR gl ops x g c m q u) (ha : Agr c g g') (hc : c ≤ c') : TmpR gl ops x g' c' m q u :=
  ⟨fun hb => (h.1 hb).mono' ha hc, fun j hj => (h.2 j hj).mono' ha hc⟩
theorem TmpR.opnd (h : TmpR gl ops x g c m q u) : TRep g c ((opnd gl (regAt ops m) (.tmp q)).ev (x.T m) (x.F m)) u := by
  unfold Go.FM.opnd
  simp only
  cases hi : idx q (regAt ops m) with
  | some j => exact h.2 j hi
  | none =>
    cases hb : Nat.testBit gl q with
    | false => exact trivial
    | true =>
      show TRep g c ((gVar (rank gl q)).ev _ _) u
      rw [gVar_ev]
      exact h.1 hb
theorem TmpR.keep (hgl : GlOk nt gl) (ho : ops.toList[m]? = some o) (hs : StepOk Pr D nt gl ops x m o) (hq : o.dst ≠ some q) (h : TmpR gl ops x g c m q u) : TmpR gl ops x g c (m + 1) q u := by
  unfold TmpR
  rw [regAt_succ ho, hs.t, hs.f]
  cases hd : o.dst with
  | none => exact h
  | some d =>
    have hne : q ≠ d := fun e => hq (by rw [hd, e])
    have hdn : d < nt := by have := hs.dst; rw [hd] at this; exact Nat.le_of_ble_eq_true this
    refine ⟨fun hb => ?_, fun j hj => ?_⟩
    · have h1 := h.1 hb
      have e : dstP gl (some d) = (Nat.testBit gl d).casesOn (motive := fun _ => P) .loc (pVar (rank gl d)) := rfl
      rw [e]
      cases hb2 : Nat.testBit gl d with
      | false => exact h1
      | true =>
        obtain ⟨p, hp, hpv⟩ := pVar_eq (rank gl d)
        show TRep g c (fget (rank gl q) (putF (pVar (rank gl d)) (x.V m) (x.F m))) u
        rw [hp]
        show TRep g c (fget (rank gl q) (p (x.V m) (x.F m))) u
        have r1 : rank gl q < 256 := Nat.lt_of_lt_of_le (rank_lt gl (hgl.2 q hb) hb) hgl.1
        have r2 : rank gl d < 256 := Nat.lt_of_lt_of_le (rank_lt gl hdn hb2) hgl.1
        rw [hpv, fget_fset r1 r2, if_neg fun e => hne (rank_inj gl hb hb2 e)]
        exact h1
    · have hj : idx q (d :: regAt ops m) = some j := hj
      rw [idx_cons, if_neg (fun e => hne e.symm)] at hj
      obtain ⟨j', hj', rfl⟩ := Option.map_eq_some_iff.1 hj
      rw [putT_some rfl]
      exact h.2 j' hj'
theorem TmpR.put (hgl : GlOk nt gl) (ho : ops.toList[m]? = some o) (hs : StepOk Pr D nt gl ops x m o) (hq : o.dst = some q) (h : TRep g c (x.V m) u) : TmpR gl ops x g c (m + 1) q u := by
  unfold TmpR
  rw [regAt_succ ho, hs.t, hs.f, hq]
  have hdn : q < nt := by have := hs.dst; rw [hq] at this; exact Nat.le_of_ble_eq_true this
  refine ⟨fun hb => ?_, fun j hj => ?_⟩
  · have e : dstP gl (some q) = (Nat.testBit gl q).casesOn (motive := fun _ => P) .loc (pVar (rank gl q)) := rfl
    rw [e, hb]
    obtain ⟨p, hp, hpv⟩ := pVar_eq (rank gl q)
    show TRep g c (fget (rank gl q) (putF (pVar (rank gl q)) (x.V m) (x.F m))) u
    rw [hp]
    show TRep g c (fget (rank gl q) (p (x.V m) (x.F m))) u
    have r1 : rank gl q < 256 := Nat.lt_of_lt_of_le (rank_lt gl hdn hb) hgl.1
    rw [hpv, fget_fset r1 r1, if_pos rfl]
    exact h
  · have hj : idx q (q :: regAt ops m) = some j := hj
    rw [idx_cons, if_pos rfl] at hj
    simp only [Option.some.injEq] at hj; subst hj
    rw [putT_some rfl]
    exact h
theorem TmpR.keeps (hgl : GlOk nt gl) {n : Nat} (hT : TrOk Pr D nt gl ops x n) (hn : n ≤ ops.toList.length) (h : TmpR gl ops x g c m q u) (k : Nat) (hk : m + k ≤ n) (hw : ∀ i o, m ≤ i → i < m + k → ops.toList[i]? = some o → o.dst ≠ some q) : TmpR gl ops x g c (m + k) q u := by
  induction k with
  | zero => exact h
  | succ k ih =>
    have ih := ih (Nat.le_of_succ_le hk) fun i o h1 h2 => hw i o h1 (Nat.lt_succ_of_lt h2)
    have hlt : m + k < ops.toList.length := Nat.lt_of_lt_of_le hk hn
    have ho := List.getElem?_eq_getElem hlt
    exact ih.keep hgl ho (hT.step _ _ hk ho) (hw _ _ (Nat.le_add_right m k) (Nat.lt_succ_self _) ho)
def TmpsOk (nt gl : Nat) (ops : Array Oper) (X : Nat → Prop) (x : Tc) (g : Gm) (c : Nat) (a : Act) : Prop :=
  ∀ q, q < nt → ∃ m, m ≤ ops.toList.length ∧ (m = 0 ∨ ∃ i o, m = i + 1 ∧ X i ∧ ops.toList[i]? = some o ∧ o.dst = some q) ∧ (∀ i o, X i → ops.toList[i]? = some o → o.dst = some q → i < m) ∧ TmpR gl ops x g c m q (a.tmps.getD q undef)
theorem TmpsOk.mono' {a : Act} (h : TmpsOk nt gl ops X x g c a) (ha : Agr c g g') (hc : c ≤ c') : TmpsOk nt gl ops X x g' c' a := by
  intro q hq
  obtain ⟨m, h1, h2, h3, h4⟩ := h q hq
  exact ⟨m, h1, h2, h3, h4.mono' ha hc⟩
theorem dst_meets {oi oj : Oper} {q : Nat} (hi : oi.dst = some q) (hj : oj.dst = some q ∨ q ∈ usesOf ops oj) : meets ops oi oj = true := by
  unfold meets
  rw [hi]
  rcases hj with hj | hj
  · simp [hj]
  · simp [hj]
theorem TmpsOk.reads {a : Act} (hst : Stat Pr D nt gl ops) (hd : Done ops X) (hr : Ready ops X j o) (hgl : GlOk nt gl) (hT : TrOk Pr D nt gl ops x ops.toList.length) (h : TmpsOk nt gl ops X x g c a) (hq : q < nt) (hu : q ∈ usesOf ops o) :
    TmpR gl ops x g c j q (a.tmps.getD q undef) := by
  obtain ⟨m, h1, h2, h3, h4⟩ := h q hq
  have hjl : j < ops.toList.length := (List.getElem?_eq_some_iff.1 hr.1).1
  have hle : m ≤ j := by
    rcases h2 with rfl | ⟨i, oi, rfl, hx, hi, hdi⟩
    · omega
    · exact (hr.meet hst hd hi (.inl (dst_meets hdi (.inr hu)))).1 hx
  have := h4.keeps hgl hT (Nat.le_refl _) (j - m) (by omega) fun i oi q1 q2 q3 q4 => by
    have hx := (hr.meet hst hd q3 (.inl (dst_meets q4 (.inr hu)))).2 (by omega)
    have := h3 i oi hx q3 q4
    omega
  rw [show m + (j - m) = j by omega] at this
  exact this
theorem TmpsOk.put {a : Act} (hst : Stat Pr D nt gl ops) (hd : Done ops X) (hr : Ready ops X j o) (hgl : GlOk nt gl) (hT : TrOk Pr D nt gl ops x ops.toList.length) (hsz : a.tmps.size = nt) (h : TmpsOk nt gl ops X x g c a) (hv : TRep g c (x.V j) u) :
    TmpsOk nt gl ops (fun i => X i ∨ i = j) x g c (a.put o.dst u) := by
  intro q hq
  obtain ⟨m, h1, h2, h3, h4⟩ := h q hq
  have hjl : j < ops.toList.length := (List.getElem?_eq_some_iff.1 hr.1).1
  by_cases hdq : o.dst = some q
  · refine ⟨j + 1, hjl, .inr ⟨j, o, rfl, .inr rfl, hr.1, hdq⟩, fun i oi hi hoi hdi => ?_, ?_⟩
    · rcases hi with hi | rfl
      · have := (hr.meet hst hd hoi (.inl (dst_meets hdi (.inl hdq)))).1 hi
        omega
      · omega
    · have e : (a.put o.dst u).tmps.getD q undef = u := by rw [hdq, put_tmps, if_pos ⟨rfl, by rw [hsz]; exact hq⟩]
      rw [e]
      exact TmpR.put hgl hr.1 (hT.step j o hjl hr.1) hdq hv
  · refine ⟨m, h1, ?_, fun i oi hi hoi hdi => ?_, ?_⟩
    · rcases h2 with h2 | ⟨i, oi, e, hx, q1, q2⟩
      · exact .inl h2
      · exact .inr ⟨i, oi, e, .inl hx, q1, q2⟩
    · rcases hi with hi | rfl
      · exact h3 i oi hi hoi hdi
      · have := hr.1
        rw [hoi] at this
        simp only [Option.some.injEq] at this; subst this
        exact absurd hdi hdq
    · have e : (a.put o.dst u).tmps.getD q undef = a.tmps.getD q undef := by
        cases hdd : o.dst with
        | none => rfl
        | some d => rw [put_tmps, if_neg fun e => hdq (by rw [hdd, e.1])]
      rw [e]; exact h4
theorem TmpsOk.all {a : Act} (hgl : GlOk nt gl) (hT : TrOk Pr D nt gl ops x ops.toList.length) (hall : ∀ i, i < ops.toList.length → X i) (h : TmpsOk nt gl ops X x g c a) (hsz : a.tmps.size = nt) (hdef : a.defers = []) (hreg : ∀ q j, idx q (regAt ops ops.toList.length) = some j → q < nt) :
    SRel nt gl (regAt ops ops.toList.length) g c (x.T ops.toList.length) (x.F ops.toList.length) a := by
  have key : ∀ q, q < nt → TmpR gl ops x g c ops.toList.length q (a.tmps.getD q undef) := by
    intro q hq
    obtain ⟨m, h1, h2, h3, h4⟩ := h q hq
    have := h4.keeps hgl hT (Nat.le_refl _) (ops.toList.length - m) (by omega) fun i oi q1 q2 q3 q4 => by
      have := h3 i oi (hall i (by omega)) q3 q4
      omega
    rw [show m + (ops.toList.length - m) = ops.toList.length by omega] at this
    exact this
  exact ⟨hsz, fun q hb => (key q (hgl.2 q hb)).1 hb, fun q j hj => (key q (hreg q j hj)).2 j hj, hdef⟩
end
end
end Go.FM

/-! ## FnSched3 -/
namespace Go.FM
noncomputable section
variable [Env]
section
variable (Pr : Program) (D nt gl : Nat) (ops : Array Oper)
def IsNew (x : Tc) (i : Nat) (o : Oper) : Prop := ops.toList[i]? = some o ∧ kdF (foAt Pr D nt gl ops i o) = .new ∧ x.B i = true
def IsEff (i : Nat) (o : Oper) : Prop := ops.toList[i]? = some o ∧ kdF (foAt Pr D nt gl ops i o) = .eff
structure Pos (X : Nat → Prop) (p : Nat) : Prop where
  le : p ≤ ops.toList.length
  last : p = 0 ∨ ∃ e o, p = e + 1 ∧ X e ∧ IsEff Pr D nt gl ops e o
  all : ∀ e o, X e → IsEff Pr D nt gl ops e o → e < p
structure HeapOk (X : Nat → Prop) (x : Tc) (cE p : Nat) (g : Gm) (w : World) : Prop where
  main : HOk D g (x.H p) (x.C p) w
  new : ∀ i o, X i → p ≤ i → IsNew Pr D nt gl ops x i o → ∃ q, x.H (i + 1) = HT.set D (x.C i) (.own 0 q) (x.H i) ∧ BOk g (x.C i + 1) (g (x.C i)) q w ∧ ¬ Has g (hp D (x.H p)) (g (x.C i)).b
  apart : ∀ i o i' o', X i → p ≤ i → IsNew Pr D nt gl ops x i o → X i' → p ≤ i' → IsNew Pr D nt gl ops x i' o' → (g (x.C i)).b = (g (x.C i')).b → i = i'
  ok : ∀ k, x.C p ≤ k → Nm g cE k → ∃ i o, X i ∧ p ≤ i ∧ IsNew Pr D nt gl ops x i o ∧ x.C i = k
end
section
variable {Pr : Program} {D nt gl : Nat} {ops : Array Oper} {X : Nat → Prop} {x : Tc} {cE p m : Nat} {g : Gm} {w : World} {j : Nat} {o : Oper}
theorem step_cases (hT : TrOk Pr D nt gl ops x ops.toList.length) (ho : ops.toList[j]? = some o) (hne : ¬ IsEff Pr D nt gl ops j o) :
    (x.H (j + 1) = x.H j ∧ x.C (j + 1) = x.C j ∧ ¬ IsNew Pr D nt gl ops x j o) ∨
    (IsNew Pr D nt gl ops x j o ∧ ∃ q, x.C (j + 1) = x.C j + 1 ∧ x.C j < 4 ^ D ∧ x.H (j + 1) = HT.set D (x.C j) (.own 0 q) (x.H j)) := by
  have hs := hT.step j o (List.getElem?_eq_some_iff.1 ho).1 ho
  cases hk : kdF (foAt Pr D nt gl ops j o) with
  | eff => exact absurd ⟨ho, hk⟩ hne
  | new =>
    cases hb : x.B j with
    | false =>
      obtain ⟨_, h1, h2⟩ := hs.off hb
      exact .inl ⟨h1, h2, fun h => by have := h.2.2; rw [hb] at this; cases this⟩
    | true =>
      obtain ⟨q, h1, h2, h3, _⟩ := hs.al hk hb
      exact .inr ⟨⟨ho, hk, hb⟩, q, h1, h2, h3⟩
  | pure =>
    obtain ⟨_, h1, h2⟩ := hs.light (light_kd.2 (.inl hk))
    exact .inl ⟨h1, h2, fun h => by have := h.2.1; rw [hk] at this; cases this⟩
  | read =>
    obtain ⟨_, h1, h2⟩ := hs.light (light_kd.2 (.inr hk))
    exact .inl ⟨h1, h2, fun h => by have := h.2.1; rw [hk] at this; cases this⟩
structure Seg (Pr : Program) (D nt gl : Nat) (ops : Array Oper) (x : Tc) (p m : Nat) : Prop where
  deep : HT.deep D (x.H m)
  le : x.C p ≤ x.C m
  top : x.C m ≤ 4 ^ D
  mono : ∀ i, p ≤ i → i ≤ m → x.C i ≤ x.C m
  at_ : ∀ k, (∃ i o q, p ≤ i ∧ i < m ∧ IsNew Pr D nt gl ops x i o ∧ x.C i = k ∧ x.C (i + 1) = x.C i + 1 ∧ x.H (i + 1) = HT.set D (x.C i) (.own 0 q) (x.H i) ∧ hp D (x.H m) k = .own 0 q) ∨
    ((k < x.C p ∨ x.C m ≤ k) ∧ hp D (x.H m) k = hp D (x.H p) k)
theorem seg (hT : TrOk Pr D nt gl ops x ops.toList.length) (hd : HT.deep D (x.H p)) (hc : x.C p ≤ 4 ^ D) : ∀ k, p + k ≤ ops.toList.length → (∀ e o, p ≤ e → e < p + k → ¬ IsEff Pr D nt gl ops e o) → Seg Pr D nt gl ops x p (p + k) := by
  intro k
  induction k with
  | zero => exact fun _ _ => ⟨hd, Nat.le_refl _, hc, fun i h1 h2 => by rw [show i = p by exact Nat.le_antisymm h2 h1]; exact Nat.le_refl _, fun k => .inr ⟨by rcases Nat.lt_or_ge k (x.C p) with h | h; exact .inl h; exact .inr h, rfl⟩⟩
  | succ k ih =>
    intro hk hne
    have s := ih (Nat.le_of_succ_le hk) fun e o h1 h2 => hne e o h1 (Nat.lt_succ_of_lt h2)
    have hlt : p + k < ops.toList.length := hk
    have ho := List.getElem?_eq_getElem hlt
    rcases step_cases hT ho (hne _ _ (Nat.le_add_right p k) (Nat.lt_succ_self _)) with ⟨h1, h2, h3⟩ | ⟨hn, q, h1, h2, h3⟩
    · show Seg Pr D nt gl ops x p (p + k + 1)
      refine ⟨by rw [h1]; exact s.deep, by rw [h2]; exact s.le, by rw [h2]; exact s.top, fun i q1 q2 => ?_, fun n => ?_⟩
      · rcases Nat.lt_or_ge i (p + k + 1) with h | h
        · rw [h2]; exact s.mono i q1 (Nat.le_of_lt_succ h)
        · rw [show i = p + k + 1 from Nat.le_antisymm q2 h]; exact Nat.le_refl _
      · rw [h1, h2]
        rcases s.at_ n with ⟨i, o, q, a1, a2, a3⟩ | a
        · exact .inl ⟨i, o, q, a1, Nat.lt_succ_of_lt a2, a3⟩
        · exact .inr a
    · show Seg Pr D nt gl ops x p (p + k + 1)
      have hset := hp_set (o := .own 0 q) s.deep h2
      refine ⟨by rw [h3]; exact deep_set _ _ _ _ s.deep, by rw [h1]; have := s.le; omega, by rw [h1]; exact h2, fun i q1 q2 => ?_, fun n => ?_⟩
      · rcases Nat.lt_or_ge i (p + k + 1) with h | h
        · rw [h1]; have := s.mono i q1 (Nat.le_of_lt_succ h); omega
        · rw [show i = p + k + 1 from Nat.le_antisymm q2 h]; exact Nat.le_refl _
      · by_cases hnc : n = x.C (p + k)
        · subst hnc
          refine .inl ⟨p + k, _, q, Nat.le_add_right p k, Nat.lt_succ_self _, hn, rfl, h1, h3, ?_⟩
          rw [h3, hset]
          simp [upd]
        · have e : hp D (x.H (p + k + 1)) n = hp D (x.H (p + k)) n := by rw [h3, hset]; simp [upd, hnc]
          rw [e, h1]
          rcases s.at_ n with ⟨i, o, q', a1, a2, a3⟩ | ⟨a1, a2⟩
          · exact .inl ⟨i, o, q', a1, Nat.lt_succ_of_lt a2, a3⟩
          · exact .inr ⟨by rcases a1 with a1 | a1; exact .inl a1; exact .inr (by omega), a2⟩
theorem merge (hT : TrOk Pr D nt gl ops x ops.toList.length) (hh : HeapOk Pr D nt gl ops X x cE p g w) (hpm : p ≤ m) (hm : m ≤ ops.toList.length) (hne : ∀ e o, p ≤ e → e < m → ¬ IsEff Pr D nt gl ops e o)
    (hnew : ∀ i o, p ≤ i → i < m → IsNew Pr D nt gl ops x i o → X i) :
    HOk D g (x.H m) (x.C m) w ∧ x.C p ≤ x.C m ∧ (∀ i, p ≤ i → i ≤ m → x.C i ≤ x.C m) ∧ (∀ b, Has g (hp D (x.H m)) b → Has g (hp D (x.H p)) b ∨ ∃ i o, p ≤ i ∧ i < m ∧ IsNew Pr D nt gl ops x i o ∧ (g (x.C i)).b = b) ∧
      (∀ b, Owns g (hp D (x.H m)) b → Owns g (hp D (x.H p)) b ∨ ∃ i o, p ≤ i ∧ i < m ∧ IsNew Pr D nt gl ops x i o ∧ (g (x.C i)).b = b) := by
  have s : Seg Pr D nt gl ops x p m := by
    have := seg hT hh.main.deep hh.main.le (m - p) (by omega) fun e o h1 h2 => hne e o h1 (by omega)
    rw [show p + (m - p) = m by omega] at this
    exact this
  have inv := hh.main.inv
  have nw : ∀ {i o q}, p ≤ i → i < m → IsNew Pr D nt gl ops x i o → x.C (i + 1) = x.C i + 1 → x.H (i + 1) = HT.set D (x.C i) (.own 0 q) (x.H i) → HT.deep D (x.H i) → x.C i < 4 ^ D → BOk g (x.C m) (g (x.C i)) q w ∧ ¬ Has g (hp D (x.H p)) (g (x.C i)).b := by
    intro i o q h1 h2 h3 hc h4 hdp hlt
    obtain ⟨q', e1, e2, e3⟩ := hh.new i o (hnew i o h1 h2 h3) h1 h3
    have : q' = q := by
      have hs1 := hp_set (o := .own 0 q) hdp hlt
      have hs2 := hp_set (o := .own 0 q') hdp hlt
      rw [← h4] at hs1
      rw [← e1] at hs2
      have := congrFun (hs1.symm.trans hs2) (x.C i)
      simp [upd] at this
      exact this.symm
    subst this
    exact ⟨e2.mono (fun _ _ => rfl) (by rw [← hc]; exact s.mono (i + 1) (by omega) h2) rfl, e3⟩
  have nw' : ∀ {i o q}, p ≤ i → i < m → IsNew Pr D nt gl ops x i o → x.C (i + 1) = x.C i + 1 → x.H (i + 1) = HT.set D (x.C i) (.own 0 q) (x.H i) → BOk g (x.C m) (g (x.C i)) q w ∧ ¬ Has g (hp D (x.H p)) (g (x.C i)).b := by
    intro i o q h1 h2 h3 hc h4
    have si : Seg Pr D nt gl ops x p i := by
      have := seg hT hh.main.deep hh.main.le (i - p) (by omega) fun e o q1 q2 => hne e o q1 (by omega)
      rw [show p + (i - p) = i by omega] at this
      exact this
    refine nw h1 h2 h3 hc h4 si.deep ?_
    have := s.mono (i + 1) (by omega) h2
    have := s.top
    omega
  have old : ∀ {k}, hp D (x.H p) k ≠ .no → Has g (hp D (x.H p)) (g k).b := fun {k} h => ⟨k, h, rfl⟩
  refine ⟨⟨s.deep, s.top, ⟨fun k pre b hk => ?_, fun k b hk => ?_, fun k b j pre b' hk hj he => ?_, fun k pre b k' pre' b' hk hk' he => ?_, fun k hk => ?_, fun k pr b hk => ?_⟩⟩, s.le, s.mono, fun b hb => ?_, fun b hb => ?_⟩
  · rcases s.at_ k with ⟨i, o, q, a1, a2, a3, rfl, a5, a6, a7⟩ | ⟨a1, a2⟩
    · rw [a7] at hk
      simp only [HO.own.injEq] at hk
      obtain ⟨rfl, rfl⟩ := hk
      exact (nw' a1 a2 a3 a5 a6).1
    · rw [a2] at hk
      exact (inv.own k pre b hk).mono (fun _ _ => rfl) s.le rfl
  · rcases s.at_ k with ⟨i, o, q, a1, a2, a3, rfl, a5, a6, a7⟩ | ⟨a1, a2⟩
    · rw [a7] at hk; cases hk
    · rw [a2] at hk
      exact (inv.sh k b hk).mono (fun _ _ => rfl) s.le rfl
  · rcases s.at_ k with ⟨i, o, q, a1, a2, a3, rfl, a5, a6, a7⟩ | ⟨a1, a2⟩
    · rw [a7] at hk; cases hk
    · rw [a2] at hk
      rcases s.at_ j with ⟨i, o, q, b1, b2, b3, rfl, b5, b6, b7⟩ | ⟨b1, b2⟩
      · exact absurd ⟨k, by rw [hk]; simp, he.symm⟩ (nw' b1 b2 b3 b5 b6).2
      · rw [b2] at hj
        exact inv.apart k b j pre b' hk hj he
  · rcases s.at_ k with ⟨i, o, q, a1, a2, a3, rfl, a5, a6, a7⟩ | ⟨a1, a2⟩
    · rcases s.at_ k' with ⟨i', o', q', b1, b2, b3, rfl, b5, b6, b7⟩ | ⟨b1, b2⟩
      · rw [hh.apart i o i' o' (hnew i o a1 a2 a3) a1 a3 (hnew i' o' b1 b2 b3) b1 b3 he]
      · rw [b2] at hk'
        exact absurd ⟨k', by rw [hk']; simp, he.symm⟩ (nw' a1 a2 a3 a5 a6).2
    · rw [a2] at hk
      rcases s.at_ k' with ⟨i', o', q', b1, b2, b3, rfl, b5, b6, b7⟩ | ⟨b1, b2⟩
      · exact absurd ⟨k, by rw [hk]; simp, he⟩ (nw' b1 b2 b3 b5 b6).2
      · rw [b2] at hk'
        exact inv.inj k pre b k' pre' b' hk hk' he
  · rcases s.at_ k with ⟨i, o, q, a1, a2, a3, rfl, a5, a6, a7⟩ | ⟨a1, a2⟩
    · have := s.mono (i + 1) (by omega) a2
      omega
    · rw [a2] at hk
      exact Nat.lt_of_lt_of_le (inv.lt k hk) s.le
  · rcases s.at_ k with ⟨i, o, q, a1, a2, a3, rfl, a5, a6, a7⟩ | ⟨a1, a2⟩
    · rw [a7] at hk
      simp only [HO.own.injEq] at hk
      omega
    · rw [a2] at hk
      exact Nat.le_trans (inv.pre k pr b hk) s.le
  · obtain ⟨k, hk, rfl⟩ := hb
    rcases s.at_ k with ⟨i, o, q, a1, a2, a3, rfl, a5, a6, a7⟩ | ⟨a1, a2⟩
    · exact .inr ⟨i, o, a1, a2, a3, rfl⟩
    · rw [a2] at hk
      exact .inl ⟨k, hk, rfl⟩
  · obtain ⟨k, pre, bd, hk, rfl⟩ := hb
    rcases s.at_ k with ⟨i, o, q, a1, a2, a3, rfl, a5, a6, a7⟩ | ⟨a1, a2⟩
    · exact .inr ⟨i, o, a1, a2, a3, rfl⟩
    · rw [a2] at hk
      exact .inl ⟨k, pre, bd, hk, rfl⟩
end
end
end Go.FM

/-! ## FnSched4 -/
namespace Go.FM
noncomputable section
variable [Env]
structure SI (Pr : Program) (D nt gl : Nat) (ops : Array Oper) (X : Nat → Prop) (x : Tc) (p : Nat) (g0 : Gm) (w0 : World) (g : Gm) (a : Act) (w : World) : Prop where
  done : Done ops X
  pos : Pos Pr D nt gl ops X p
  size : a.tmps.size = nt
  defers : a.defers = []
  heap : HeapOk Pr D nt gl ops X x (x.C ops.toList.length) p g w
  tmps : TmpsOk nt gl ops X x g (x.C ops.toList.length) a
  ag : ∀ k, k < x.C 0 ∨ x.C ops.toList.length ≤ k → g k = g0 k
  fr : ∀ b, b < w0.heap.size → ¬ Owns g0 (hp D (x.H 0)) b → w.heap[b]? = w0.heap[b]?
  ow : ∀ b, Owns g (hp D (x.H p)) b → w0.heap.size ≤ b ∨ Owns g0 (hp D (x.H 0)) b
  hs : ∀ b, Has g (hp D (x.H p)) b → w0.heap.size ≤ b ∨ Has g0 (hp D (x.H 0)) b
  nw : ∀ i o, X i → p ≤ i → IsNew Pr D nt gl ops x i o → w0.heap.size ≤ (g (x.C i)).b
  sz : w0.heap.size ≤ w.heap.size
  os : w.os = w0.os
  tape : w.tape = w0.tape
  out : w.output = w0.output
section
variable {Pr : Program} {D nt gl : Nat} {ops : Array Oper} {X : Nat → Prop} {x : Tc} {p : Nat} {g0 g g' : Gm} {w0 w w' : World} {a : Act} {j : Nat} {o : Oper} {u : Value}
theorem mono_C (hT : TrOk Pr D nt gl ops x ops.toList.length) : ∀ (k i : Nat), i + k ≤ ops.toList.length → x.C i ≤ x.C (i + k)
  | 0, i, _ => Nat.le_refl _
  | k + 1, i, h => by
    have ih := mono_C hT k i (Nat.le_of_succ_le h)
    have hlt : i + k < ops.toList.length := h
    exact Nat.le_trans ih (hT.step _ _ hlt (List.getElem?_eq_getElem hlt)).le
theorem le_C (hT : TrOk Pr D nt gl ops x ops.toList.length) {i k : Nat} (h : i ≤ k) (hk : k ≤ ops.toList.length) : x.C i ≤ x.C k := by
  have := mono_C hT (k - i) i (by omega)
  rw [show i + (k - i) = k by omega] at this
  exact this
theorem new_lt (hT : TrOk Pr D nt gl ops x ops.toList.length) {i k : Nat} {o : Oper} (hn : IsNew Pr D nt gl ops x i o) (h : i < k) (hk : k ≤ ops.toList.length) : x.C i < x.C k := by
  have hs := hT.step i o (List.getElem?_eq_some_iff.1 hn.1).1 hn.1
  obtain ⟨_, e, _⟩ := hs.al hn.2.1 hn.2.2
  have := le_C hT (i := i + 1) (k := k) h hk
  omega
theorem SI.light (hst : Stat Pr D nt gl ops) (hgl : GlOk nt gl) (hT : TrOk Pr D nt gl ops x ops.toList.length) (h : SI Pr D nt gl ops X x p g0 w0 g a w) (hr : Ready ops X j o) (he : ¬ IsEff Pr D nt gl ops j o) (hn : ¬ IsNew Pr D nt gl ops x j o)
    (hv : TRep g (x.C ops.toList.length) (x.V j) u) : SI Pr D nt gl ops (fun i => X i ∨ i = j) x p g0 w0 g (a.put o.dst u) w := by
  have uo : ∀ {o'}, ops.toList[j]? = some o' → o' = o := fun {o'} h => by have := hr.1; rw [h] at this; exact Option.some.inj this
  have keep : ∀ {i o'}, (X i ∨ i = j) → IsNew Pr D nt gl ops x i o' → X i := by
    intro i o' hi hnew
    rcases hi with hi | rfl
    · exact hi
    · have := uo hnew.1
      subst this
      exact absurd hnew hn
  refine ⟨hr.done h.done, ⟨h.pos.le, ?_, fun e oe hx hee => ?_⟩, by rw [put_size]; exact h.size, ?_, ⟨h.heap.main, fun i o' hi hp hnew => h.heap.new i o' (keep hi hnew) hp hnew, fun i o1 i' o2 hi h1 h2 hi' h3 h4 he => h.heap.apart i o1 i' o2 (keep hi h2) h1 h2 (keep hi' h4) h3 h4 he, fun k hk hnm => ?_⟩,
    h.tmps.put hst h.done hr hgl hT h.size hv, h.ag, h.fr, h.ow, h.hs, fun i o' hi hp hnew => h.nw i o' (keep hi hnew) hp hnew, h.sz, h.os, h.tape, h.out⟩
  · rcases h.pos.last with q | ⟨e, oe, q1, q2, q3⟩
    · exact .inl q
    · exact .inr ⟨e, oe, q1, .inl q2, q3⟩
  · rcases hx with hx | rfl
    · exact h.pos.all e oe hx hee
    · have := uo hee.1
      subst this
      exact absurd hee he
  · cases hd : o.dst <;> exact h.defers
  · obtain ⟨i, o', q1, q2, q3, q4⟩ := h.heap.ok k hk hnm
    exact ⟨i, o', .inl q1, q2, q3, q4⟩
theorem SI.before (hst : Stat Pr D nt gl ops) (h : SI Pr D nt gl ops X x p g0 w0 g a w) (hr : Ready ops X j o) (he : IsEff Pr D nt gl ops j o) :
    p ≤ j ∧ (∀ e o', p ≤ e → e < j → ¬ IsEff Pr D nt gl ops e o') ∧ (∀ i o', i < j → IsNew Pr D nt gl ops x i o' → X i) := by
  have uo : ∀ {o'}, ops.toList[j]? = some o' → o' = o := fun {o'} h => by have := hr.1; rw [h] at this; exact Option.some.inj this
  have eff : ∀ e o', e < j → IsEff Pr D nt gl ops e o' → X e := by
    intro e o' hlt hee
    rcases hst.pair e j o' o hee.1 hr.1 hlt with q | ⟨_, _, q⟩
    · exact hr.anc hst h.done q
    · exact absurd ⟨he.2, .inl hee.2⟩ q
  refine ⟨?_, fun e o' h1 h2 h3 => ?_, fun i o' hlt hn => ?_⟩
  · rcases h.pos.last with q | ⟨e, oe, q1, q2, q3⟩
    · omega
    · rcases Nat.lt_trichotomy e j with q | q | q
      · omega
      · subst q; exact absurd q2 hr.2.1
      · rcases hst.pair j e o oe hr.1 q3.1 q with q' | ⟨_, _, q'⟩
        · exact absurd (h.done.anc hst e q2 j q') hr.2.1
        · exact absurd ⟨q3.2, .inl he.2⟩ q'
  · have := h.pos.all e o' (eff e o' h2 h3) h3
    omega
  · rcases hst.pair i j o' o hn.1 hr.1 hlt with q | ⟨_, _, q⟩
    · exact hr.anc hst h.done q
    · exact absurd ⟨he.2, .inr hn.2.1⟩ q
theorem SI.eff (hst : Stat Pr D nt gl ops) (hgl : GlOk nt gl) (hT : TrOk Pr D nt gl ops x ops.toList.length) (h : SI Pr D nt gl ops X x p g0 w0 g a w) (hr : Ready ops X j o) (he : IsEff Pr D nt gl ops j o)
    (q1 : HOk D g' (x.H (j + 1)) (x.C (j + 1)) w') (q2 : Post g (hp D (x.H j)) (x.C j) w g' (hp D (x.H (j + 1))) (x.C (j + 1)) w') (hv : TRep g' (x.C (j + 1)) (x.V j) u) :
    SI Pr D nt gl ops (fun i => X i ∨ i = j) x (j + 1) g0 w0 g' (a.put o.dst u) w' := by
  have uo : ∀ {o'}, ops.toList[j]? = some o' → o' = o := fun {o'} h => by have := hr.1; rw [h] at this; exact Option.some.inj this
  have hjl : j < ops.toList.length := (List.getElem?_eq_some_iff.1 hr.1).1
  obtain ⟨hpj, hne, hnew⟩ := h.before hst hr he
  obtain ⟨m1, m2, m3, m4, m5⟩ := merge hT h.heap hpj (Nat.le_of_lt hjl) hne fun i o' _ h2 h3 => hnew i o' h2 h3
  have hc0 : x.C 0 ≤ x.C j := le_C hT (Nat.zero_le _) (Nat.le_of_lt hjl)
  have hcn : x.C (j + 1) ≤ x.C ops.toList.length := le_C hT hjl (Nat.le_refl _)
  have gap : ∀ k, x.C j ≤ k → k < x.C (j + 1) → ¬ Nm g (x.C ops.toList.length) k := by
    intro k h1 h2 hk
    obtain ⟨i, o', a1, a2, a3, a4⟩ := h.heap.ok k (Nat.le_trans m2 h1) hk
    have hil := (List.getElem?_eq_some_iff.1 a3.1).1
    rcases Nat.lt_trichotomy i j with q | q | q
    · have := new_lt hT a3 q (Nat.le_of_lt hjl); omega
    · subst q
      have := uo a3.1
      subst this
      have := a3.2.1
      rw [he.2] at this; cases this
    · have := le_C hT (i := j + 1) (k := i) q (Nat.le_of_lt hil)
      omega
  have agr : Agr (x.C ops.toList.length) g g' := by
    intro k hk
    refine q2.ag k ?_
    by_cases h1 : k < x.C j
    · exact .inl h1
    · by_cases h2 : k < x.C (j + 1)
      · exact absurd hk (gap k (by omega) h2)
      · exact .inr (by omega)
  have later : ∀ {i : Nat}, (X i ∨ i = j) → j + 1 ≤ i → X i := fun hi hle => by
    rcases hi with hi | hi
    · exact hi
    · omega
  have gk : ∀ {i o'}, X i → j + 1 ≤ i → IsNew Pr D nt gl ops x i o' → g' (x.C i) = g (x.C i) := by
    intro i o' hi hle hn
    have hil := (List.getElem?_eq_some_iff.1 hn.1).1
    exact q2.ag _ (.inr (le_C hT hle (Nat.le_of_lt hil)))
  have out : ∀ {i o'}, X i → j + 1 ≤ i → IsNew Pr D nt gl ops x i o' → ¬ Has g (hp D (x.H j)) (g (x.C i)).b := by
    intro i o' hi hle hn hh
    obtain ⟨q, e1, e2, e3⟩ := h.heap.new i o' hi (by omega) hn
    rcases m4 _ hh with hh | ⟨i', o2, b1, b2, b3, b4⟩
    · exact e3 hh
    · have := h.heap.apart i' o2 i o' (hnew i' o2 b2 b3) b1 b3 hi (by omega) hn b4
      omega
  have outO : ∀ {b}, ¬ Has g (hp D (x.H j)) b → ¬ Owns g (hp D (x.H j)) b := fun {b} hb ⟨k, pre, bd, hk, e⟩ => hb ⟨k, by rw [hk]; simp, e⟩
  have old : ∀ b, Owns g (hp D (x.H j)) b → w0.heap.size ≤ b ∨ Owns g0 (hp D (x.H 0)) b := by
    intro b hb
    rcases m5 b hb with hb | ⟨i, o', b1, b2, b3, b4⟩
    · exact h.ow b hb
    · exact .inl (by rw [← b4]; exact h.nw i o' (hnew i o' b2 b3) b1 b3)
  refine ⟨hr.done h.done, ⟨hjl, .inr ⟨j, o, rfl, .inr rfl, he⟩, fun e oe hx hee => ?_⟩, by rw [put_size]; exact h.size, ?_, ⟨q1, fun i o' hi hle hn => ?_, fun i o1 i' o2 hi h1 h2 hi' h3 h4 e => ?_, fun k hk hnm => ?_⟩,
    (h.tmps.mono' agr (Nat.le_refl _)).put hst h.done hr hgl hT h.size (hv.mono (fun _ _ => rfl) hcn), fun k hk => ?_, fun b hb hno => ?_, fun b hb => ?_, fun b hb => ?_, fun i o' hi hle hn => ?_, Nat.le_trans h.sz q2.sz, q2.os.trans h.os, q2.tape.trans h.tape, q2.out.trans h.out⟩
  · rcases hx with hx | rfl
    · have := h.pos.all e oe hx hee; omega
    · omega
  · cases hd : o.dst <;> exact h.defers
  · have hx := later hi hle
    obtain ⟨q, e1, e2, e3⟩ := h.heap.new i o' hx (by omega) hn
    have hil := (List.getElem?_eq_some_iff.1 hn.1).1
    refine ⟨q, e1, ?_, fun hh => ?_⟩
    · rw [gk hx hle hn]
      have hle2 : x.C i + 1 ≤ x.C ops.toList.length := new_lt hT hn hil (Nat.le_refl _)
      exact e2.mono' (fun k hk => agr k ⟨by have := hk.1; omega, hk.2⟩) (Nat.le_refl _) (q2.fr _ e2.lt (outO (out hx hle hn)))
    · rw [gk hx hle hn] at hh
      rcases q2.hs _ hh with q' | q'
      · have := e2.lt; omega
      · exact out hx hle hn q'
  · have hx := later hi h1
    have hx' := later hi' h3
    rw [gk hx h1 h2, gk hx' h3 h4] at e
    exact h.heap.apart i o1 i' o2 hx (by omega) h2 hx' (by omega) h4 e
  · have hgk : g' k = g k := q2.ag k (.inr hk)
    have hnm' : Nm g (x.C ops.toList.length) k := ⟨hnm.1, by rw [← hgk]; exact hnm.2⟩
    obtain ⟨i, o', a1, a2, a3, a4⟩ := h.heap.ok k (by have := q2.le; omega) hnm'
    refine ⟨i, o', .inl a1, ?_, a3, a4⟩
    rcases Nat.lt_trichotomy i j with q | q | q
    · have := new_lt hT a3 q (Nat.le_of_lt hjl)
      have := q2.le
      omega
    · subst q; exact absurd a1 hr.2.1
    · exact q
  · rw [q2.ag k (by have := q2.le; omega)]
    exact h.ag k hk
  · rw [q2.fr b (Nat.lt_of_lt_of_le hb h.sz) fun ho => ?_]
    · exact h.fr b hb hno
    · rcases old b ho with q | q
      · omega
      · exact hno q
  · rcases q2.ow b hb with q | q
    · exact .inl (Nat.le_trans h.sz q)
    · exact old b q
  · rcases q2.hs b hb with q | q
    · exact .inl (Nat.le_trans h.sz q)
    · rcases m4 b q with q | ⟨i, o', b1, b2, b3, b4⟩
      · exact h.hs b q
      · exact .inl (by rw [← b4]; exact h.nw i o' (hnew i o' b2 b3) b1 b3)
  · have hx := later hi hle
    rw [gk hx hle hn]
    exact h.nw i o' hx (by omega) hn
end
end
end Go.FM

/-! ## FnSched5 -/
namespace Go.FM
noncomputable section
variable [Env]
section
variable {Pr : Program} {D nt gl : Nat} {ops : Array Oper} {X : Nat → Prop} {x : Tc} {p : Nat} {g0 g g' : Gm} {w0 w w' : World} {a : Act} {j : Nat} {o : Oper} {u : Value}
theorem hp_nil (D k : Nat) : hp D .nil k = .no := by
  unfold hp
  split
  · exact get_nil D k
  · rfl
theorem HInv.congr {h : Nat → HO} {c : Nat} (hi : HInv g h c w) (ha : ∀ k, k < c → g' k = g k) (hw : ∀ b, b < w.heap.size → w'.heap[b]? = w.heap[b]?) : HInv g' h c w' where
  own := fun k pre b hk => by
    have hb := hi.own k pre b hk
    rw [ha k (hi.lt k (by rw [hk]; simp))]
    exact hb.mono ha (Nat.le_refl _) (hw _ hb.lt)
  sh := fun k b hk => by
    have hb := hi.sh k b hk
    rw [ha k (hi.lt k (by rw [hk]; simp))]
    exact hb.mono ha (Nat.le_refl _) (hw _ hb.lt)
  apart := fun k b j pre b' hk hj he => by
    rw [ha k (hi.lt k (by rw [hk]; simp)), ha j (hi.lt j (by rw [hj]; simp))] at he
    exact hi.apart k b j pre b' hk hj he
  inj := fun k pre b k' pre' b' hk hk' he => by
    rw [ha k (hi.lt k (by rw [hk]; simp)), ha k' (hi.lt k' (by rw [hk']; simp))] at he
    exact hi.inj k pre b k' pre' b' hk hk' he
  lt := hi.lt
  pre := hi.pre
theorem Has.lt {h : Nat → HO} {c : Nat} (hi : HInv g h c w) {b : Nat} (hb : Has g h b) : b < w.heap.size := by
  obtain ⟨k, hk, rfl⟩ := hb
  cases ho : h k with
  | no => exact absurd ho hk
  | own pre bd => exact (hi.own k pre bd ho).lt
  | sh bd => exact (hi.sh k bd ho).lt
theorem SI.new (hst : Stat Pr D nt gl ops) (hgl : GlOk nt gl) (hT : TrOk Pr D nt gl ops x ops.toList.length) (h : SI Pr D nt gl ops X x p g0 w0 g a w) (hr : Ready ops X j o) (hn : IsNew Pr D nt gl ops x j o) {q : HB}
    (hH : x.H (j + 1) = HT.set D (x.C j) (.own 0 q) (x.H j)) (q1 : HOk D g' (HT.set D (x.C j) (.own 0 q) .nil) (x.C j + 1) w') (q2 : Post g (hp D .nil) (x.C j) w g' (hp D (HT.set D (x.C j) (.own 0 q) .nil)) (x.C j + 1) w')
    (hv : TRep g' (x.C j + 1) (x.V j) u) : SI Pr D nt gl ops (fun i => X i ∨ i = j) x p g0 w0 g' (a.put o.dst u) w' := by
  have uo : ∀ {o'}, ops.toList[j]? = some o' → o' = o := fun {o'} h => by have := hr.1; rw [h] at this; exact Option.some.inj this
  have hjl : j < ops.toList.length := (List.getElem?_eq_some_iff.1 hr.1).1
  have hcn : x.C j + 1 ≤ x.C ops.toList.length := new_lt hT hn hjl (Nat.le_refl _)
  have hc0 : x.C 0 ≤ x.C j := le_C hT (Nat.zero_le _) (Nat.le_of_lt hjl)
  have hpj : p ≤ j := by
    rcases h.pos.last with e | ⟨e, oe, e1, e2, e3⟩
    · omega
    · rcases Nat.lt_trichotomy e j with q | q | q
      · omega
      · subst q; exact absurd e2 hr.2.1
      · rcases hst.pair j e o oe hr.1 e3.1 q with q' | ⟨_, _, q'⟩
        · exact absurd (h.done.anc hst e e2 j q') hr.2.1
        · exact absurd ⟨e3.2, .inr hn.2.1⟩ q'
  have hcp : x.C p ≤ x.C j := le_C hT hpj (Nat.le_of_lt hjl)
  have noO : ∀ b, ¬ Owns g (hp D .nil) b := fun b ⟨k, pre, bd, hk, _⟩ => by rw [hp_nil] at hk; cases hk
  have same : ∀ b, b < w.heap.size → w'.heap[b]? = w.heap[b]? := fun b hb => q2.fr b hb (noO b)
  have gk : ∀ k, k ≠ x.C j → g' k = g k := fun k hk => q2.ag k (by omega)
  have ne : ∀ {i o'}, X i → IsNew Pr D nt gl ops x i o' → x.C i ≠ x.C j := by
    intro i o' hi hni
    have hil := (List.getElem?_eq_some_iff.1 hni.1).1
    rcases Nat.lt_trichotomy i j with q | q | q
    · have := new_lt hT hni q (Nat.le_of_lt hjl); omega
    · subst q; exact absurd hi hr.2.1
    · have := new_lt hT hn q (Nat.le_of_lt hil); omega
  have agr : Agr (x.C ops.toList.length) g g' := by
    intro k hk
    refine gk k fun e => ?_
    subst e
    obtain ⟨i, o', a1, a2, a3, a4⟩ := h.heap.ok _ hcp hk
    exact ne a1 a3 a4
  have hown : hp D (HT.set D (x.C j) (.own 0 q) .nil) (x.C j) = .own 0 q := by
    rw [hp_set (deep_nil D) q1.le]
    simp [upd]
  have hb0 := q1.inv.own (x.C j) 0 q hown
  have hfresh : w.heap.size ≤ (g' (x.C j)).b := by
    rcases q2.ow _ ⟨x.C j, 0, q, hown, rfl⟩ with e | e
    · exact e
    · exact absurd e (noO _)
  have lowg : ∀ k, k < x.C p → g' k = g k := fun k hk => gk k (by omega)
  have hasb : ∀ b, Has g' (hp D (x.H p)) b → Has g (hp D (x.H p)) b := by
    intro b ⟨k, hk, e⟩
    exact ⟨k, hk, by rw [← lowg k (h.heap.main.inv.lt k hk)]; exact e⟩
  have spl : ∀ {i o'}, (X i ∨ i = j) → IsNew Pr D nt gl ops x i o' → X i ∨ (i = j ∧ o' = o) := by
    intro i o' hi hni
    rcases hi with hi | hi
    · exact .inl hi
    · subst hi; exact .inr ⟨rfl, uo hni.1⟩
  have blt : ∀ {i o'}, X i → p ≤ i → IsNew Pr D nt gl ops x i o' → (g (x.C i)).b < w.heap.size := by
    intro i o' hi hp hni
    obtain ⟨q', e1, e2, e3⟩ := h.heap.new i o' hi hp hni
    exact e2.lt
  refine ⟨hr.done h.done, ⟨h.pos.le, ?_, fun e oe hx hee => ?_⟩, by rw [put_size]; exact h.size, ?_, ⟨⟨h.heap.main.deep, h.heap.main.le, h.heap.main.inv.congr lowg same⟩, fun i o' hi hp hni => ?_, fun i o1 i' o2 hi h1 h2 hi' h3 h4 e => ?_, fun k hk hnm => ?_⟩,
    (h.tmps.mono' agr (Nat.le_refl _)).put hst h.done hr hgl hT h.size (hv.mono (fun _ _ => rfl) hcn), fun k hk => ?_, fun b hb hno => ?_, fun b hb => ?_, fun b hb => h.hs b (hasb b hb), fun i o' hi hp hni => ?_, Nat.le_trans h.sz q2.sz, q2.os.trans h.os, q2.tape.trans h.tape, q2.out.trans h.out⟩
  · rcases h.pos.last with q | ⟨e, oe, q1, q2, q3⟩
    · exact .inl q
    · exact .inr ⟨e, oe, q1, .inl q2, q3⟩
  · rcases hx with hx | hx
    · exact h.pos.all e oe hx hee
    · subst hx
      have := uo hee.1
      subst this
      have := hee.2
      rw [hn.2.1] at this; cases this
  · cases hd : o.dst <;> exact h.defers
  · rcases spl hi hni with hx | ⟨rfl, rfl⟩
    · obtain ⟨q', e1, e2, e3⟩ := h.heap.new i o' hx hp hni
      have hil := (List.getElem?_eq_some_iff.1 hni.1).1
      have hle2 : x.C i + 1 ≤ x.C ops.toList.length := new_lt hT hni hil (Nat.le_refl _)
      rw [gk _ (ne hx hni)]
      exact ⟨q', e1, e2.mono' (fun k hk => agr k ⟨by have := hk.1; omega, hk.2⟩) (Nat.le_refl _) (same _ e2.lt), fun hh => e3 (hasb _ hh)⟩
    · refine ⟨q, hH, hb0, fun hh => ?_⟩
      have := Has.lt h.heap.main.inv (hasb _ hh)
      omega
  · rcases spl hi h2 with hx | ⟨rfl, rfl⟩ <;> rcases spl hi' h4 with hx' | ⟨rfl, rfl⟩
    · rw [gk _ (ne hx h2), gk _ (ne hx' h4)] at e
      exact h.heap.apart i o1 i' o2 hx h1 h2 hx' h3 h4 e
    · rw [gk _ (ne hx h2)] at e
      have := blt hx h1 h2; omega
    · rw [gk _ (ne hx' h4)] at e
      have := blt hx' h3 h4; omega
    · rfl
  · by_cases hkc : k = x.C j
    · exact ⟨j, o, .inr rfl, hpj, hn, hkc.symm⟩
    · have hnm' : Nm g (x.C ops.toList.length) k := ⟨hnm.1, by rw [← gk k hkc]; exact hnm.2⟩
      obtain ⟨i, o', a1, a2, a3, a4⟩ := h.heap.ok k hk hnm'
      exact ⟨i, o', .inl a1, a2, a3, a4⟩
  · rw [gk k (by omega)]
    exact h.ag k hk
  · rw [same b (Nat.lt_of_lt_of_le hb h.sz)]
    exact h.fr b hb hno
  · obtain ⟨k, pre, bd, hk, e⟩ := hb
    refine h.ow b ⟨k, pre, bd, hk, ?_⟩
    rw [← lowg k (h.heap.main.inv.lt k (by rw [hk]; simp))]; exact e
  · rcases spl hi hni with hx | ⟨rfl, rfl⟩
    · rw [gk _ (ne hx hni)]
      exact h.nw i o' hx hp hni
    · exact Nat.le_trans h.sz hfresh
end
end
end Go.FM

/-! ## FnSched6 -/
namespace Go.FM
noncomputable section
variable [Env]
section
variable {g : Gm} {c c' : Nat} {v : HV} {u : Value}
theorem CRep.lower (hl : ∀ k, Nm g c k → Nm g c' k) (h : CRep g c v u) : CRep g c' v u := by
  cases v with
  | ptr k off => exact ⟨hl k h.1, h.2⟩
  | fn f caps => exact ⟨fun p hp => hl _ (h.1 p hp), h.2⟩
  | slc k o n es cl => exact ⟨hl k h.1, h.2⟩
  | mp k => exact ⟨hl k h.1, h.2⟩
  | _ => exact h
theorem CReps.lower {cs : List HV} {vs : List Value} (hl : ∀ k, Nm g c k → Nm g c' k) (h : CReps g c cs vs) : CReps g c' cs vs := ⟨h.1, fun i x u hx hu => ⟨(h.2 i x u hx hu).1.lower hl, (h.2 i x u hx hu).2⟩⟩
theorem VRep.lower (hl : ∀ k, Nm g c k → Nm g c' k) (h : VRep g c v u) : VRep g c' v u := by
  cases v with
  | agg cs => obtain ⟨vs, h1, h2⟩ := h; exact ⟨vs, h1, h2.lower hl⟩
  | _ => unfold VRep at h ⊢; exact CRep.lower hl h
theorem TRep.lower (hl : ∀ k, Nm g c k → Nm g c' k) (h : TRep g c v u) : TRep g c' v u := by
  cases v with
  | tup as => obtain ⟨vs, h1, h2, h3⟩ := h; exact ⟨vs, h1, h2, fun i x u hx hu => (h3 i x u hx hu).lower hl⟩
  | _ => unfold TRep at h ⊢; exact VRep.lower hl h
theorem CRep.under (hu : underC c' v = true) (h : CRep g c v u) : CRep g c' v u := by
  cases v with
  | ptr k off => exact ⟨⟨Nat.le_of_ble_eq_true hu, h.1.2⟩, h.2⟩
  | fn f caps =>
    simp only [underC, List.all_eq_true] at hu
    exact ⟨fun p hp => ⟨Nat.le_of_ble_eq_true (hu p hp), (h.1 p hp).2⟩, h.2⟩
  | slc k o n es cl => exact ⟨⟨Nat.le_of_ble_eq_true hu, h.1.2⟩, h.2⟩
  | mp k => exact ⟨⟨Nat.le_of_ble_eq_true hu, h.1.2⟩, h.2⟩
  | _ => exact h
theorem TRep.under (hu : underV c' v = true) (h : TRep g c v u) : TRep g c' v u := by
  cases v with
  | agg cs =>
    obtain ⟨vs, h1, h2⟩ := h
    simp only [underV, List.all_eq_true] at hu
    exact ⟨vs, h1, h2.1, fun i x u hx hu' => ⟨(h2.2 i x u hx hu').1.under (hu x (List.mem_of_getElem? hx)), (h2.2 i x u hx hu').2⟩⟩
  | tup as => cases hu
  | _ => unfold TRep VRep at h ⊢; exact CRep.under hu h
end
section
variable {Pr : Program} {D nt gl : Nat} {ops : Array Oper} {X : Nat → Prop} {x : Tc} {p : Nat} {g0 g g' : Gm} {w0 w w' : World} {a : Act} {j : Nat} {o : Oper} {u : Value}
theorem laterN_get {A : List Nat} {i : Nat} : ∀ {l : List Kd} {j0 : Nat}, laterN A i j0 l = false → ∀ j, l[j]? = some .new → i < j0 + j → Nat.testBit (natAt A (j0 + j)) i = true
  | [], j0, _, j, hg, _ => by simp at hg
  | k :: r, j0, h, 0, hg, hlt => by
    simp at hg; subst hg
    simp only [laterN, Bool.or_eq_false_iff, Bool.and_eq_false_iff, Bool.not_eq_false'] at h
    rcases h.1 with h | h
    · have : Nat.blt i j0 = true := Nat.ble_eq_true_of_le hlt
      rw [this] at h; cases h
    · exact h
  | k :: r, j0, h, j + 1, hg, hlt => by
    have hr : laterN A i (j0 + 1) r = false := by
      cases k with
      | new => simp only [laterN, Bool.or_eq_false_iff] at h; exact h.2
      | _ => exact h
    have := laterN_get hr j (by simpa using hg) (by omega)
    rw [show j0 + (j + 1) = j0 + 1 + j by omega]; exact this
theorem mark_get : ∀ (m e : Nat) (ks : List Kd), e < m → effAt ks e = true → e + 1 ∈ marks ks m
  | 0, e, ks, h, _ => absurd h (Nat.not_lt_zero e)
  | m + 1, e, ks, h, he => by
    simp only [marks]
    rcases Nat.lt_or_ge e m with q | q
    · have := mark_get m e ks q he
      split
      · exact List.mem_cons_of_mem _ this
      · exact this
    · have : e = m := by omega
      subst this
      rw [if_pos he]; exact List.mem_cons_self
theorem mark_zero : ∀ (m : Nat) (ks : List Kd), 0 ∈ marks ks m
  | 0, ks => by simp [marks]
  | m + 1, ks => by
    simp only [marks]
    split
    · exact List.mem_cons_of_mem _ (mark_zero m ks)
    · exact mark_zero m ks
theorem Pos.mark (hp : Pos Pr D nt gl ops X p) : p ∈ marks (kdsOf Pr D nt gl ops) ops.toList.length := by
  rcases hp.last with rfl | ⟨e, oe, rfl, _, he⟩
  · exact mark_zero _ _
  · exact mark_get _ _ _ hp.le (by rw [eff_get he.1, he.2]; rfl)
theorem idx_mem {q : Nat} : ∀ {l : List Nat} {j : Nat}, idx q l = some j → q ∈ l
  | [], j, h => by simp [idx] at h
  | y :: r, j, h => by
    rw [idx_cons] at h
    split at h
    · rename_i e; rw [e]; exact List.mem_cons_self
    · obtain ⟨j', hj, _⟩ := Option.map_eq_some_iff.1 h
      exact List.mem_cons_of_mem _ (idx_mem hj)
theorem reg_lt (hT : TrOk Pr D nt gl ops x ops.toList.length) : ∀ m, m ≤ ops.toList.length → ∀ q, q ∈ regAt ops m → q < nt
  | 0, _, q, h => by simp [regAt, regOps] at h
  | m + 1, hm, q, h => by
    have hlt : m < ops.toList.length := hm
    have ho := List.getElem?_eq_getElem hlt
    rw [regAt_succ ho] at h
    have hs := (hT.step m _ hlt ho).dst
    cases hd : (ops.toList[m]).dst with
    | none => rw [hd] at h; exact reg_lt hT m (Nat.le_of_lt hlt) q h
    | some d =>
      rw [hd] at h hs
      rcases List.mem_cons.1 h with rfl | h
      · exact Nat.le_of_ble_eq_true hs
      · exact reg_lt hT m (Nat.le_of_lt hlt) q h
theorem SI.counts (hst : Stat Pr D nt gl ops) (h : SI Pr D nt gl ops X x p g0 w0 g a w) (hr : Ready ops X j o) :
    cnt (kdsOf Pr D nt gl ops) j ≤ cnt (kdsOf Pr D nt gl ops) p + backAt Pr D nt gl ops j ∧ cnt (kdsOf Pr D nt gl ops) p ≤ cnt (kdsOf Pr D nt gl ops) j + fwdAt Pr D nt gl ops j := by
  have ise : ∀ {i}, (kdsOf Pr D nt gl ops)[i]? = some .eff → ∃ oi, IsEff Pr D nt gl ops i oi := by
    intro i hi
    have : ∃ oi, ops.toList[i]? = some oi := by
      cases ho : ops.toList[i]? with
      | some oi => exact ⟨oi, rfl⟩
      | none =>
        unfold kdsOf at hi
        rw [List.getElem?_map, fopsOf_get, ho] at hi
        cases hi
    obtain ⟨oi, ho⟩ := this
    rw [kds_get ho] at hi
    exact ⟨oi, ho, Option.some.inj hi⟩
  have hb : ∀ {a b : Nat}, a < b → Nat.blt a b = true := fun h => Nat.ble_eq_true_of_le h
  have hb' : ∀ {a b : Nat}, Nat.blt a b = true → a < b := fun h => Nat.le_of_ble_eq_true h
  have lo : cntE (fun i => Nat.testBit (natAt (ancOf ops) j) i) 0 (kdsOf Pr D nt gl ops) ≤ cnt (kdsOf Pr D nt gl ops) p := by
    rw [← cntE_cnt]
    refine cntE_mono _ 0 fun k hk hp => ?_
    simp only [Nat.zero_add] at hp ⊢
    obtain ⟨oi, he⟩ := ise hk
    exact hb (h.pos.all k oi (hr.anc hst h.done hp) he)
  have hi : cnt (kdsOf Pr D nt gl ops) p ≤ cntE (fun i => !(Nat.testBit (natAt (ancOf ops) i) j)) 0 (kdsOf Pr D nt gl ops) := by
    rw [← cntE_cnt]
    refine cntE_mono _ 0 fun k hk hp => ?_
    simp only [Nat.zero_add] at hp ⊢
    obtain ⟨oi, he⟩ := ise hk
    have hkp := hb' hp
    have hX : X k := by
      rcases h.pos.last with e | ⟨e, oe, e1, e2, e3⟩
      · omega
      · rcases Nat.lt_or_ge k e with q | q
        · rcases hst.pair k e oi oe he.1 e3.1 q with q' | ⟨_, _, q'⟩
          · exact h.done.anc hst e e2 k q'
          · exact absurd ⟨e3.2, .inl he.2⟩ q'
        · rw [show k = e by omega]; exact e2
    cases hbit : Nat.testBit (natAt (ancOf ops) k) j with
    | false => rfl
    | true => exact absurd (h.done.anc hst k hX j hbit) hr.2.1
  have cj := cntE_cnt (kdsOf Pr D nt gl ops) j
  unfold backAt fwdAt
  rw [cj]
  simp only [Nat.sub_eq] at *
  constructor <;> omega
theorem SI.below (hst : Stat Pr D nt gl ops) (hT : TrOk Pr D nt gl ops x ops.toList.length) (h : SI Pr D nt gl ops X x p g0 w0 g a w) (hr : Ready ops X j o) (hpj : p ≤ j) (hl : laterN (ancOf ops) j 0 (kdsOf Pr D nt gl ops) = false) :
    ∀ k, Nm g (x.C ops.toList.length) k → Nm g (x.C j) k := by
  intro k hk
  have hjl : j < ops.toList.length := (List.getElem?_eq_some_iff.1 hr.1).1
  refine ⟨?_, hk.2⟩
  rcases Nat.lt_or_ge k (x.C p) with q | q
  · have := le_C hT hpj (Nat.le_of_lt hjl); omega
  · obtain ⟨i, o', a1, a2, a3, rfl⟩ := h.heap.ok k q hk
    rcases Nat.lt_trichotomy i j with q | q | q
    · exact new_lt hT a3 q (Nat.le_of_lt hjl)
    · subst q; exact absurd a1 hr.2.1
    · have := laterN_get hl i (by rw [kds_get a3.1, a3.2.1]) (by omega)
      simp only [Nat.zero_add] at this
      exact absurd (h.done.anc hst i a1 j this) hr.2.1
end
end
end Go.FM

/-! ## FnSched7 -/
namespace Go.FM
noncomputable section
variable [Env]
section
variable {Pr : Program} {D nt gl : Nat} {ops : Array Oper} {X : Nat → Prop} {x : Tc} {p : Nat} {g0 g g' : Gm} {w0 w w' : World} {a : Act} {j : Nat} {o : Oper} {u : Value} {cl : Cl}
theorem SI.opnd (hst : Stat Pr D nt gl ops) (hgl : GlOk nt gl) (hT : TrOk Pr D nt gl ops x ops.toList.length) (h : SI Pr D nt gl ops X x p g0 w0 g a w) (hr : Ready ops X j o) {q : Nat} (hu : q ∈ usesOf ops o) :
    TRep g (x.C ops.toList.length) ((Go.FM.opnd gl (regAt ops j) (.tmp q)).ev (x.T j) (x.F j)) (a.tmps.getD q undef) := by
  have hjl : j < ops.toList.length := (List.getElem?_eq_some_iff.1 hr.1).1
  by_cases hq : q < nt
  · exact (h.tmps.reads hst h.done hr hgl hT hq hu).opnd
  · have e : Go.FM.opnd gl (regAt ops j) (.tmp q) = .c .dead := by
      unfold Go.FM.opnd
      simp only
      cases hi : idx q (regAt ops j) with
      | some k => exact absurd (reg_lt hT j (Nat.le_of_lt hjl) q (idx_mem hi)) hq
      | none =>
        cases hb : Nat.testBit gl q with
        | true => exact absurd (hgl.2 q hb) hq
        | false => rfl
    rw [e]
    exact trivial
theorem SI.opr (hst : Stat Pr D nt gl ops) (hgl : GlOk nt gl) (hT : TrOk Pr D nt gl ops x ops.toList.length) (h : SI Pr D nt gl ops X x p g0 w0 g a w) (hr : Ready ops X j o) :
    Opr gl (regAt ops j) g (x.C ops.toList.length) (x.T j) (x.F j) a.eval o.op := by
  intro y hy
  cases y with
  | tmp q =>
    refine h.opnd hst hgl hT hr ?_
    unfold usesOf
    exact List.mem_append_left _ (List.mem_filterMap.2 ⟨.tmp q, by simpa using hy, rfl⟩)
  | const v => exact TRep.of_val (constV_ok v)
  | func fn => exact ⟨fun p hp => by simp at hp, by simp [Act.eval]⟩
  | global n => exact trivial
theorem SI.guard (hst : Stat Pr D nt gl ops) (hgl : GlOk nt gl) (hT : TrOk Pr D nt gl ops x ops.toList.length) (h : SI Pr D nt gl ops X x p g0 w0 g a w) (hr : Ready ops X j o) :
    Region.wanted o (yielded ops a.tmps) = x.B j := by
  have hjl : j < ops.toList.length := (List.getElem?_eq_some_iff.1 hr.1).1
  refine guard_ok (hT.step j o hjl hr.1).grd fun k want q h1 h2 => h.opnd hst hgl hT hr ?_
  unfold usesOf
  rw [h1]
  simp only
  rw [h2]
  simp
theorem SI.oprC (hst : Stat Pr D nt gl ops) (hgl : GlOk nt gl) (hT : TrOk Pr D nt gl ops x ops.toList.length) (h : SI Pr D nt gl ops X x p g0 w0 g a w) (hr : Ready ops X j o) (hpj : p ≤ j)
    (hk : kdF (foAt Pr D nt gl ops j o) = .new ∨ kdF (foAt Pr D nt gl ops j o) = .eff) : Opr gl (regAt ops j) g (x.C j) (x.T j) (x.F j) a.eval o.op := by
  have hjl : j < ops.toList.length := (List.getElem?_eq_some_iff.1 hr.1).1
  have hc := (hT.step j o hjl hr.1).chk hk
  intro y hy
  have hy1 := h.opr hst hgl hT hr y hy
  unfold chkAt at hc
  cases hl : laterN (ancOf ops) j 0 (kdsOf Pr D nt gl ops) with
  | false => exact hy1.lower (h.below hst hT hr hpj hl)
  | true =>
    rw [hl, if_pos rfl, evs_eq] at hc
    simp only [underA, List.all_eq_true, List.mem_map] at hc
    refine hy1.under (hc _ ⟨_, ?_, rfl⟩)
    exact List.mem_map.2 ⟨y, by simpa using hy, rfl⟩
theorem HOk.nil {c : Nat} (hc : c ≤ 4 ^ D) : HOk D g .nil c w :=
  ⟨deep_nil D, hc, ⟨fun k pre b hk => (by rw [hp_nil] at hk; cases hk), fun k b hk => (by rw [hp_nil] at hk; cases hk), fun k b j pre b' hk => (by rw [hp_nil] at hk; cases hk), fun k pre b k' pre' b' hk => (by rw [hp_nil] at hk; cases hk), fun k hk => absurd (hp_nil D k) hk, fun k p b hk => (by rw [hp_nil] at hk; cases hk)⟩⟩
theorem HOk.up {h : HT} {c c' : Nat} (hi : HOk D g h c w) (hc : c ≤ c') (hc' : c' ≤ 4 ^ D) : HOk D g h c' w :=
  ⟨hi.deep, hc', ⟨fun k pre b hk => (hi.inv.own k pre b hk).mono (fun _ _ => rfl) hc rfl, fun k b hk => (hi.inv.sh k b hk).mono (fun _ _ => rfl) hc rfl, hi.inv.apart, hi.inv.inj, fun k hk => Nat.lt_of_lt_of_le (hi.inv.lt k hk) hc, fun k p b hk => Nat.le_trans (hi.inv.pre k p b hk) hc⟩⟩
theorem SI.step (hcl : ClOk Pr D cl) (hst : Stat Pr D nt gl ops) (hgl : GlOk nt gl) (hT : TrOk Pr D nt gl ops x ops.toList.length) (htop : x.C ops.toList.length ≤ 4 ^ D) (h : SI Pr D nt gl ops X x p g0 w0 g a w) (hr : Ready ops X j o)
    {next : Act → World → Prop} {Q : Exit → Act → World → Prop} (hn : ∀ p' g' a' w', SI Pr D nt gl ops (fun i => X i ∨ i = j) x p' g0 w0 g' a' w' → next a' w') :
    (x.B j = true → o.wp Pr a w next Q) ∧ (x.B j = false → next (a.put o.dst undef) w) := by
  have hjl : j < ops.toList.length := (List.getElem?_eq_some_iff.1 hr.1).1
  have hs := hT.step j o hjl hr.1
  have hmain := h.heap.main
  have hcp : ∀ {m}, m ≤ ops.toList.length → x.C m ≤ x.C ops.toList.length := fun hm => le_C hT hm (Nat.le_refl _)
  have light : ∀ {hh : HT}, kdF (foAt Pr D nt gl ops j o) = .pure ∨ kdF (foAt Pr D nt gl ops j o) = .read → x.B j = true → valG (foAt Pr D nt gl ops j o) (x.T j) (x.F j) hh = x.V j → HOk D g hh (x.C ops.toList.length) w → o.wp Pr a w next Q := by
    intro hh hk hb hv hok
    have hg := hs.grd
    rw [hb] at hg
    obtain ⟨u, hrun, hrep⟩ := light_at hcl (light_kd.2 hk) (by rw [show valG (compG Pr D ops nt gl (regAt ops j) o) (x.T j) (x.F j) hh = x.V j from hv]; exact hs.live) hg (x.C ops.toList.length) a w g (h.opr hst hgl hT hr) hok
    unfold Oper.wp
    rw [hrun]
    refine hn p g _ _ (h.light hst hgl hT hr (fun e => ?_) (fun e => ?_) ?_)
    · have := e.2; rcases hk with hk | hk <;> rw [hk] at this <;> cases this
    · have := e.2.1; rcases hk with hk | hk <;> rw [hk] at this <;> cases this
    · rw [← hv]; exact hrep
  constructor
  · intro hb
    cases hk : kdF (foAt Pr D nt gl ops j o) with
    | pure =>
      refine light (hh := .nil) (.inl hk) hb ?_ (HOk.nil htop)
      rw [(hs.light (light_kd.2 (.inl hk))).1]
      exact valG_pure hk _ _
    | read =>
      obtain ⟨c1, c2⟩ := h.counts hst hr
      exact light (hh := x.H p) (.inr hk) hb (hT.read j o hjl hr.1 hk p h.pos.mark c1 c2) (hmain.up (hcp h.pos.le) htop)
    | new =>
      obtain ⟨q, e1, e2, e3, e4⟩ := hs.al hk hb
      have hnew : IsNew Pr D nt gl ops x j o := ⟨hr.1, hk, hb⟩
      have hpj : p ≤ j := by
        rcases h.pos.last with e | ⟨e, oe, f1, f2, f3⟩
        · omega
        · rcases Nat.lt_trichotomy e j with q | q | q
          · omega
          · subst q; exact absurd f2 hr.2.1
          · rcases hst.pair j e o oe hr.1 f3.1 q with q' | ⟨_, _, q'⟩
            · exact absurd (h.done.anc hst e f2 j q') hr.2.1
            · exact absurd ⟨f3.2, .inr hk⟩ q'
      exact e4 a w g (h.oprC hst hgl hT hr hpj (.inl hk)) (HOk.nil (Nat.le_of_lt e2)) next Q fun u w' g' q1 q2 q3 => hn p g' _ _ (h.new hst hgl hT hr hnew e3 q1 q2 q3)
    | eff =>
      have he : IsEff Pr D nt gl ops j o := ⟨hr.1, hk⟩
      obtain ⟨hpj, hne, hnew⟩ := h.before hst hr he
      obtain ⟨m1, _⟩ := merge hT h.heap hpj (Nat.le_of_lt hjl) hne fun i o' _ h2 h3 => hnew i o' h2 h3
      exact hs.on hb a w g (h.oprC hst hgl hT hr hpj (.inr hk)) m1 next Q fun u w' g' q1 q2 q3 => hn (j + 1) g' _ _ (h.eff hst hgl hT hr he q1 q2 q3)
  · intro hb
    obtain ⟨e1, e2, e3⟩ := hs.off hb
    cases hk : kdF (foAt Pr D nt gl ops j o) with
    | eff =>
      have he : IsEff Pr D nt gl ops j o := ⟨hr.1, hk⟩
      obtain ⟨hpj, hne, hnew⟩ := h.before hst hr he
      obtain ⟨m1, _⟩ := merge hT h.heap hpj (Nat.le_of_lt hjl) hne fun i o' _ h2 h3 => hnew i o' h2 h3
      refine hn (j + 1) g _ _ (h.eff hst hgl hT hr he (by rw [e2, e3]; exact m1) (by rw [e2, e3]; exact Post.refl m1.inv) (by rw [e1]; exact rfl))
    | _ =>
      refine hn p g _ _ (h.light hst hgl hT hr (fun e => ?_) (fun e => ?_) (by rw [e1]; exact rfl))
      · have := e.2; rw [hk] at this; cases this
      · have := e.2.2; rw [hb] at this; cases this
end
end
end Go.FM

/-! ## FnSched8 -/
namespace Go.FM
noncomputable section
variable [Env]
def XL (listed : Array Bool) (i : Nat) : Prop := listed.getD i false = true
theorem XL_set {listed : Array Bool} {j : Nat} (hj : j < listed.size) : XL (listed.setIfInBounds j true) = fun i => XL listed i ∨ i = j := by
  funext i
  apply propext
  unfold XL
  simp only [Array.getD_eq_getD_getElem?, Array.getElem?_setIfInBounds]
  by_cases h : j = i
  · subst h; simp [hj]
  · simp only [h, if_false]
    constructor
    · exact .inl
    · rintro (q | q)
      · exact q
      · exact absurd q.symm h
section
variable {Pr : Program} {D nt gl : Nat} {ops : Array Oper} {x : Tc} {g0 : Gm} {w0 : World} {cl : Cl} {Q : Exit → Act → World → Prop}
def rsOf (ops : Array Oper) (listed : Array Bool) : List Nat := (List.range ops.size).filter fun i => !listed.getD i true && ((ops[i]?).map (·.after.all fun e => !Region.binds .any e || listed.getD e.on false)).getD false
theorem rs_ready {listed : Array Bool} {i : Nat} (hi : i ∈ rsOf ops listed) : i < ops.size ∧ ∃ o, ops[i]? = some o ∧ Ready ops (XL listed) i o := by
  unfold rsOf at hi
  rw [List.mem_filter] at hi
  obtain ⟨h1, h2⟩ := hi
  have hlt : i < ops.size := List.mem_range.1 h1
  simp only [Bool.and_eq_true, Bool.not_eq_true'] at h2
  obtain ⟨h2, h3⟩ := h2
  have ho : ops[i]? = some ops[i] := Array.getElem?_eq_getElem hlt
  rw [ho] at h3
  simp only [Option.map_some, Option.getD_some] at h3
  refine ⟨hlt, ops[i], ho, by rw [Array.getElem?_toList]; exact ho, fun hx => ?_, fun e he hb => ?_⟩
  · unfold XL at hx
    rw [Array.getD_eq_getD_getElem?] at hx h2
    cases hl : listed[i]? with
    | none => rw [hl] at h2; cases h2
    | some b => rw [hl] at hx h2; simp at hx h2; rw [hx] at h2; cases h2
  · rw [Array.all_eq_true_iff_forall_mem] at h3
    have := h3 e (by simpa using he)
    rw [hb] at this
    simpa [XL] using this
theorem rs_nil (hst : Stat Pr D nt gl ops) {listed : Array Bool} (hsz : listed.size = ops.size) (h : rsOf ops listed = []) : ∀ i, i < ops.size → XL listed i := by
  intro i
  induction i using Nat.strongRecOn with
  | ind i ih =>
    intro hlt
    refine Classical.byContradiction fun hx => ?_
    have ho : ops[i]? = some ops[i] := Array.getElem?_eq_getElem hlt
    have : i ∈ rsOf ops listed := by
      unfold rsOf
      rw [List.mem_filter]
      refine ⟨List.mem_range.2 hlt, ?_⟩
      rw [ho]
      simp only [Option.map_some, Option.getD_some, Bool.and_eq_true, Bool.not_eq_true']
      constructor
      · have hs : i < listed.size := by rw [hsz]; exact hlt
        unfold XL at hx
        rw [Array.getD_eq_getD_getElem?] at hx ⊢
        rw [Array.getElem?_eq_getElem hs] at hx ⊢
        simpa using hx
      · rw [Array.all_eq_true_iff_forall_mem]
        intro e he
        cases hb : Region.binds .any e with
        | false => rfl
        | true =>
          have hlo := hst.low i ops[i] e (by rw [Array.getElem?_toList]; exact ho) (by simpa using he) hb
          have := ih e.on hlo (by omega)
          simpa [XL] using this
    rw [h] at this
    cases this
theorem sched_wp (hcl : ClOk Pr D cl) (hst : Stat Pr D nt gl ops) (hgl : GlOk nt gl) (hT : TrOk Pr D nt gl ops x ops.toList.length) (htop : x.C ops.toList.length ≤ 4 ^ D)
    (hQ : ∀ X p g a w, (∀ i, i < ops.toList.length → X i) → SI Pr D nt gl ops X x p g0 w0 g a w → Q .normal a w) :
    ∀ (fuel t : Nat) (listed : Array Bool) (rem : List Nat) (p : Nat) (g : Gm) (a : Act) (w : World), listed.size = ops.size → SI Pr D nt gl ops (XL listed) x p g0 w0 g a w → (∀ i, i < ops.size → ¬ XL listed i → i ∈ rem) → rem.length ≤ fuel →
      wpOps Pr ops Q (Region.linearise.go .any ops fuel t listed []) a w := by
  intro fuel
  induction fuel with
  | zero =>
    intro t listed rem p g a w hsz h hrem hf
    have : rem = [] := List.length_eq_zero_iff.1 (Nat.le_zero.1 hf)
    subst this
    refine hQ _ p g a w (fun i hi => Classical.byContradiction fun hx => ?_) h
    have := hrem i (by simpa using hi) hx
    cases this
  | succ fuel ih =>
    intro t listed rem p g a w hsz h hrem hf
    simp only [Region.linearise.go]
    change wpOps Pr ops Q (match (rsOf ops listed)[t % (rsOf ops listed).length]? with
      | some i => Region.linearise.go .any ops fuel (t / (rsOf ops listed).length) (listed.setIfInBounds i true) [i]
      | none => [].reverse) a w
    cases hi : (rsOf ops listed)[t % (rsOf ops listed).length]? with
    | none =>
      have hnil : rsOf ops listed = [] := by
        cases hr : rsOf ops listed with
        | nil => rfl
        | cons y ys =>
          rw [hr] at hi
          have hlt : t % (y :: ys).length < (y :: ys).length := Nat.mod_lt _ (by simp)
          simp at hi
          simp at hlt
          omega
      exact hQ _ p g a w (fun i hi => rs_nil hst hsz hnil i (by simpa using hi)) h
    | some i =>
      simp only []
      obtain ⟨hlt, o, ho, hr⟩ := rs_ready (List.mem_of_getElem? hi)
      rw [linearise_go_acc, List.reverse_singleton, List.singleton_append]
      simp only [wpOps, ho]
      have hg := h.guard hst hgl hT hr
      have next : ∀ p' g' a' w', SI Pr D nt gl ops (fun k => XL listed k ∨ k = i) x p' g0 w0 g' a' w' → wpOps Pr ops Q (Region.linearise.go .any ops fuel (t / (rsOf ops listed).length) (listed.setIfInBounds i true) []) a' w' := by
        intro p' g' a' w' h'
        rw [← XL_set (by rw [hsz]; exact hlt)] at h'
        refine ih _ _ (rem.erase i) p' g' a' w' (by simpa using hsz) h' (fun k hk hx => ?_) ?_
        · rw [XL_set (by rw [hsz]; exact hlt)] at hx
          exact (List.mem_erase_of_ne fun e => hx (.inr e)).2 (hrem k hk fun q => hx (.inl q))
        · rw [List.length_erase_of_mem (hrem i hlt hr.2.1)]
          omega
      obtain ⟨s1, s2⟩ := h.step (Q := Q) hcl hst hgl hT htop hr next
      cases hb : x.B i with
      | true => rw [if_pos (by rw [hg, hb])]; exact .inl (s1 hb)
      | false => rw [if_neg (by rw [hg, hb]; simp)]; exact s2 hb
end
end
end Go.FM

/-! ## FnSched9 -/
namespace Go.FM
noncomputable section
variable [Env]
section
variable {Pr : Program} {D nt gl : Nat} {ops : Array Oper} {cl : Cl} {Q : Exit → Act → World → Prop} {g : Gm} {w : World} {a : Act} {s : S} {t : L} {reg : List Nat}
def blank (g : Gm) (c c' : Nat) : Gm := fun k => if c ≤ k ∧ k < c' then ⟨0, 1, 0, 0⟩ else g k
theorem draw_wp (hcl : ClOk Pr D cl) (hgl : GlOk nt gl) (hmix : Pr.follows .mixedOrders = true) (hok : okRows ops (ancOf ops) ((kdsOf Pr D nt gl ops).zip ops.toList) 0 ((kdsOf Pr D nt gl ops).zip ops.toList) = true)
    (hx : ∀ w, runDraw cl D (compD gl (ancOf ops) (kdsOf Pr D nt gl ops) 0 [] (fopsOf Pr D ops nt gl [] ops.toList) ops.toList) [] s ≠ .x w)
    (hs : SRel nt gl reg g s.c t s.f a) (hi : HOk D g s.h s.c w) {id : Nat}
    (hQ : ∀ t' s' a' w' g', runDraw cl D (compD gl (ancOf ops) (kdsOf Pr D nt gl ops) 0 [] (fopsOf Pr D ops nt gl [] ops.toList) ops.toList) [] s = .n t' s' → SRel nt gl (regOps [] ops.toList) g' s'.c t' s'.f a' → HOk D g' s'.h s'.c w' → Post g (hp D s.h) s.c w g' (hp D s'.h) s'.c w' → Q .normal a' w') :
    (Code.region id ops true).wp Pr Q a w := by
  have hst := stat_of hok
  let x0 : Tc := ⟨fun _ => [], fun _ => s.f, fun _ => s.h, fun _ => s.c, fun _ => .und, fun _ => true⟩
  obtain ⟨x, k1, hT, hrun, htop⟩ := runD_tr (Pr := Pr) (D := D) (nt := nt) (gl := gl) (ops := ops) (cl := cl) hcl hst.seen ops.toList 0 x0 [s.h] .nil [] s rfl rfl (fun j o hj => absurd hj (Nat.not_lt_zero j)) ⟨fun j o hj => absurd hj (Nat.not_lt_zero j), fun j o hj => absurd hj (Nat.not_lt_zero j)⟩ rfl rfl rfl rfl hx
  rw [Nat.zero_add] at hT hrun htop
  have eT : x.T 0 = [] := k1.T 0 (Nat.le_refl 0)
  have eF : x.F 0 = s.f := k1.F 0 (Nat.le_refl 0)
  have eH : x.H 0 = s.h := k1.H 0 (Nat.le_refl 0)
  have eC : x.C 0 = s.c := k1.C 0 (Nat.le_refl 0)
  have hle : s.c ≤ x.C ops.toList.length := by rw [← eC]; exact le_C hT (Nat.zero_le _) (Nat.le_refl _)
  refine wp_region_draw fun tt => ?_
  rw [hmix]
  show wpOps Pr ops Q (Region.linearise.go .any ops ops.size tt (Array.replicate ops.size false) []) a { w with drawn := w.drawn + 1 }
  have lowg : ∀ k, k < s.c → blank g s.c (x.C ops.toList.length) k = g k := fun k hk => if_neg (by omega)
  have none : ∀ i, ¬ XL (Array.replicate ops.size false) i := by
    intro i hi
    unfold XL at hi
    rw [Array.getD_eq_getD_getElem?, Array.getElem?_replicate] at hi
    split at hi <;> cases hi
  have start : SI Pr D nt gl ops (XL (Array.replicate ops.size false)) x 0 g w (blank g s.c (x.C ops.toList.length)) a { w with drawn := w.drawn + 1 } := by
    refine ⟨⟨fun i hi => absurd hi (none i), fun i o e hi => absurd hi (none i)⟩, ⟨Nat.zero_le _, .inl rfl, fun e o hi => absurd hi (none e)⟩, hs.size, hs.defers,
      ⟨⟨by rw [eH]; exact hi.deep, by rw [eC]; exact hi.le, by rw [eH, eC]; exact hi.inv.congr lowg fun b _ => rfl⟩, fun i o hi => absurd hi (none i), fun i o i' o' hi => absurd hi (none i), fun k hk hn => ?_⟩, fun q hq => ?_, fun k hk => ?_, fun b _ _ => rfl, fun b hb => ?_, fun b hb => ?_, fun i o hi => absurd hi (none i), Nat.le_refl _, rfl, rfl, rfl⟩
    · rw [eC] at hk
      have e : blank g s.c (x.C ops.toList.length) k = ⟨0, 1, 0, 0⟩ := if_pos ⟨hk, hn.1⟩
      have := hn.2
      rw [e] at this
      simp at this
    · refine ⟨0, Nat.zero_le _, .inl rfl, fun i o hi => absurd hi (none i), fun hb => ?_, fun j hj => ?_⟩
      · rw [eF]; exact (hs.vars q hb).mono lowg hle
      · simp [regAt, regOps, idx] at hj
    · rw [eC] at hk
      exact if_neg (by omega)
    · right
      rw [eH] at hb ⊢
      obtain ⟨k, pre, bd, hk, e⟩ := hb
      exact ⟨k, pre, bd, hk, by rw [← lowg k (hi.inv.lt k (by rw [hk]; simp))]; exact e⟩
    · right
      rw [eH] at hb ⊢
      obtain ⟨k, hk, e⟩ := hb
      exact ⟨k, hk, by rw [← lowg k (hi.inv.lt k hk)]; exact e⟩
  refine sched_wp hcl hst hgl hT htop (fun X p g' a' w' hall h => ?_) ops.size tt _ (List.range ops.size) 0 _ a _ (by simp) start (fun i hlt _ => List.mem_range.2 hlt) (by simp)
  obtain ⟨m1, m2, m3, m4, m5⟩ := merge hT h.heap h.pos.le (Nat.le_refl _) (fun e o h1 h2 he => by have := h.pos.all e o (hall e h2) he; omega) (fun i o _ h2 _ => hall i h2)
  have er : regAt ops ops.toList.length = regOps [] ops.toList := by unfold regAt; rw [List.take_length]
  have hsr := h.tmps.all hgl hT hall h.size h.defers fun q j hj => reg_lt hT _ (Nat.le_refl _) q (idx_mem hj)
  rw [er] at hsr
  refine hQ _ _ a' w' g' hrun hsr m1 ⟨fun k hk => h.ag k (by rw [eC]; exact hk), hle, m1.inv, fun b hb hn => h.fr b hb (by rw [eH]; exact hn), fun b hb => ?_, fun b hb => ?_, h.sz, h.os, h.tape, h.out⟩
  · rcases m5 b hb with q | ⟨i, o, b1, b2, b3, b4⟩
    · rw [← eH]; exact h.ow b q
    · exact .inl (by rw [← b4]; exact h.nw i o (hall i b2) b1 b3)
  · rcases m4 b hb with q | ⟨i, o, b1, b2, b3, b4⟩
    · rw [← eH]; exact h.hs b q
    · exact .inl (by rw [← b4]; exact h.nw i o (hall i b2) b1 b3)
end
end
end Go.FM

/-! ## FnCode -/
namespace Go.FM
noncomputable section
variable [Env]
section
variable {Pr : Program} {D nt gl : Nat} {cl : Cl} {g : Gm} {w : World} {a : Act} {s : S} {t : L} {reg : List Nat}
def EndOk (D nt gl : Nat) (reg : List Nat) (g : Gm) (h : HT) (c : Nat) (w : World) (r : R) (e : Exit) (a' : Act) (w' : World) : Prop := ∃ g' t' s', SRel nt gl reg g' s'.c t' s'.f a' ∧ HOk D g' s'.h s'.c w' ∧ Post g (hp D h) c w g' (hp D s'.h) s'.c w' ∧ match r with
  | .n t s => e = .normal ∧ t' = t ∧ s' = s
  | .ex id s => e = .exit id ∧ reg = [] ∧ s' = s
  | .go l s => e = .goto l ∧ reg = [] ∧ s' = s
  | .ret s => e = .ret ∧ reg = [] ∧ s' = s
  | .x _ => False
def regR (reg : List Nat) (r : R) : List Nat := match r with
  | .n _ _ => reg
  | _ => []
def Goal (Pr : Program) (D nt gl : Nat) (reg : List Nat) (g : Gm) (s : S) (w : World) (r : R) : Exit → Act → World → Prop := EndOk D nt gl (regR reg r) g s.h s.c w r
def live (r : R) : Prop := ∀ w, r ≠ .x w
def Goes (Pr : Program) (c : Code) (Q : Exit → Act → World → Prop) (a : Act) (w : World) : Prop := match c with
  | .loop c => ∀ (b : Frame) (k : List Item) (cs : List Frame), ∃ e a' w', Q e a' w' ∧ Arrives Pr (lone (b.at a (.code c :: .inLoop c :: k)) cs w) b k cs e a' w'
  | c => c.wp Pr Q a w
theorem Goes.code {c : Code} {Q : Exit → Act → World → Prop} (h : Goes Pr c Q a w) : c.wp Pr Q a w := by
  cases c with
  | loop c =>
    intro b k cs
    obtain ⟨e, a', w', hq, harr⟩ := h b k cs
    exact ⟨e, a', w', hq, .of_steps (.one step_loop) harr⟩
  | _ => exact h
def Within (Pr : Program) (sc rest : Code) (Q : Exit → Act → World → Prop) (a : Act) (w : World) : Prop :=
  ∀ (b : Frame) (k : List Item) (cs : List Frame), ∃ e a' w', Q e a' w' ∧ Arrives Pr (lone (b.at a (.code rest :: .inScope sc :: k)) cs w) b k cs e a' w'
structure RecOk (Pr : Program) (D nt gl : Nat) (rec : Rec) : Prop where
  code : ∀ (c : Code) (reg : List Nat) (t : L) (s : S), live (rec (.c (comp Pr D nt gl reg c)) t s) → ∀ (a : Act) (w : World) (g : Gm), SRel nt gl reg g s.c t s.f a → HOk D g s.h s.c w → Goes Pr c (Goal Pr D nt gl (regOut reg c) g s w (rec (.c (comp Pr D nt gl reg c)) t s)) a w
  within : ∀ (sc rest : Code) (s : S), live (rec (.w sc (comp Pr D nt gl [] rest)) [] s) → ∀ (a : Act) (w : World) (g : Gm) (t : L), SRel nt gl [] g s.c t s.f a → HOk D g s.h s.c w → Within Pr sc rest (Goal Pr D nt gl [] g s w (rec (.w sc (comp Pr D nt gl [] rest)) [] s)) a w
theorem EndOk.trans {g1 : Gm} {s1 : S} {w1 : World} {h : HT} {c : Nat} {r : R} {e : Exit} {a' : Act} {w' : World} (hp1 : Post g (hp D h) c w g1 (hp D s1.h) s1.c w1) (k : EndOk D nt gl reg g1 s1.h s1.c w1 r e a' w') : EndOk D nt gl reg g h c w r e a' w' := by
  obtain ⟨g', t', s', h1, h2, h3, h4⟩ := k
  exact ⟨g', t', s', h1, h2, hp1.trans h3, h4⟩
theorem plain_wp (hcl : ClOk Pr D cl) (hgl : GlOk nt gl) {id : Nat} {ops : Array Oper} (hx : live (runOps cl (compOps Pr D ops nt gl [] ops.toList) [] s)) (hs : SRel nt gl reg g s.c t s.f a) (hi : HOk D g s.h s.c w) :
    (Code.region id ops false).wp Pr (Goal Pr D nt gl (regOps [] ops.toList) g s w (runOps cl (compOps Pr D ops nt gl [] ops.toList) [] s)) a w := by
  refine wp_region ?_
  have := ops_wp (Pr := Pr) (D := D) (nt := nt) (gl := gl) (ops := ops) (Q := Goal Pr D nt gl (regOps [] ops.toList) g s w (runOps cl (compOps Pr D ops nt gl [] ops.toList) [] s)) hcl hgl ops.toList 0 [] [] s a w g rfl hx (hs.nil []) hi fun t' s' a' w' g' e h1 h2 h3 => by
    rw [e]
    exact ⟨g', t', s', h1, h2, h3, rfl, rfl, rfl⟩
  rw [List.range_eq_range']
  simpa using this
theorem open_wp (hcl : ClOk Pr D cl) (hgl : GlOk nt gl) (hmix : Pr.follows .mixedOrders = true) {id : Nat} {ops : Array Oper} (hok : okRows ops (ancOf ops) ((kdsOf Pr D nt gl ops).zip ops.toList) 0 ((kdsOf Pr D nt gl ops).zip ops.toList) = true)
    (hx : live (runDraw cl D (compD gl (ancOf ops) (kdsOf Pr D nt gl ops) 0 [] (fopsOf Pr D ops nt gl [] ops.toList) ops.toList) [] s)) (hs : SRel nt gl reg g s.c t s.f a) (hi : HOk D g s.h s.c w) :
    (Code.region id ops true).wp Pr (Goal Pr D nt gl (regOps [] ops.toList) g s w (runDraw cl D (compD gl (ancOf ops) (kdsOf Pr D nt gl ops) 0 [] (fopsOf Pr D ops nt gl [] ops.toList) ops.toList) [] s)) a w :=
  draw_wp hcl hgl hmix hok hx hs hi fun t' s' a' w' g' e h1 h2 h3 => by
    rw [e]
    exact ⟨g', t', s', h1, h2, h3, rfl, rfl, rfl⟩
end
end
end Go.FM

/-! ## FnCode2 -/
namespace Go.FM
noncomputable section
variable [Env]
theorem gotoIn_scope {l : Nat} {c rest : Code} {k : List Item} (h : findLabel c l = some rest) : gotoIn l (.inScope c :: k) = some (.code rest :: .inScope c :: k) := by simp [gotoIn, h]
section
variable {Pr : Program} {D nt gl : Nat} {cl : Cl}
theorem stepT_ok (hcl : ClOk Pr D cl) (hgl : GlOk nt gl) (hmix : Pr.follows .mixedOrders = true) {rec : Rec} (hrec : RecOk Pr D nt gl rec) : RecOk Pr D nt gl (stepT Pr D nt gl rec (runOps cl) (runDraw cl D)) where
  code := by
    intro c reg t s hx a w g hs hi
    have self : ∀ {r : R} {e : Exit} {reg' : List Nat} {t' : L}, SRel nt gl reg' g s.c t' s.f a → (match r with
      | .n t s2 => e = .normal ∧ t' = t ∧ s = s2
      | .ex id s2 => e = .exit id ∧ reg' = [] ∧ s = s2
      | .go l s2 => e = .goto l ∧ reg' = [] ∧ s = s2
      | .ret s2 => e = .ret ∧ reg' = [] ∧ s = s2
      | .x _ => False) → EndOk D nt gl reg' g s.h s.c w r e a w := by
      intro r e reg' t' h1 h2
      cases r <;> exact ⟨g, _, s, h1, hi, Post.refl hi.inv, h2⟩
    cases c with
    | skip => exact wp_skip (self (r := .n t s) hs ⟨rfl, rfl, rfl⟩)
    | label l => exact wp_label (self (r := .n t s) hs ⟨rfl, rfl, rfl⟩)
    | exit id => exact wp_exit (self (r := .ex id s) (hs.nil t) ⟨rfl, rfl, rfl⟩)
    | goto l => exact wp_goto (self (r := .go l s) (hs.nil t) ⟨rfl, rfl, rfl⟩)
    | ret => exact wp_ret (self (r := .ret s) (hs.nil t) ⟨rfl, rfl, rfl⟩)
    | region id ops dr =>
      cases dr with
      | false => exact plain_wp hcl hgl hx hs hi
      | true =>
        have e : comp Pr D nt gl reg (.region id ops true) = compDraw Pr D ops nt gl := rfl
        rw [e] at hx ⊢
        unfold compDraw at hx ⊢
        simp only at hx ⊢
        split at hx
        · rename_i hok
          rw [if_pos hok]
          exact open_wp hcl hgl hmix hok hx hs hi
        · exact absurd rfl (hx 35)
    | seq x y =>
      have e : stepT Pr D nt gl rec (runOps cl) (runDraw cl D) (.c (comp Pr D nt gl reg (.seq x y))) t s = andThen (rec (.c (comp Pr D nt gl (regOut reg x) y))) (rec (.c (comp Pr D nt gl reg x)) t s) := rfl
      rw [e] at hx ⊢
      have hx1 : live (rec (.c (comp Pr D nt gl reg x)) t s) := fun w h => by rw [h] at hx; exact hx w rfl
      have h1 := (hrec.code x reg t s hx1 a w g hs hi).code
      show (Code.seq x y).wp Pr _ a w
      refine wp_seq (wp_mono h1 fun ex a1 w1 hl => ?_)
      cases hr : rec (.c (comp Pr D nt gl reg x)) t s with
      | n t1 s1 =>
        rw [hr] at hl hx
        obtain ⟨g1, t', s', k1, k2, k3, rfl, rfl, rfl⟩ := hl
        refine wp_mono (hrec.code y (regOut reg x) t' s' hx a1 w1 g1 k1 k2).code fun ex a2 w2 hl2 => ?_
        exact EndOk.trans k3 hl2
      | x w => exact absurd hr (hx1 w)
      | ex id s1 =>
        rw [hr] at hl
        obtain ⟨g1, t', s', k1, k2, k3, rfl, k5, k6⟩ := hl
        exact ⟨g1, t', s', k1, k2, k3, rfl, k5, k6⟩
      | go l s1 =>
        rw [hr] at hl
        obtain ⟨g1, t', s', k1, k2, k3, rfl, k5, k6⟩ := hl
        exact ⟨g1, t', s', k1, k2, k3, rfl, k5, k6⟩
      | ret s1 =>
        rw [hr] at hl
        obtain ⟨g1, t', s', k1, k2, k3, rfl, k5, k6⟩ := hl
        exact ⟨g1, t', s', k1, k2, k3, rfl, k5, k6⟩
    | cond c x y =>
      have e : stepT Pr D nt gl rec (runOps cl) (runDraw cl D) (.c (comp Pr D nt gl reg (.cond c x y))) t s = br (rec (.c (comp Pr D nt gl [] x)) [] s) (rec (.c (comp Pr D nt gl [] y)) [] s) ((opnd gl reg c).ev t s.f) := rfl
      rw [e] at hx ⊢
      have hc := opnd_ok hs c
      show (Code.cond c x y).wp Pr _ a w
      cases hv : (opnd gl reg c).ev t s.f <;> rw [hv] at hx hc <;> try exact absurd rfl (hx 52)
      rename_i b
      have hc : a.eval c = .bool b := hc
      have out : ∀ {z : Code} {r : R}, r = rec (.c (comp Pr D nt gl [] z)) [] s → live r → z.wp Pr (Goal Pr D nt gl [] g s w r) a w := by
        intro z r hr hl
        subst hr
        refine wp_mono (hrec.code z [] [] s hl a w g (hs.nil []) hi).code fun ex a2 w2 hl2 => ?_
        obtain ⟨g1, t', s', k1, k2, k3, k4⟩ := hl2
        cases hr : rec (.c (comp Pr D nt gl [] z)) [] s with
        | x w => exact absurd hr (hl w)
        | n t1 s1 => rw [hr] at k1 k4; exact ⟨g1, t', s', k1.nil t', k2, k3, k4⟩
        | ex i s1 => rw [hr] at k1 k4; exact ⟨g1, t', s', k1.nil t', k2, k3, k4.1, rfl, k4.2.2⟩
        | go l s1 => rw [hr] at k1 k4; exact ⟨g1, t', s', k1.nil t', k2, k3, k4.1, rfl, k4.2.2⟩
        | ret s1 => rw [hr] at k1 k4; exact ⟨g1, t', s', k1.nil t', k2, k3, k4.1, rfl, k4.2.2⟩
      refine wp_cond hc ?_
      cases b with
      | true => exact out rfl hx
      | false => exact out rfl hx
    | block id c =>
      have e : stepT Pr D nt gl rec (runOps cl) (runDraw cl D) (.c (comp Pr D nt gl reg (.block id c))) t s = inBlock id (rec (.c (comp Pr D nt gl [] c)) [] s) := rfl
      rw [e] at hx ⊢
      have hx1 : live (rec (.c (comp Pr D nt gl [] c)) [] s) := fun w h => by rw [h] at hx; exact hx w rfl
      show (Code.block id c).wp Pr _ a w
      refine wp_block (wp_mono (hrec.code c [] [] s hx1 a w g (hs.nil []) hi).code fun ex a2 w2 hl2 => ?_)
      obtain ⟨g1, t', s', k1, k2, k3, k4⟩ := hl2
      cases hr : rec (.c (comp Pr D nt gl [] c)) [] s with
      | x w => exact absurd hr (hx1 w)
      | n t1 s1 =>
        rw [hr] at k4 k1
        obtain ⟨rfl, rfl, rfl⟩ := k4
        exact ⟨g1, t', s', k1.nil t', k2, k3, rfl, rfl, rfl⟩
      | go l s1 =>
        rw [hr] at k4 k1
        obtain ⟨rfl, _, rfl⟩ := k4
        exact ⟨g1, t', s', k1.nil t', k2, k3, rfl, rfl, rfl⟩
      | ret s1 =>
        rw [hr] at k4 k1
        obtain ⟨rfl, _, rfl⟩ := k4
        exact ⟨g1, t', s', k1.nil t', k2, k3, rfl, rfl, rfl⟩
      | ex i s1 =>
        rw [hr] at k4 k1
        obtain ⟨rfl, _, rfl⟩ := k4
        simp only [Exit.inBlock]
        have ei : inBlock id (.ex i s') = (Nat.beq i id).casesOn (.ex i s') (.n [] s') := rfl
        rw [ei]
        by_cases hid : i = id
        · subst hid
          rw [Nat.beq_refl]
          simp only [if_pos rfl]
          exact ⟨g1, [], s', k1.nil [], k2, k3, rfl, rfl, rfl⟩
        · have hb : Nat.beq i id = false := by
            cases hb : Nat.beq i id with
            | false => rfl
            | true => exact absurd (Nat.eq_of_beq_eq_true hb) hid
          rw [hb, if_neg hid]
          exact ⟨g1, t', s', k1.nil t', k2, k3, rfl, rfl, rfl⟩
    | loop c =>
      have e : stepT Pr D nt gl rec (runOps cl) (runDraw cl D) (.c (comp Pr D nt gl reg (.loop c))) t s = andThen (fun _ s => rec (.c (comp Pr D nt gl [] (.loop c))) [] s) (rec (.c (comp Pr D nt gl [] c)) [] s) := rfl
      rw [e] at hx ⊢
      have hx1 : live (rec (.c (comp Pr D nt gl [] c)) [] s) := fun w h => by rw [h] at hx; exact hx w rfl
      intro b k cs
      obtain ⟨ex, a1, w1, hl, harr⟩ := (hrec.code c [] [] s hx1 a w g (hs.nil []) hi).code b (.inLoop c :: k) cs
      obtain ⟨g1, t', s', k1, k2, k3, k4⟩ := hl
      cases hr : rec (.c (comp Pr D nt gl [] c)) [] s with
      | x w => exact absurd hr (hx1 w)
      | n t1 s1 =>
        rw [hr] at k4 k1 hx
        obtain ⟨rfl, rfl, rfl⟩ := k4
        obtain ⟨ex2, a2, w2, hl2, harr2⟩ := hrec.code (.loop c) [] [] s' hx a1 w1 g1 (k1.nil []) k2 b k cs
        exact ⟨ex2, a2, w2, EndOk.trans k3 hl2, .of_steps (Steps.trans harr (.one step_inLoop)) harr2⟩
      | go l s1 =>
        rw [hr] at k4 k1
        obtain ⟨rfl, _, rfl⟩ := k4
        exact ⟨_, a1, w1, ⟨g1, t', s', k1.nil t', k2, k3, rfl, rfl, rfl⟩, .pass (x := .inLoop c) rfl (fun _ _ => .inl (by simp)) harr⟩
      | ret s1 =>
        rw [hr] at k4 k1
        obtain ⟨rfl, _, rfl⟩ := k4
        exact ⟨_, a1, w1, ⟨g1, t', s', k1.nil t', k2, k3, rfl, rfl, rfl⟩, .pass (x := .inLoop c) rfl (fun _ _ => .inl (by simp)) harr⟩
      | ex i s1 =>
        rw [hr] at k4 k1
        obtain ⟨rfl, _, rfl⟩ := k4
        exact ⟨_, a1, w1, ⟨g1, t', s', k1.nil t', k2, k3, rfl, rfl, rfl⟩, .pass (x := .inLoop c) rfl (fun _ _ => .inl (by simp)) harr⟩
    | scope c =>
      have e : stepT Pr D nt gl rec (runOps cl) (runDraw cl D) (.c (comp Pr D nt gl reg (.scope c))) t s = rec (.w c (comp Pr D nt gl [] c)) [] s := rfl
      rw [e] at hx ⊢
      intro b k cs
      obtain ⟨ex, a1, w1, hq, harr⟩ := hrec.within c c s hx a w g [] (hs.nil []) hi b k cs
      exact ⟨ex, a1, w1, hq, .of_steps (.one step_scope) harr⟩
    | rangeFunc _ _ _ _ => exact absurd rfl (hx 33)
    | refuse _ => exact absurd rfl (hx 33)
  within := by
    intro sc rest s hx a w g t hs hi b k cs
    have e : stepT Pr D nt gl rec (runOps cl) (runDraw cl D) (.w sc (comp Pr D nt gl [] rest)) [] s = inScope Pr D nt gl rec sc (rec (.c (comp Pr D nt gl [] rest)) [] s) := rfl
    rw [e] at hx ⊢
    have hx1 : live (rec (.c (comp Pr D nt gl [] rest)) [] s) := fun w h => by rw [h] at hx; exact hx w rfl
    obtain ⟨ex, a1, w1, hl, harr⟩ := (hrec.code rest [] [] s hx1 a w g (hs.nil []) hi).code b (.inScope sc :: k) cs
    obtain ⟨g1, t', s', k1, k2, k3, k4⟩ := hl
    cases hr : rec (.c (comp Pr D nt gl [] rest)) [] s with
    | x w => exact absurd hr (hx1 w)
    | n t1 s1 =>
      rw [hr] at k4 k1
      obtain ⟨rfl, rfl, rfl⟩ := k4
      exact ⟨_, a1, w1, ⟨g1, t', s', k1.nil t', k2, k3, rfl, rfl, rfl⟩, Steps.trans harr (.one step_inScope)⟩
    | ex i s1 =>
      rw [hr] at k4 k1
      obtain ⟨rfl, _, rfl⟩ := k4
      exact ⟨_, a1, w1, ⟨g1, t', s', k1.nil t', k2, k3, rfl, rfl, rfl⟩, fun k' hk => harr k' (by simp [exitTo, hk])⟩
    | ret s1 =>
      rw [hr] at k4 k1
      obtain ⟨rfl, _, rfl⟩ := k4
      exact ⟨_, a1, w1, ⟨g1, t', s', k1.nil t', k2, k3, rfl, rfl, rfl⟩, harr⟩
    | go l s1 =>
      rw [hr] at k4 k1 hx
      obtain ⟨rfl, _, rfl⟩ := k4
      have e2 : inScope Pr D nt gl rec sc (.go l s') = again Pr D nt gl rec sc l s' := rfl
      rw [e2] at hx ⊢
      unfold again at hx ⊢
      cases hf : findLabel sc l with
      | some rest1 =>
        rw [hf] at hx
        obtain ⟨ex2, a2, w2, hl2, harr2⟩ := hrec.within sc rest1 s' hx a1 w1 g1 [] (k1.nil []) k2 b k cs
        exact ⟨ex2, a2, w2, EndOk.trans k3 hl2, .of_steps (harr _ (gotoIn_scope hf)) harr2⟩
      | none =>
        exact ⟨_, a1, w1, ⟨g1, t', s', k1.nil t', k2, k3, rfl, rfl, rfl⟩, fun k' hk => harr k' (by simp [gotoIn, hf, hk])⟩
end
end
end Go.FM

/-! ## FnCall -/
namespace Go.FM
noncomputable section
variable [Env]
section
variable {Pr : Program} {D nt gl : Nat} {cl : Cl}
theorem runT_ok (hcl : ClOk Pr D cl) (hgl : GlOk nt gl) (hmix : Pr.follows .mixedOrders = true) : ∀ n, RecOk Pr D nt gl (runT Pr D cl nt gl n)
  | 0 => ⟨fun c reg t s hx => absurd rfl (hx 50), fun sc rest s hx => absurd rfl (hx 50)⟩
  | n + 1 => stepT_ok hcl hgl hmix (runT_ok hcl hgl hmix n)
theorem fget_und (r : Nat) : fget r und4 = .und := by
  have h1 : ∀ i, Q.get i und1 = .und := fun i => by unfold Q.get; rw [sel4_lt]; (repeat' split) <;> rfl
  have h2 : ∀ i, Q.get i und2 = und1 := fun i => by unfold Q.get; rw [sel4_lt]; (repeat' split) <;> rfl
  have h3 : ∀ i, Q.get i und3 = und2 := fun i => by unfold Q.get; rw [sel4_lt]; (repeat' split) <;> rfl
  have h4 : ∀ i, Q.get i und4 = und3 := fun i => by unfold Q.get; rw [sel4_lt]; (repeat' split) <;> rfl
  unfold fget
  rw [h4, h3, h2, h1]
theorem glOk_of (h1 : Nat.ble (rank gl nt) 256 = true) (h2 : Nat.blt gl (Nat.pow 2 nt) = true) : GlOk nt gl := by
  refine ⟨Nat.le_of_ble_eq_true h1, fun q hq => ?_⟩
  have hlt : gl < 2 ^ nt := Nat.le_of_ble_eq_true h2
  rcases Nat.lt_or_ge q nt with h | h
  · exact h
  · have := Nat.testBit_lt_two_pow (Nat.lt_of_lt_of_le hlt (Nat.pow_le_pow_right (by omega) h))
    rw [this] at hq; cases hq
theorem initF_ok (hgl : GlOk nt gl) : ∀ (n t : Nat) (args : List HV) (f f' : F), t + n ≤ nt → initF (parPs gl n t) args f = some f' → args.length = n ∧ ∀ q, Nat.testBit gl q = true → fget (rank gl q) f' = if t ≤ q ∧ q < t + n then args.getD (q - t) .dead else fget (rank gl q) f := by
  intro n
  induction n with
  | zero =>
    intro t args f f' hn h
    cases args with
    | nil =>
      have : f = f' := Option.some.inj h
      subst this
      exact ⟨rfl, fun q _ => by rw [if_neg (by omega)]⟩
    | cons a r => cases h
  | succ n ih =>
    intro t args f f' hn h
    cases args with
    | nil => cases h
    | cons v r =>
      have e : parPs gl (n + 1) t = dstP gl (some t) :: parPs gl n (t + 1) := rfl
      rw [e] at h
      have h : initF (parPs gl n (t + 1)) r (putF (dstP gl (some t)) v f) = some f' := h
      obtain ⟨h1, h2⟩ := ih (t + 1) r _ f' (by omega) h
      refine ⟨by simp [h1], fun q hb => ?_⟩
      rw [h2 q hb]
      by_cases hq : t + 1 ≤ q ∧ q < t + 1 + n
      · rw [if_pos hq, if_pos (by omega), show q - t = (q - (t + 1)) + 1 by omega]
        simp
      · rw [if_neg hq]
        have ed : dstP gl (some t) = (Nat.testBit gl t).casesOn (motive := fun _ => P) .loc (pVar (rank gl t)) := rfl
        rw [ed]
        have r1 : rank gl q < 256 := Nat.lt_of_lt_of_le (rank_lt gl (hgl.2 q hb) hb) hgl.1
        cases hbt : Nat.testBit gl t with
        | false =>
          have : q ≠ t := fun e => by rw [e, hbt] at hb; cases hb
          rw [if_neg (by omega)]
          rfl
        | true =>
          obtain ⟨p, hp, hpv⟩ := pVar_eq (rank gl t)
          have r2 : rank gl t < 256 := Nat.lt_of_lt_of_le (rank_lt gl (by omega) hbt) hgl.1
          show fget (rank gl q) (putF (pVar (rank gl t)) v f) = _
          rw [hp]
          show fget (rank gl q) (p v f) = _
          rw [hpv, fget_fset r1 r2]
          by_cases hqt : q = t
          · subst hqt
            rw [if_pos rfl, if_pos (by omega)]
            simp
          · rw [if_neg fun e => hqt (rank_inj gl hb hbt e), if_neg (by omega)]
theorem enter_srel (hgl : GlOk nt gl) {n : Nat} {args : List HV} {vs : List Value} {f : F} {g : Gm} {c : Nat} (hargs : TReps g c args vs) (hn : n ≤ nt) (h : initF (parPs gl n 0) args und4 = some f) :
    SRel nt gl [] g c [] f { tmps := vs.toArray ++ Array.replicate (nt - vs.toArray.size) undef, defers := [] } := by
  obtain ⟨h1, h2⟩ := initF_ok hgl n 0 args und4 f (by omega) h
  have hl : vs.length = n := hargs.1.trans h1
  refine ⟨by simp; omega, fun q hb => ?_, fun q j hj => by simp [idx] at hj, rfl⟩
  rw [h2 q hb]
  have hq := hgl.2 q hb
  by_cases hlt : q < n
  · rw [if_pos ⟨Nat.zero_le _, by omega⟩]
    have ha : args[q]? = some (args[q]'(by omega)) := List.getElem?_eq_getElem _
    have hv : vs[q]? = some (vs[q]'(by omega)) := List.getElem?_eq_getElem _
    have e1 : args.getD (q - 0) .dead = args[q]'(by omega) := by simp [List.getD_eq_getElem?_getD, ha]
    have e2 : (vs.toArray ++ Array.replicate (nt - vs.toArray.size) undef).getD q undef = vs[q]'(by omega) := by
      rw [Array.getD_eq_getD_getElem?, Array.getElem?_append_left (by simp; omega)]
      simp [hl, hlt]
    rw [e1, e2]
    exact hargs.2 q _ _ ha hv
  · rw [if_neg (by omega), fget_und]
    show _ = undef
    rw [Array.getD_eq_getD_getElem?, Array.getElem?_append_right (by simp; omega)]
    simp only [List.size_toArray]
    rw [Array.getElem?_replicate, if_pos (by omega)]
    rfl
theorem TRep.val {g : Gm} {c : Nat} {x : HV} {u : Value} (h : TRep g c x u) (hl : x.live = true) : VRep g c x u := by
  cases x <;> first | exact h | cases hl
theorem res_one {g : Gm} {h : HT} {c : Nat} {w : World} {f : F} {a : Act} {rf : ResultVar → Sem Value} (hf : ∀ t, rf (.tmp t) = pure (a.tmps.getD t undef)) (hf' : ∀ c t, rf (.cell c t) = do loadVar t (← asAddr (a.tmps.getD c undef)))
    (hs : SRel nt gl [] g c [] f a) (hi : HOk D g h c w) {r : ResultVar} (hl : (resV h f (resG Pr D gl r)).live = true) : ∃ u, (rf r).run Pr w = .ok u w ∧ VRep g c (resV h f (resG Pr D gl r)) u := by
  cases r with
  | tmp t =>
    rw [hf]
    exact ⟨_, rfl, TRep.val (opnd_ok hs (.tmp t)) hl⟩
  | cell b t =>
    rw [hf']
    unfold resG at hl ⊢
    simp only at hl ⊢
    cases hq : loadF Pr D t with
    | no => rw [hq] at hl; cases hl
    | p q => exact (loadF_not hq).elim
    | f q =>
      rw [hq] at hl
      obtain ⟨n, bl, e1, e2, rfl⟩ := loadF_inv hq
      have hd : load D bl n h ((opnd gl [] (.tmp b)).ev [] f) ≠ .dead := fun e => by
        have hl : (load D bl n h ((opnd gl [] (.tmp b)).ev [] f)).live = true := hl
        rw [e] at hl; cases hl
      obtain ⟨A, hA, u, h3, h4⟩ := load_ok (Pr := Pr) e1 e2 hi (opnd_ok hs (.tmp b)) hd
      have hA : a.tmps.getD b undef = .pointer (some A) := hA
      refine ⟨u, ?_, h4⟩
      rw [hA]
      simpa [asAddr] using h3
theorem res_all {g : Gm} {h : HT} {c : Nat} {w : World} {f : F} {a : Act} {rf : ResultVar → Sem Value} (hf : ∀ t, rf (.tmp t) = pure (a.tmps.getD t undef)) (hf' : ∀ c t, rf (.cell c t) = do loadVar t (← asAddr (a.tmps.getD c undef)))
    (hs : SRel nt gl [] g c [] f a) (hi : HOk D g h c w) : ∀ (l : List ResultVar), ((l.map (resG Pr D gl)).map (resV h f)).all HV.live = true → ∃ us : List Value, (l.mapM rf).run Pr w = .ok us w ∧ us.length = l.length ∧ ∀ (i : Nat) (x : HV) (u : Value), ((l.map (resG Pr D gl)).map (resV h f))[i]? = some x → us[i]? = some u → VRep g c x u
  | [], _ => ⟨[], by simp, rfl, fun i x u hx => by simp at hx⟩
  | r :: l, hl => by
    simp only [List.map_cons, List.all_cons, Bool.and_eq_true] at hl
    obtain ⟨u, h1, h2⟩ := res_one (Pr := Pr) hf hf' hs hi hl.1
    obtain ⟨us, h3, h4, h5⟩ := res_all hf hf' hs hi l hl.2
    refine ⟨u :: us, by simp [List.mapM_cons, h1, h3], by simp [h4], fun i x v hx hv => ?_⟩
    cases i with
    | zero => simp at hx hv; subst hx; subst hv; exact h2
    | succ i => exact h5 i x v (by simpa using hx) (by simpa using hv)
theorem enter_ok (hcl : ClOk Pr D cl) (hmix : Pr.follows .mixedOrders = true) {N : Nat} {fn : FuncId} {args : List HV} {h : HT} {c : Nat} {v : HV} {h' : HT} {c' : Nat} (he : enter Pr D N cl (compFn Pr D fn) args h c = .ok v h' c') (hv : v ≠ .dead) :
    Body Pr fn ∧ CallT Pr D fn args h c v h' c' := by
  unfold compFn at he
  cases hf : Pr.funcs[fn]? with
  | none => rw [hf] at he; cases he
  | some f =>
    rw [hf] at he
    simp only at he
    cases hname : (f.name == "runtime.NumGoroutine") with
    | true => rw [hname] at he; cases he
    | false =>
      rw [hname] at he
      simp only [Bool.false_eq_true, if_false] at he
      cases hb : f.body with
      | none => rw [hb] at he; cases he
      | some code =>
        rw [hb] at he
        simp only at he
        split at he
        · rename_i hc
          simp only [Bool.and_eq_true] at hc
          obtain ⟨⟨c1, c2⟩, c3⟩ := hc
          have hgl := glOk_of c1 c2
          refine ⟨⟨f, code, hf, hb, hname⟩, fun w g vs hi hargs => ?_⟩
          simp only [enter] at he
          cases hin : initF (parPs (resGl f.results.toList (glob [] code 0)) (f.params.size + f.nfree) 0) args und4 with
          | none => rw [hin] at he; cases he
          | some fr =>
            rw [hin] at he
            simp only at he
            have hs := enter_srel hgl hargs (Nat.le_of_ble_eq_true c3) hin
            have hlive : live (runT Pr D cl f.ntmps (resGl f.results.toList (glob [] code 0)) N (.c (comp Pr D f.ntmps (resGl f.results.toList (glob [] code 0)) [] code)) [] ⟨fr, h, c⟩) := fun w e => by rw [e] at he; cases he
            refine calls_of_wp hf hb (wp_mono ((runT_ok hcl hgl hmix N).code code [] [] ⟨fr, h, c⟩ hlive _ w g hs hi).code fun ex a' w' hl => ?_)
            obtain ⟨g', t', s', k1, k2, k3, k4⟩ := hl
            have fin : leave (f.results.toList.map (resG Pr D (resGl f.results.toList (glob [] code 0)))) s' = .ok v h' c' → a'.defers = [] ∧ ∃ v', (results f a'.tmps).run Pr w' = .ok v' w' ∧ ∃ u g'', Ending.returned v' = .returned u ∧ HOk D g'' h' c' w' ∧ Post g (hp D h) c w g'' (hp D h') c' w' ∧ TRep g'' c' v u := by
              intro hlv
              unfold leave at hlv
              injection hlv with e1 e2 e3
              subst e2; subst e3
              refine ⟨k1.defers, ?_⟩
              have hall : ((f.results.toList.map (resG Pr D (resGl f.results.toList (glob [] code 0)))).map (resV s'.h s'.f)).all HV.live = true := by
                cases hh : ((f.results.toList.map (resG Pr D (resGl f.results.toList (glob [] code 0)))).map (resV s'.h s'.f)).all HV.live with
                | true => rfl
                | false => unfold oneOf at e1; rw [hh] at e1; exact absurd e1.symm hv
              obtain ⟨us, r1, r2, r3⟩ := res_all (Pr := Pr) (w := w') (rf := (fun | .tmp t => pure (a'.tmps.getD t undef) | .cell c t => do loadVar t (← asAddr (a'.tmps.getD c undef)) : ResultVar → Sem Value)) (fun _ => rfl) (fun _ _ => rfl) (k1.nil []) k2 f.results.toList hall
              refine ⟨_, Go.AbsM.results_run (fun _ => rfl) (fun _ _ => rfl) r1, _, g', rfl, k2, k3, ?_⟩
              unfold oneOf at e1
              rw [hall] at e1
              simp only at e1
              subst e1
              have hl : us.length = ((f.results.toList.map (resG Pr D (resGl f.results.toList (glob [] code 0)))).map (resV s'.h s'.f)).length := by simp [r2]
              clear hall r1 r2 hv he
              generalize (f.results.toList.map (resG Pr D (resGl f.results.toList (glob [] code 0)))).map (resV s'.h s'.f) = xs at *
              match xs, us, hl, r3 with
              | [], [], _, r3 => exact ⟨[], rfl, rfl, r3⟩
              | [y], [u], _, r3 => exact TRep.of_val (r3 0 y u rfl rfl)
              | y :: y' :: ys, u :: u' :: us, hl, r3 => exact ⟨_, rfl, hl, r3⟩
            generalize hr : runT Pr D cl f.ntmps (resGl f.results.toList (glob [] code 0)) N (.c (comp Pr D f.ntmps (resGl f.results.toList (glob [] code 0)) [] code)) [] ⟨fr, h, c⟩ = r at *
            cases r with
            | x w => exact absurd rfl (hlive w)
            | ex i s1 => cases he
            | go l s1 => cases he
            | n t1 s1 =>
              obtain ⟨rfl, rfl, rfl⟩ := k4
              exact fin he
            | ret s1 =>
              obtain ⟨rfl, _, rfl⟩ := k4
              exact fin he
        · cases he
end
end
end Go.FM

/-! ## FnLaw -/
namespace Go.FM
noncomputable section
open Go.RowKit (Below)
noncomputable section
abbrev Hook := List HV → HT → Nat → CR
def callX (Pr : Program) (D N : Nat) (ext : FuncId → Option Hook) (n : Nat) : Cl := Nat.rec (motive := fun _ => Cl) (fun _ _ _ _ => .x 51) (fun _ ih f args h c => Option.casesOn (ext f) (enter Pr D N ih (compFn Pr D f) args h c) fun q => q args h c) n
end
variable [Env]
def HookOk (Pr : Program) (D : Nat) (f : FuncId) (q : Hook) : Prop := ∀ args h c v h' c', q args h c = .ok v h' c' → v ≠ .dead → Body Pr f ∧ CallT Pr D f args h c v h' c'
def ExtOk (Pr : Program) (D : Nat) (ext : FuncId → Option Hook) : Prop := ∀ f q, ext f = some q → HookOk Pr D f q
section
variable {Pr : Program} {D : Nat} {g : Gm} {c : Nat} {w w' : World}
theorem callX_ok (hmix : Pr.follows .mixedOrders = true) (N : Nat) {ext : FuncId → Option Hook} (hx : ExtOk Pr D ext) : ∀ n, ClOk Pr D (callX Pr D N ext n)
  | 0 => fun fn args h c v h' c' he => by cases he
  | n + 1 => fun fn args h c v h' c' he hv => by
    have e : callX Pr D N ext (n + 1) fn args h c = Option.casesOn (motive := fun _ => CR) (ext fn) (enter Pr D N (callX Pr D N ext n) (compFn Pr D fn) args h c) fun q => q args h c := rfl
    rw [e] at he
    cases hq : ext fn with
    | none => rw [hq] at he; exact enter_ok (callX_ok hmix N hx n) hmix he hv
    | some q => rw [hq] at he; exact hx fn q hq args h c v h' c' he hv
theorem law_fast {N n : Nat} {ext : FuncId → Option Hook} {fn : FuncId} {args : List HV} (hmix : Pr.follows .mixedOrders = true) (hx : ExtOk Pr D ext) (h : isTrue (callX Pr D N ext n fn args .nil 0) = true) {vs : List Value} (ha : TReps (fun _ => ⟨0, 1, 0, 0⟩) 0 args vs) (w : World) :
    Body Pr fn ∧ Calls Pr fn vs.toArray w fun e w' => e = .returned (.bool true) ∧ Below w.heap.size w w' := by
  cases hr : callX Pr D N ext n fn args .nil 0 with
  | x k => rw [hr] at h; cases h
  | ok v h' c' =>
    rw [hr] at h
    cases v <;> try cases h
    obtain ⟨h1, h2⟩ := callX_ok hmix N hx n _ _ _ _ _ _ _ hr (by simp)
    refine ⟨h1, Calls.mono (h2 w (fun _ => ⟨0, 1, 0, 0⟩) vs (HOk.nil (Nat.zero_le _)) ha) fun e w' ⟨u, g', he, q1, q2, q3⟩ => ?_⟩
    have hu : u = .bool true := q3
    subst hu
    refine ⟨he, q2.os, q2.tape, q2.out, q2.sz, fun b hb => q2.fr b hb fun ⟨k, pre, bd, hk, _⟩ => ?_⟩
    rw [hp_nil] at hk; cases hk
theorem wf_u8 {a : Int} (h : (Lit.int .u8 a).wf = true) : 0 ≤ a ∧ a < 256 := by
  simp [Lit.wf, IntKind.min, IntKind.max, IntKind.bits, IntKind.signed] at h; omega
theorem args_nil : TReps g c [] [] := ⟨rfl, fun i x u hx => by simp at hx⟩
theorem args_cons {x : HV} {u : Value} {xs : List HV} {us : List Value} (h : TRep g c x u) (k : TReps g c xs us) : TReps g c (x :: xs) (u :: us) :=
  ⟨by simp [k.1], fun i y v hy hv => by
    cases i with
    | zero => simp at hy hv; subst hy; subst hv; exact h
    | succ i => exact k.2 i y v (by simpa using hy) (by simpa using hv)⟩
theorem arg_md {k : IntKind} {a : Int} {m : Nat} (h0 : 0 ≤ a) (h1 : a ≤ top k) : TRep g c (.md k m (a.toNat % m)) (.int k a) :=
  ⟨a.toNat, by rw [Int.toNat_of_nonneg h0], rfl, by omega⟩
theorem arg_par {k : IntKind} {a : Int} (h0 : k.min ≤ a) (h1 : a ≤ k.max) : TRep g c (.par k (a % 2).toNat) (.int k a) :=
  ⟨a, rfl, by show a % 2 = (((a % 2).toNat : Nat) : Int); omega, h0, h1⟩
theorem Below.ext (h : Below w.heap.size w w') : Ext w w' := ⟨h.os, h.tape, h.output, h.size, h.block⟩
theorem HOk.ext {h : HT} (hi : HOk D g h c w) (hx : Ext w w') : HOk D g h c w' := ⟨hi.deep, hi.le, hi.inv.ext hx⟩
theorem CallT.still {fn : FuncId} {args : List HV} {h : HT} {v : HV} {v0 : Value} (hv : ∀ g, TRep g c v v0)
    (hc : ∀ (w : World) (g : Gm) (vs : List Value), HOk D g h c w → TReps g c args vs → Calls Pr fn vs.toArray w fun e w' => e = .returned v0 ∧ Below w.heap.size w w') : CallT Pr D fn args h c v h c := by
  intro w g vs hi ha
  refine (hc w g vs hi ha).mono fun e w' ⟨he, hb⟩ => ?_
  have hx := Below.ext hb
  exact ⟨v0, g, he, HOk.ext hi hx, Post.ext hi.inv hx, hv g⟩
def trueH : Hook := fun args h c => match args with
  | [] => .ok (.bool true) h c
  | _ => .x 70
end
instance : Env := noEnv
end
end Go.FM

/-! ## FnSort -/
namespace Go.FM
noncomputable section
open Go.Maps Go.WideElems
def insI (a : Int) : List Int → List Int
  | [] => [a]
  | b :: r => if a ≤ b then a :: b :: r else b :: insI a r
def sortI (l : List Int) : List Int := l.foldr insI []
theorem insI_perm (a : Int) : ∀ l, (insI a l).Perm (a :: l)
  | [] => .refl _
  | b :: r => by
    unfold insI
    split
    · exact .refl _
    · exact ((insI_perm a r).cons b).trans (.swap a b r)
theorem insI_sorted (a : Int) : ∀ {l : List Int}, l.Pairwise (· ≤ ·) → (insI a l).Pairwise (· ≤ ·)
  | [], _ => by simp [insI]
  | b :: r, h => by
    unfold insI
    have h' := List.pairwise_cons.1 h
    split
    · rename_i hab
      exact List.pairwise_cons.2 ⟨fun x hx => by
        rcases List.mem_cons.1 hx with rfl | hx
        · exact hab
        · have := h'.1 x hx; omega, h⟩
    · rename_i hab
      refine List.pairwise_cons.2 ⟨fun x hx => ?_, insI_sorted a h'.2⟩
      rcases List.mem_cons.1 ((insI_perm a r).mem_iff.1 hx) with rfl | hx
      · omega
      · exact h'.1 x hx
theorem sortI_perm : ∀ l, (sortI l).Perm l
  | [] => .refl _
  | a :: r => (insI_perm a _).trans ((sortI_perm r).cons a)
theorem sortI_sorted : ∀ l, (sortI l).Pairwise (· ≤ ·)
  | [] => .nil
  | a :: r => insI_sorted a (sortI_sorted r)
theorem sortI_eq {l l' : List Int} (h : l'.Perm l) : l'.mergeSort (fun x y => decide (x ≤ y)) = sortI l := by
  refine List.Perm.eq_of_pairwise (le := fun a b => a ≤ b) (fun a b _ _ h1 h2 => by omega) ?_ (sortI_sorted l) (((List.mergeSort_perm l' _).trans h).trans (sortI_perm l).symm)
  have := List.pairwise_mergeSort (le := fun (x y : Int) => decide (x ≤ y)) (fun a b c h1 h2 => by simp at *; omega) (fun a b => by simp; omega) l'
  exact this.imp fun h => by simpa using h
def inI (n : Int) : Bool := decide (-9223372036854775808 ≤ n) && decide (n ≤ 9223372036854775807)
def okM (es : List ME) (cl : Nat) : Bool := decide (es.map ME.key).Nodup && ((Nat.ble uM cl || (decide (es.map ME.born).Nodup && es.all (fun e => Nat.blt e.born cl))) && (es.all (fun e => inI e.key) && Nat.ble es.length 100000))
def anyR : Value → Option (DataW Unit × List MemPlace) := fun _ => some (.nil, [])
theorem keys_read {P : Program} {K : TypeId} (hK : P.underlying K = some (.int .i64)) {n : Int} (hn : inI n = true) : keyOf P K (.int .i64 n) = some (.int .i64 n) := by
  unfold inI at hn
  simp only [Bool.and_eq_true, decide_eq_true_eq] at hn
  have hw : (Lit.int .i64 n).wf = true := by
    simp [Lit.wf, IntKind.min, IntKind.max, IntKind.bits, IntKind.signed]; omega
  simp [keyOf, hK, mapKey, hw]
section
variable [Env]
variable {P : Program} {K : TypeId} {g : Gm} {c : Nat}
theorem MReps.keys : ∀ {es : List ME} {ms : List MapEntry}, MReps g c es ms → ms.map (·.key) = es.map (fun e => Value.int .i64 e.key) ∧ ms.map (·.born) = es.map ME.born
  | [], [], _ => ⟨rfl, rfl⟩
  | [], _ :: _, h => h.elim
  | _ :: _, [], h => h.elim
  | e :: r, m :: s, h => by
    obtain ⟨q1, q2⟩ := MReps.keys h.2
    exact ⟨by simp [h.1.1, q1], by simp [h.1.2.2, q2]⟩
theorem rg_keys (hK : P.underlying K = some (.int .i64)) : ∀ {es : List ME} {ms : List MapEntry}, MReps g c es ms → es.all (fun e => inI e.key) = true → ms.map (rg P K anyR) = es.map fun e => (Lit.int .i64 e.key, (DataW.nil : DataW Unit))
  | [], [], _, _ => rfl
  | [], _ :: _, h, _ => h.elim
  | _ :: _, [], h, _ => h.elim
  | e :: r, m :: s, h, ha => by
    simp only [List.all_cons, Bool.and_eq_true] at ha
    have := rg_keys hK h.2 ha.2
    simp only [List.map_cons, this]
    congr 1
    exact rg_of (by simp only [rd, h.1.1, keys_read hK ha.1]; rfl)
def dataOf (es : List ME) : DataW Unit := .map ((es.map fun e => (Lit.int .i64 e.key, (DataW.nil : DataW Unit))).foldr DataW.insert [])
theorem dataOf_keys (es : List ME) : (intKeys (dataOf es)).Perm (es.map ME.key) := by
  have h := (Go.WideShapes.sorted_perm (es.map fun e => (Lit.int .i64 e.key, (DataW.nil : DataW Unit)))).map fun p => intOf p.1
  refine h.trans ?_
  rw [List.map_map]
  exact .refl _
theorem dataOf_size (es : List ME) : Maps.size (dataOf es) = es.length := by
  have := (Go.WideShapes.sorted_perm (es.map fun e => (Lit.int .i64 e.key, (DataW.nil : DataW Unit)))).length_eq
  simpa [dataOf, Maps.size] using this
theorem okM_at {es : List ME} {cl cl0 : Nat} {ms : List MapEntry} (h : MapOk g c es cl cl0 ms) (ho : okM es cl = true) :
    ∃ es0, MReps g c es0 ms ∧ simM es es0 ∧ wfM es0 cl0 ∧ (∀ e ∈ es0, inI e.key = true) ∧ es0.length ≤ 100000 ∧ (es.map ME.key).Nodup ∧ (∀ e ∈ es, inI e.key = true) := by
  unfold okM at ho
  simp only [Bool.and_eq_true, Bool.or_eq_true, decide_eq_true_eq] at ho
  obtain ⟨h1, h2, h3, h4⟩ := ho
  have h4 : es.length ≤ 100000 := Nat.le_of_ble_eq_true h4
  have h3' : ∀ e ∈ es, inI e.key = true := List.all_eq_true.1 h3
  rcases h with ⟨hr, rfl, hlt⟩ | ⟨hU, es0, hr, hs, hw⟩
  · rcases h2 with h2 | ⟨h2, h5⟩
    · have := Nat.le_of_ble_eq_true h2; omega
    · refine ⟨es, hr, List.Perm.refl _, ⟨h1, h2, fun e he => Nat.le_of_ble_eq_true (List.all_eq_true.1 h5 e he)⟩, h3', h4, h1, h3'⟩
  · refine ⟨es0, hr, hs, hw, fun e he => ?_, by have := hs.length_eq; simp at this; omega, h1, h3'⟩
    have := hs.keys.mem_iff.1 (List.mem_map_of_mem he)
    obtain ⟨e', he', hk⟩ := List.mem_map.1 this
    rw [← hk]; exact h3' e' he'
theorem owns_of {w : World} {b cl : Nat} {es : List ME} {ms : List MapEntry} (hK : P.underlying K = some (.int .i64)) (hm : w.heap[b]? = some (.map ms.toArray cl)) (hr : MReps g c es ms) (hw : wfM es cl) (hin : ∀ e ∈ es, inI e.key = true) (h4 : es.length ≤ 100000) : w.ownsMap P K anyR b es.length (dataOf es) := by
  obtain ⟨h1, h2, h3⟩ := hw
  have h3' : ∀ e ∈ es, e.born < cl ∧ inI e.key = true := fun e he => ⟨h3 e he, hin e he⟩
  obtain ⟨q1, q2⟩ := hr.keys
  have hall : es.all (fun e => inI e.key) = true := List.all_eq_true.2 fun e he => (h3' e he).2
  have hrg := rg_keys (P := P) hK hr hall
  have hlen := hr.len
  refine ⟨ms.toArray, cl, hm, ⟨?_, ⟨fun x hx => ?_, ?_, ?_⟩, fun x hx => ?_⟩, by simp [hlen], ?_⟩
  · simp only [List.size_toArray, hlen]; have : (100000 : Nat) ≤ maxLen := by decide
    omega
  · have hx : x ∈ ms := hx
    have : x.born ∈ ms.map (·.born) := List.mem_map_of_mem hx
    rw [q2] at this
    obtain ⟨e, he, hb⟩ := List.mem_map.1 this
    rw [← hb]; exact (h3' e he).1
  · show (ms.map (·.born)).Nodup
    rw [q2]; exact h2
  · show (ms.map (·.key)).Nodup
    rw [q1]
    have : es.map (fun e => Value.int .i64 e.key) = (es.map ME.key).map (Value.int .i64) := by rw [List.map_map]; rfl
    rw [this]
    exact List.Pairwise.map _ (fun a b hab h => hab (by injection h)) h1
  · have hx : x ∈ ms := hx
    have : x.key ∈ ms.map (·.key) := List.mem_map_of_mem hx
    rw [q1] at this
    obtain ⟨e, he, hb⟩ := List.mem_map.1 this
    exact ⟨(.int .i64 e.key, .nil), by simp only [rd, ← hb, keys_read hK (h3' e he).2]; rfl⟩
  · show _ = DataW.map ((ms.map (rg P K anyR)).foldr DataW.insert [])
    rw [hrg]; rfl
end
end
end Go.FM

/-! ## FnHeld -/
namespace Go.FM
noncomputable section
open Go.Maps Go.RowKit
def HeldSpec (P : Program) (f off T K : Nat) : Prop := ∀ (w : World) (kb ko b nn : Nat) (D0 : DataW Unit), w.cell? ⟨kb, ko + off, none⟩ = some (.map (some b)) → w.ownsMap P K anyR b nn D0 → Maps.size D0 ≤ maxLen → Maps.size D0 * 8 ≤ 140737488355328 →
  Calls P f #[.pointer (some ⟨kb, ko, none⟩)] w fun e w' => ∃ (v : Value) (ss : List Int), e = .returned v ∧ ss.Perm (intKeys D0) ∧
    w'.ownsRow w.heap.size T 1 v ss.length ((ss.mergeSort (fun x y => decide (x ≤ y))).map (Value.int .i64)) ∧ (v = .slice none 0 0 ↔ ss = []) ∧ Below w.heap.size w w'
def heldH (off D : Nat) : Hook := fun args h c => match args with
  | [x] => match x with
    | .ptr k o => match (HT.get D k h).body with
      | .cells cs => match lget (Nat.add o off) cs with
        | .mp m => match (HT.get D m h).body with
          | .map es cl => if okM es cl && Nat.blt (Nat.add o off) cs.length then match es with
              | [] => .ok .nils h c
              | e :: r => newO D 0 (.cells ((sortI ((e :: r).map ME.key)).map (HV.int .i64))) (.slc c 0 (e :: r).length 1 false) h c
            else .x 90
          | _ => .x 91
        | _ => .x 92
      | _ => .x 93
    | _ => .x 94
  | _ => .x 95
section
variable [Env]
variable {Pr : Program} {D : Nat} {g : Gm} {c : Nat} {w w' : World}
theorem lget_eq : ∀ (n : Nat) (l : List HV), n < l.length → l[n]? = some (lget n l)
  | 0, a :: r, _ => rfl
  | n + 1, a :: r, h => by
    have := lget_eq n r (by simpa using h)
    rw [List.getElem?_cons_succ]; exact this
  | _, [], h => by simp at h
theorem ints_rep {l : List Int} : CReps g c (l.map (HV.int .i64)) (l.map (Value.int .i64)) := by
  refine ⟨by simp, fun i x u hx hu => ?_⟩
  simp only [List.getElem?_map, Option.map_eq_some_iff] at hx hu
  obtain ⟨a, h1, rfl⟩ := hx
  obtain ⟨b, h2, rfl⟩ := hu
  rw [h1] at h2
  simp only [Option.some.injEq] at h2; subst h2
  exact ⟨rfl, rfl⟩
end
end
end Go.FM

/-! ## FnPinned -/
namespace Go.FM
noncomputable section
open Go.Maps Go.RowKit
def pinR (w : World) (off : Nat) : Value → Option (DataW Unit × List MemPlace) := fun v => match v with
  | .pointer (some ⟨b, o, none⟩) => if b < w.heap.size then match w.cell? ⟨b, o + off, none⟩ with
    | some (.int .i64 p) => some (.lit (.int .i64 p), [])
    | _ => none else none
  | _ => none
theorem pinR_some {w : World} {off : Nat} {v : Value} {y : DataW Unit × List MemPlace} (h : pinR w off v = some y) : ∃ b o p, v = .pointer (some ⟨b, o, none⟩) ∧ b < w.heap.size ∧ w.cell? ⟨b, o + off, none⟩ = some (.int .i64 p) ∧ y = (.lit (.int .i64 p), []) := by
  unfold pinR at h
  split at h
  · split at h
    · rename_i hb
      split at h
      · rename_i p hp
        simp only [Option.some.injEq] at h
        exact ⟨_, _, p, rfl, hb, hp, h.symm⟩
      · cases h
    · cases h
  · cases h
def posOf (D0 : DataW Unit) (x : Int) : Bool := match D0.atKey (.int .i64 x) .nil with
  | .lit (.int _ p) => decide (p > 0)
  | _ => false
def PinnedSpec (P : Program) (f off poff K : Nat) : Prop := ∀ (w : World) (kb ko b nn : Nat) (D0 : DataW Unit), w.cell? ⟨kb, ko + off, none⟩ = some (.map (some b)) → kb < w.heap.size → w.ownsMap P K (pinR w poff) b nn D0 → Maps.size D0 ≤ 100000 →
  Calls P f #[.pointer (some ⟨kb, ko, none⟩)] w fun e w' => e = .returned (.int .i64 (((intKeys D0).filter (posOf D0)).length : Int)) ∧ Below w.heap.size w w'
def encP (q : Int × Int) : Lit × DataW Unit := (.int .i64 q.1, .lit (.int .i64 q.2))
def posP (p : Lit × DataW Unit) : Bool := match p.2 with
  | .lit (.int _ n) => decide (n > 0)
  | _ => false
theorem same_int (a b : Int) : (Lit.int .i64 a).sameKey (.int .i64 b) = decide (a = b) := by
  by_cases h : a = b <;> simp [Lit.sameKey, h]
theorem find_mem : ∀ {es : List (Lit × DataW Unit)}, (∀ p ∈ es, ∃ q, p = encP q) → es.Pairwise (fun p q => p.1 ≠ q.1) → ∀ p ∈ es, es.find? (fun x => x.1.sameKey p.1) = some p
  | [], _, _, p, h => by simp at h
  | a :: r, he, hp, p, h => by
    have hp' := List.pairwise_cons.1 hp
    obtain ⟨qa, hqa⟩ := he a (by simp)
    obtain ⟨qp, hqp⟩ := he p h
    rcases List.mem_cons.1 h with rfl | h'
    · have : (fun x : Lit × DataW Unit => x.1.sameKey p.1) p = true := by rw [hqa]; simp [encP, same_int]
      exact List.find?_cons_of_pos this
    · have hne := hp'.1 p h'
      have : ¬ (fun x : Lit × DataW Unit => x.1.sameKey p.1) a = true := by
        rw [hqa, hqp] at hne ⊢
        simp only [encP, same_int, decide_eq_true_eq] at hne ⊢
        exact fun e => hne (by rw [e])
      have e2 : (a :: r).find? (fun x => x.1.sameKey p.1) = r.find? (fun x => x.1.sameKey p.1) := List.find?_cons_of_neg this
      rw [e2]
      exact find_mem (fun x hx => he x (by simp [hx])) hp'.2 p h'
theorem cnt_eq {es : List (Lit × DataW Unit)} (he : ∀ p ∈ es, ∃ q, p = encP q) (hp : es.Pairwise (fun p q => p.1 ≠ q.1)) : ((intKeys (.map es)).filter (posOf (.map es))).length = (es.filter posP).length := by
  have e1 : intKeys (.map es) = es.map fun p => intOf p.1 := rfl
  rw [e1, List.filter_map, List.length_map]
  congr 1
  refine List.filter_congr fun p hm => ?_
  obtain ⟨q, rfl⟩ := he p hm
  have hf := find_mem he hp _ hm
  show posOf (.map es) q.1 = posP (encP q)
  unfold posOf DataW.atKey
  simp only [encP] at hf ⊢
  rw [hf]
  rfl
def pinOf (D poff : Nat) (h : HT) (v : HV) : Option Int := match v with
  | .ptr k o => match (HT.get D k h).body with
    | .cells cs => if Nat.blt (Nat.add o poff) cs.length then match lget (Nat.add o poff) cs with
      | .int ik p => if ikEq ik .i64 then some p else none
      | _ => none else none
    | _ => none
  | _ => none
def pinsM (D poff : Nat) (h : HT) : List ME → Option (List (Int × Int))
  | [] => some []
  | e :: r => match pinOf D poff h e.val with
    | some p => match pinsM D poff h r with
      | some l => some ((e.key, p) :: l)
      | none => none
    | none => none
def cntP (l : List (Int × Int)) : Nat := (l.filter fun q => decide (q.2 > 0)).length
def pinnedH (off poff D : Nat) : Hook := fun args h c => match args with
  | [x] => match x with
    | .ptr k o => match (HT.get D k h).body with
      | .cells cs => match lget (Nat.add o off) cs with
        | .mp m => match (HT.get D m h).body with
          | .map es cl => if okM es cl && Nat.blt (Nat.add o off) cs.length then match pinsM D poff h es with
              | some l => .ok (.int .i64 (.ofNat (cntP l))) h c
              | none => .x 96
            else .x 90
          | _ => .x 91
        | _ => .x 92
      | _ => .x 93
    | _ => .x 94
  | _ => .x 95
section
variable [Env]
variable {Pr : Program} {D K : Nat} {g : Gm} {c : Nat} {w : World} {h : HT}
theorem pinOf_ok (hi : HOk D g h c w) {poff : Nat} {x : HV} {v : Value} {p : Int} (hx : VRep g c x v) (hp : pinOf D poff h x = some p) : pinR w poff v = some (.lit (.int .i64 p), []) := by
  unfold pinOf at hp
  split at hp
  · rename_i k o
    split at hp
    · rename_i cs hcs
      split at hp
      · rename_i hlt
        have hlt : o + poff < cs.length := Nat.le_of_ble_eq_true hlt
        split at hp
        · rename_i ik q hq
          split at hp
          · rename_i hik
            have := ikEq_eq hik; subst this
            simp only [Option.some.injEq] at hp; subst hp
            have hx : CRep g c (.ptr k o) v := hx
            obtain ⟨hk, rfl⟩ := hx
            have hbk := hi.body hk.1 hcs (by simp)
            obtain ⟨us, q1, q2, q3, q4⟩ := hbk.cells
            have hul : o + poff < us.length := by rw [q2.1]; exact hlt
            have hu : us[o + poff]? = some us[o + poff] := List.getElem?_eq_getElem hul
            have hr := (q2.2 (o + poff) _ _ (lget_eq _ _ hlt) hu).1
            have hq' : lget (o + poff) cs = .int .i64 q := hq
            rw [hq'] at hr
            have hr : us[o + poff] = .int .i64 q := hr
            have hcell : w.cell? ⟨(g k).b, (g k).o + o + poff, none⟩ = some (.int .i64 q) := by
              have := q4 (o + poff) _ hu
              rw [hr] at this
              rw [← this, Nat.add_assoc]
            have hb := hbk.lt
            simp only [pinR, addrOf, hb, if_true, hcell]
          · cases hp
        · cases hp
      · cases hp
    · cases hp
  · cases hp
theorem pins_read (hi : HOk D g h c w) (hK : Pr.underlying K = some (.int .i64)) {poff : Nat} : ∀ {es : List ME} {ms : List MapEntry} {l : List (Int × Int)}, MReps g c es ms → es.all (fun e => inI e.key) = true → pinsM D poff h es = some l →
    ms.map (Go.WideElems.rg Pr K (pinR w poff)) = l.map encP ∧ l.map (·.1) = es.map ME.key ∧ ∀ x ∈ ms, ∃ y, Go.WideElems.rd Pr K (pinR w poff) x = some y
  | [], [], l, _, _, hl => by cases hl; exact ⟨rfl, rfl, fun x hx => by simp at hx⟩
  | [], _ :: _, _, h, _, _ => h.elim
  | _ :: _, [], _, h, _, _ => h.elim
  | e :: r, m :: s, l, hm, ha, hl => by
    simp only [List.all_cons, Bool.and_eq_true] at ha
    unfold pinsM at hl
    split at hl
    · rename_i p hp
      split at hl
      · rename_i l' hl'
        simp only [Option.some.injEq] at hl; subst hl
        obtain ⟨q1, q2, q3⟩ := pins_read hi hK hm.2 ha.2 hl'
        have hrd : Go.WideElems.rd Pr K (pinR w poff) m = some (encP (e.key, p)) := by
          simp only [Go.WideElems.rd, hm.1.1, keys_read hK ha.1, pinOf_ok hi hm.1.2.1 hp]; rfl
        refine ⟨by simp only [List.map_cons, q1]; congr 1; exact Go.WideElems.rg_of hrd, by simp [q2], fun x hx => ?_⟩
        rcases List.mem_cons.1 hx with rfl | hx
        · exact ⟨_, hrd⟩
        · exact q3 x hx
      · cases hl
    · cases hl
def pinsK (D poff : Nat) (h : HT) : List (Int × HV) → Option (List (Int × Int))
  | [] => some []
  | e :: r => match pinOf D poff h e.2 with
    | some p => match pinsK D poff h r with
      | some l => some ((e.1, p) :: l)
      | none => none
    | none => none
theorem pins_kv (poff : Nat) : ∀ es : List ME, pinsM D poff h es = pinsK D poff h (es.map kvM)
  | [] => rfl
  | e :: r => by simp only [pinsM, List.map_cons, pinsK, pins_kv poff r, kvM]
theorem pinsK_cons {poff : Nat} {e : Int × HV} {r : List (Int × HV)} {l : List (Int × Int)} (hl : pinsK D poff h (e :: r) = some l) : ∃ p l', pinOf D poff h e.2 = some p ∧ pinsK D poff h r = some l' ∧ l = (e.1, p) :: l' := by
  unfold pinsK at hl
  split at hl
  · rename_i p hp
    split at hl
    · rename_i l' hl'
      simp only [Option.some.injEq] at hl
      exact ⟨p, l', hp, hl', hl.symm⟩
    · cases hl
  · cases hl
theorem pinsK_mk {poff : Nat} {e : Int × HV} {r : List (Int × HV)} {p : Int} {l' : List (Int × Int)} (hp : pinOf D poff h e.2 = some p) (hl : pinsK D poff h r = some l') : pinsK D poff h (e :: r) = some ((e.1, p) :: l') := by
  simp only [pinsK, hp, hl]
theorem pinsK_perm {poff : Nat} {A B : List (Int × HV)} (hp : A.Perm B) : ∀ {l}, pinsK D poff h A = some l → ∃ l', pinsK D poff h B = some l' ∧ l'.Perm l := by
  induction hp with
  | nil => intro l hl; exact ⟨l, hl, .refl _⟩
  | cons x _ ih =>
    intro l hl
    obtain ⟨p, l1, h1, h2, rfl⟩ := pinsK_cons hl
    obtain ⟨l2, q1, q2⟩ := ih h2
    exact ⟨_, pinsK_mk h1 q1, q2.cons _⟩
  | swap x y _ =>
    intro l hl
    obtain ⟨p, l1, h1, h2, rfl⟩ := pinsK_cons hl
    obtain ⟨p2, l2, h3, h4, rfl⟩ := pinsK_cons h2
    exact ⟨_, pinsK_mk h3 (pinsK_mk h1 h4), .swap _ _ _⟩
  | trans _ _ ih1 ih2 =>
    intro l hl
    obtain ⟨l1, q1, q2⟩ := ih1 hl
    obtain ⟨l2, q3, q4⟩ := ih2 q1
    exact ⟨l2, q3, q4.trans q2⟩
theorem pinnedH_ok {f off poff : Nat} (hb : Body Pr f) (hK : Pr.underlying K = some (.int .i64)) (hs : PinnedSpec Pr f off poff K) : HookOk Pr D f (pinnedH off poff D) := by
  intro args h c v h' c' he hv
  refine ⟨hb, ?_⟩
  unfold pinnedH at he
  split at he
  · split at he
    · rename_i k o
      split at he
      · rename_i cs hcs
        split at he
        · rename_i m hm
          split at he
          · rename_i es cl hes
            split at he
            · rename_i hok
              simp only [Bool.and_eq_true] at hok
              obtain ⟨hok, hlt⟩ := hok
              have hlt : o + off < cs.length := Nat.le_of_ble_eq_true hlt
              split at he
              · rename_i l hl
                simp only [CR.ok.injEq] at he
                obtain ⟨rfl, rfl, rfl⟩ := he
                refine CallT.still (v0 := .int .i64 ((cntP l : Nat) : Int)) (fun g => rfl) fun w g vs hi ha => ?_
                obtain ⟨x0, rfl⟩ : ∃ x0, vs = [x0] := List.length_eq_one_iff.1 ha.1
                obtain ⟨hk, rfl⟩ := ha.2 0 _ _ rfl rfl
                have hbk := hi.body hk.1 hcs (by simp)
                obtain ⟨us, q1, q2, q3, q4⟩ := hbk.cells
                have hul : o + off < us.length := by rw [q2.1]; exact hlt
                have hu : us[o + off]? = some us[o + off] := List.getElem?_eq_getElem hul
                have hr := (q2.2 (o + off) _ _ (lget_eq _ _ hlt) hu).1
                have hm' : lget (o + off) cs = .mp m := hm
                rw [hm'] at hr
                obtain ⟨hmn, hmv⟩ := hr
                obtain ⟨ms, cl0, hms, hmo⟩ := map_at hi hmn.1 hes
                obtain ⟨es0, hmr, hsim, hwf, hin, hle0, hnd0, hin'⟩ := okM_at hmo hok
                obtain ⟨l0, hl0, hpl⟩ := pinsK_perm (D := D) (h := _) (poff := poff) hsim.symm (by rw [← pins_kv]; exact hl)
                rw [← pins_kv] at hl0
                have hcell : w.cell? ⟨(g k).b, (g k).o + o + off, none⟩ = some (.map (some (g m).b)) := by
                  have := q4 (o + off) _ hu
                  rw [hmv] at this
                  rw [← this, Nat.add_assoc]
                have hown0 := owns_of (P := Pr) hK hms hmr hwf hin hle0
                have k4 := hle0
                have hall : es0.all (fun e => inI e.key) = true := List.all_eq_true.2 hin
                obtain ⟨p1, p2, p3⟩ := pins_read (Pr := Pr) hi hK hmr hall hl0
                have hown : w.ownsMap Pr K (pinR w poff) (g m).b es0.length (.map ((l0.map encP).foldr DataW.insert [])) := by
                  obtain ⟨es', cl', hb', hF, hsz, _⟩ := hown0
                  rw [hms] at hb'
                  simp only [Option.some.injEq, Obj.map.injEq] at hb'
                  obtain ⟨rfl, rfl⟩ := hb'
                  exact ⟨ms.toArray, cl0, hms, ⟨hF.size, hF.stamped, fun x hx => p3 x hx⟩, hsz, by show _ = DataW.map ((ms.map (Go.WideElems.rg Pr K (pinR w poff))).foldr DataW.insert []); rw [p1]⟩
                have hperm := Go.WideShapes.sorted_perm (l0.map encP)
                have hlen : l0.length = es0.length := by have := congrArg List.length p2; simpa using this
                have hc := hs w (g k).b ((g k).o + o) (g m).b es0.length _ hcell hbk.lt hown (by
                  have := hperm.length_eq
                  simp only [List.length_map] at this
                  simp only [Maps.size]; omega)
                refine hc.mono fun e w' ⟨he0, hbel⟩ => ⟨?_, hbel⟩
                rw [he0]
                have hcnt : cntP l = cntP l0 := (hpl.symm.filter _).length_eq
                rw [hcnt]
                congr 2
                have hnd : ((l0.map encP).foldr DataW.insert []).Pairwise (fun p q => p.1 ≠ q.1) := by
                  have h0 : ((l0.map encP).map (·.1)).Nodup := by
                    have : (l0.map encP).map (·.1) = (l0.map (·.1)).map (Lit.int .i64) := by simp [encP, Function.comp_def]
                    rw [this, p2]
                    exact List.Pairwise.map _ (fun a b hab h => hab (by injection h)) hwf.1
                  have h1 : (((l0.map encP).foldr DataW.insert []).map (·.1)).Nodup := ((hperm.map (·.1)).nodup_iff).2 h0
                  exact List.pairwise_map.1 h1
                rw [cnt_eq (fun p hp => by
                  obtain ⟨q, _, rfl⟩ := List.mem_map.1 (hperm.mem_iff.1 hp)
                  exact ⟨q, rfl⟩) hnd, (hperm.filter _).length_eq, List.filter_map, List.length_map]
                rfl
              · cases he
            · cases he
          · cases he
        · cases he
      · cases he
    · cases he
  · cases he
end
end
end Go.FM
