/-
  The abstract machine: calls.
-/
import Derived.Test.YtmfegciehdjicaaAbsBind
import Derived.Test.YtmfegciehdjicaaAbsOpA
set_option linter.unusedVariables false
set_option linter.unusedSimpArgs false
namespace Go.AbsM

section
variable {P : Program} {w w' : World} {g : Gh} {may : Nat → Prop} {s s' : St} {a : Act}

def AExit.toExit : AExit → Exit
  | .normal => .normal
  | .exit id => .exit id
  | .goto l => .goto l
  | .ret => .ret

def Goal (P : Program) (may : Nat → Prop) (s : St) (w : World) (g : Gh) (e : AExit) (s' : St) : Exit → Act → World → Prop := fun x a' w' => x = e.toExit ∧ Leaves P may s w g s' a' w'

def CodeOk (P : Program) (c : Code) (s : St) (e : AExit) (s' : St) : Prop :=
  ∀ (may : Nat → Prop) (a : Act) (w : World) (g : Gh), Sim P may s a w g → (∀ b, w.heap.size ≤ b → may b) → c.wp P (Goal P may s w g e s') a w

theorem results_run {fn : Func} {tmps : Array Value} {vs : List Value} {f : ResultVar → Sem Value} (hf : ∀ t, f (.tmp t) = pure (tmps.getD t undef)) (hf' : ∀ c t, f (.cell c t) = do loadVar t (← asAddr (tmps.getD c undef)))
    (h : (fn.results.toList.mapM f).run P w = .ok vs w) : (results fn tmps).run P w = .ok (if h : vs.toArray.size = 1 then vs.toArray[0] else .tuple vs.toArray) w := by
  have hm : (fn.results.mapM f).run P w = .ok vs.toArray w := by
    rw [Array.mapM_eq_mapM_toList]
    simp only [map_eq_pure_bind, Sem.run_bind, h, Result.andThen_ok, Sem.run_pure]
  have he : results fn tmps = (do let vs ← fn.results.mapM f; pure (if h : vs.size = 1 then vs[0] else .tuple vs)) := by
    unfold results
    congr 1
    congr 1
    funext x
    cases x with
    | tmp t => exact (hf t).symm
    | cell c t => exact (hf' c t).symm
  rw [he]
  simp only [Sem.run_bind, hm, Result.andThen_ok, Sem.run_pure]

theorem enter_sim {fn : Func} {args : List AV} {S : List Store} {vs : List Value} (hi : SInv P w g may S) (hl : vs.length = args.length)
    (hr : ∀ (i : Nat) (x : AV) (v : Value), args[i]? = some x → vs[i]? = some v → HRep P w g.push ([] :: S) x v) :
    Sim P may (enterA fn args S) { tmps := vs.toArray ++ Array.replicate (fn.ntmps - vs.toArray.size) undef, defers := [] } w g.push := by
  refine ⟨hi.push, ?_, fun t x hx => ?_, rfl, by simp [enterA]⟩
  · simp [enterA, hl]
  · simp only [enterA] at hx
    rw [List.getElem?_append] at hx
    split at hx
    · rename_i hlt
      have hv : vs[t]? = some (vs[t]'(by omega)) := List.getElem?_eq_getElem _
      have : (vs.toArray ++ Array.replicate (fn.ntmps - vs.toArray.size) undef).getD t undef = vs[t]'(by omega) := by
        rw [Array.getD_eq_getD_getElem?, Array.getElem?_append_left (by simp; omega)]
        simp [hl, hlt]
      rw [this]
      exact hr t x _ hx hv
    · rename_i hge
      rw [List.getElem?_replicate] at hx
      split at hx
      · rename_i hlt
        simp only [Option.some.injEq] at hx; subst hx
        show _ = undef
        rw [Array.getD_eq_getD_getElem?, Array.getElem?_append_right (by simp; omega)]
        simp only [List.size_toArray]
        rw [Array.getElem?_replicate, if_pos (by omega)]
        rfl
      · cases hx

theorem body_sound {f : FuncId} {fn : Func} {c : Code} {args : List AV} {S S' : List Store} {r : AV} {e : AExit} {s1 s2 : St} {l l1 ys : List AV} {t : Store} (hf : P.funcs[f]? = some fn) (hb : fn.body = some c) (hc : CodeOk P c (enterA fn args S) e s1)
    (he : e = .ret ∨ e = .normal) (hl : resultAll P s1 fn.results.toList = some l) (hse : settle s1 l = some (s2, l1)) (ho : outAll s2 [] l1 = some ys) (hst : s2.stores = t :: S') (hr : r = oneOf ys) : CallC P f args S S' r := by
  intro may w g vs hi hm hlen hargs
  refine calls_of_wp hf hb (wp_mono (hc may _ w _ (enter_sim hi hlen hargs) hm) fun x a' w' ⟨hx, g1, h1, h2, h3⟩ => ?_)
  have fin : a'.defers = [] ∧ ∃ v, (results fn a'.tmps).run P w' = .ok v w' ∧ (∃ v' g', Ending.returned v = Ending.returned v' ∧ Fr may w g.M w' g'.M ∧ SInv P w' g' may S' ∧ Kp 0 S g S' g' ∧ ResRep P may w' g' S' r v') := by
    refine ⟨h1.defers, ?_⟩
    obtain ⟨us, hrun, hus⟩ := resultAll_sound (f := (fun | .tmp t => pure (a'.tmps.getD t undef) | .cell c t => do loadVar t (← asAddr (a'.tmps.getD c undef)) : ResultVar → Sem Value)) h1 (fun _ => rfl) (fun _ _ => rfl) hl
    obtain ⟨g2, k1, hus1⟩ := settle_sound h1 hus hse
    obtain ⟨hul, ks, o1, o2, o3⟩ := outAll_sound hst k1.1.inv hus1 ho
    refine ⟨_, results_run (fun _ => rfl) (fun _ _ => rfl) hrun, _, g2.pop, rfl, h2.trans k1.2.1, ?_, ?_, ?_⟩
    · have := k1.1.inv; rw [hst] at this; exact this.pop
    · have := h3.trans (k1.2.2.1.mono (by omega)); rw [hst] at this; exact this.pop
    · subst hr
      have all : OReps P may w' g2.pop S' ys us := ⟨hul, fun i => g2.B 0 (ks i), o1, fun i j e xs e' xs' hi' hj' heq => by
        obtain ⟨_, o, ho1, ho2⟩ := o2 i _ _ hi'
        obtain ⟨_, p, hp1, hp2⟩ := o2 j _ _ hj'
        exact o3 i j _ _ _ _ hi' hj' (k1.1.inv.inj 0 (ks i) o 0 (ks j) p ho1 hp1 ho2 hp2 heq).2⟩
      match ys, us, hul, all with
      | [], [], _, all => exact ⟨[], rfl, all⟩
      | [y], [u], _, all =>
        obtain ⟨_, bl, q1, _⟩ := all
        have := q1 0 y u rfl rfl
        show ResRep P may w' g2.pop S' y u
        unfold ResRep
        split
        · exact this.elim
        · exact ⟨_, this⟩
      | y :: y' :: ys, u :: u' :: us, _, all => exact ⟨_, rfl, all⟩
  rcases he with rfl | rfl
  · subst hx; exact fin
  · subst hx; exact fin

/-- What lies below is as it was; what is new is read only. -/
theorem Sim.grow (hs : Sim P may s a w g) (hm : ∀ b, w.heap.size ≤ b → may b) (hx : Ext w w') {M' : Nat → Nat → Prop} (hM : ∀ b o, g.M b o → M' b o) (hMn : ∀ b o, M' b o → ¬ g.M b o → w.heap.size ≤ b ∧ b < w'.heap.size) :
    Sim P may s a w' { g with M := M' } ∧ Fr may w g.M w' M' ∧ Kp 0 s.stores g s.stores { g with M := M' } := by
  have hcell : ∀ b o, g.M b o → w'.cell? ⟨b, o, none⟩ = w.cell? ⟨b, o, none⟩ := fun b o h => hx.cell (hs.inv.mlt b o h) o
  let g' : Gh := { g with M := M' }
  have hkp : Kp 0 s.stores g s.stores g' := ⟨fun i k cs _ h => ⟨⟨cs, h⟩, rfl⟩, fun i k fz e xs _ h => ⟨fz, xs, h, Nat.le_refl _, fun _ => ⟨rfl, fun hf => ⟨hf, rfl⟩⟩⟩⟩
  have hnew : ∀ b o, b < w.heap.size → M' b o → g.M b o := fun b o hb h => Classical.byContradiction fun hn => by have := (hMn b o h hn).1; omega
  have hinv : SInv P w' g' may s.stores := by
    refine ⟨fun i k cs h => ?_, fun i k e xs h => ?_, fun i k e xs h => ?_, fun i k o i' k' o' h h' => hs.inv.inj i k o i' k' o' h h', fun b o h => ?_⟩
    · obtain ⟨h1, h2, vs, t, h3, h4, h5⟩ := hs.inv.box i k cs h
      exact ⟨h1, fun o ho => h2 o (hnew _ o (lt_of_heap h3) ho), vs, t, by rw [hx.heap _ (lt_of_heap h3)]; exact h3, h4, fun j c u hc hu => ⟨CRep.keep (g := g) (g' := g') (S := s.stores) hM hcell hkp (AV.from_zero _) (h5 j c u hc hu).1, (h5 j c u hc hu).2⟩⟩
    · obtain ⟨h1, h2, he, cur, us, cap, h3, h4, h5, h6, h7, h8, h9⟩ := hs.inv.arr i k e xs h
      exact ⟨h1, fun o ho => h2 o (hnew _ o (lt_of_heap h3) ho), he, cur, us, cap, by rw [hx.heap _ (lt_of_heap h3)]; exact h3, h4, h5, h6, h7, h8.mono hM hcell, h9⟩
    · obtain ⟨he, us, hr, hc⟩ := hs.inv.fz i k e xs h
      exact ⟨he, us, hr.mono hM hcell, fun m cv hm => ⟨(hcell _ _ (hc m cv hm).2).trans (hc m cv hm).1, hM _ _ (hc m cv hm).2⟩⟩
    · by_cases hg : g.M b o
      · exact Nat.lt_of_lt_of_le (hs.inv.mlt b o hg) hx.size
      · exact (hMn b o h hg).2
  exact ⟨hs.keep hM hcell hkp hinv hs.ne, ⟨hx.os, hx.tape, hx.output, hx.size, fun b hb => hx.heap b (Nat.lt_of_not_le fun hh => hb (hm b hh)), hM, hcell, fun b o hb h => hnew b o (Nat.lt_of_not_le fun hh => hb (hm b hh)) h⟩, hkp⟩

theorem Rep.flat0 {M M2 : Nat → Nat → Prop} {x : AV} {v : Value} (h : Rep P w M x v) (hx : x.flat0 = true) : Rep P w M2 x v := by
  cases h with
  | x h => exact .x h
  | str => exact .str
  | nils => exact .nils
  | cap0 => exact .cap0
  | sl => simp [AV.flat0] at hx
  | agg => simp [AV.flat0] at hx
theorem Rep.flat1 {M M2 : Nat → Nat → Prop} {x : AV} {v : Value} (h : Rep P w M x v) (hx : x.flat1 = true) : Rep P w M2 x v := by
  cases h with
  | agg hl hr hv => exact .agg hl (fun i c u hc hu => (hr i c u hc hu).flat0 (List.all_eq_true.1 hx c (List.mem_of_getElem? hc))) hv
  | x h => exact .x h
  | str => exact .str
  | nils => exact .nils
  | cap0 => exact .cap0
  | sl => simp [AV.flat1, AV.flat0] at hx
theorem RepL.flat1 {M M2 : Nat → Nat → Prop} {e : TypeId} {xs : List AV} {us : List Value} (h : RepL P w M e xs us) (hx : xs.all AV.flat1 = true) : RepL P w M2 e xs us :=
  ⟨h.1, fun i x u hc hu => (h.2.1 i x u hc hu).flat1 (List.all_eq_true.1 hx x (List.mem_of_getElem? hc)), h.2.2⟩

theorem HRep1.shut {S : List Store} {x : AV} {v : Value} (h : HRep1 P w g S x v) (hx : x.shut1 = true) (hno : ∀ e xs, x ≠ .own e xs) : Rep P w g.M x v := by
  cases x with
  | agg cs =>
    obtain ⟨vs, rfl, hl, hr⟩ := h
    have hv : ∀ c, c ∈ cs → c.isVal = true := fun c hc => List.all_eq_true.1 hx c hc
    exact .agg hl (fun i c u hc hu => (hr i c u hc hu).1.rep (hv c (List.mem_of_getElem? hc))) hv
  | own e xs => exact absurd rfl (hno e xs)
  | tup => exact h.elim
  | _ =>
    unfold HRep1 at h
    exact CRep.rep h hx

theorem HRep1.of_rep {S : List Store} {x : AV} {v : Value} (h : Rep P w g.M x v) : HRep1 P w g S x v := by
  have := HRep.of_rep (g := g) (S := S) h
  cases h <;> exact this

/-- A result that names nothing, as another caller sees it. -/
theorem ORep.shut {may0 : Nat → Prop} {g0 : Gh} {S0 : List Store} {g2 : Gh} {S2 : List Store} {x : AV} {v : Value} {b : Nat} (h : ORep P may0 w g0 S0 x v b) (hx : x.shut1 = true) (hM : x.flat2 = true ∨ ∀ b o, g0.M b o → g2.M b o)
    (hb : ∀ b, may0 b → (∀ o, ¬ g0.M b o) → may b ∧ (∀ o, ¬ g2.M b o) ∧ ∀ i k o, getOb S2 i k = some o → o.loose = true → g2.B i k ≠ b) : ORep P may w g2 S2 x v b := by
  by_cases ho : ∃ e xs, x = .own e xs
  · obtain ⟨e, xs, rfl⟩ := ho
    obtain ⟨h1, h2, h3, he, cur, us, cap, c, q1, q2, q3, q4, q5, q6, q7, q8, q9, q10⟩ := h
    obtain ⟨k1, k2, k3⟩ := hb b h1 h2
    refine ⟨k1, k2, k3, he, cur, us, cap, c, q1, q2, q3, q4, q5, q6, q7, q8, ?_, q10⟩
    rcases hM with hM | hM
    · exact q9.flat1 hM
    · exact q9.mono hM (fun _ _ _ => rfl)
  · have h' : HRep1 P w g0 S0 x v := by cases x <;> first | exact h | exact absurd ⟨_, _, rfl⟩ ho
    have hr := h'.shut hx fun e xs he => ho ⟨e, xs, he⟩
    have : Rep P w g2.M x v := by
      rcases hM with hM | hM
      · exact hr.flat1 (by cases x <;> first | exact hM | exact absurd ⟨_, _, rfl⟩ ho)
      · exact hr.mono hM (fun _ _ _ => rfl)
    have h2 := HRep1.of_rep (S := S2) this
    cases x <;> first | exact h2 | exact absurd ⟨_, _, rfl⟩ ho

theorem ResRep.shut {may0 : Nat → Prop} {g0 : Gh} {S0 : List Store} {g2 : Gh} {S2 : List Store} {r : AV} {v : Value} (h : ResRep P may0 w g0 S0 r v) (hx : r.shut = true) (hM : r.hasSl = false ∨ ∀ b o, g0.M b o → g2.M b o)
    (hb : ∀ b, may0 b → (∀ o, ¬ g0.M b o) → may b ∧ (∀ o, ¬ g2.M b o) ∧ ∀ i k o, getOb S2 i k = some o → o.loose = true → g2.B i k ≠ b) : ResRep P may w g2 S2 r v := by
  by_cases ht : ∃ as, r = .tup as
  · obtain ⟨as, rfl⟩ := ht
    obtain ⟨vs, rfl, hl, bl, h1, h2⟩ := h
    refine ⟨vs, rfl, hl, bl, fun i c u hc hu => (h1 i c u hc hu).shut (List.all_eq_true.1 hx c (List.mem_of_getElem? hc)) ?_ hb, h2⟩
    rcases hM with hM | hM
    · refine .inl ?_
      simp only [AV.hasSl, Bool.not_eq_false'] at hM
      exact List.all_eq_true.1 hM c (List.mem_of_getElem? hc)
    · exact .inr hM
  · obtain ⟨b, ho⟩ : ∃ b, ORep P may0 w g0 S0 r v b := by cases r <;> first | exact h | exact absurd ⟨_, rfl⟩ ht
    have := ho.shut (g2 := g2) (S2 := S2) (may := may) (by cases r <;> first | exact hx | exact absurd ⟨_, rfl⟩ ht) (by
      rcases hM with hM | hM
      · refine .inl ?_
        cases r <;> first | exact absurd ⟨_, rfl⟩ ht | (simp only [AV.hasSl, Bool.not_eq_false'] at hM; exact hM)
      · exact .inr hM) hb
    cases r <;> first | exact ⟨b, this⟩ | exact absurd ⟨_, rfl⟩ ht

end
end Go.AbsM
