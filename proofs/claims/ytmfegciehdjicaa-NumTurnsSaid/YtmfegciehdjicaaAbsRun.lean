/-
  The abstract machine: regions, code, calls by fuel.
-/
import Derived.Test.YtmfegciehdjicaaAbsCall2
set_option linter.unusedVariables false
set_option linter.unusedSimpArgs false
namespace Go.AbsM

section
variable {P : Program} {w w' : World} {g : Gh} {may : Nat → Prop} {s s' : St} {a : Act}

theorem Leaves.trans {s0 s1 s2 : St} {w0 w1 w2 : World} {g0 : Gh} {a1 a2 : Act} (h : Leaves P may s0 w0 g0 s1 a1 w1) (k : ∀ g1, Sim P may s1 a1 w1 g1 → Leaves P may s1 w1 g1 s2 a2 w2) : Leaves P may s0 w0 g0 s2 a2 w2 := by
  obtain ⟨g1, h1, h2, h3⟩ := h
  obtain ⟨g2, k1, k2, k3⟩ := k g1 h1
  exact ⟨g2, k1, h2.trans k2, h3.trans k3⟩

def OpWp (P : Program) (o : Oper) (s s' : St) : Prop :=
  ∀ (may : Nat → Prop) (a : Act) (w : World) (g : Gh), Sim P may s a w g → (∀ b, w.heap.size ≤ b → may b) → ∀ (next : Act → World → Prop) (Q : Exit → Act → World → Prop), (∀ a' w', Leaves P may s w g s' a' w' → next a' w') → o.wp P a w next Q

theorem opA_wp {o : Oper} (h : opA P s o = some s') : OpWp P o s s' := by
  intro may a w g hs hm next Q hn
  obtain ⟨w', h1 | h1⟩ := opA_sound hs hm h
  · obtain ⟨v, h1, h2⟩ := h1
    unfold Oper.wp; rw [h1]; exact hn _ _ h2
  · obtain ⟨h1, h2⟩ := h1
    unfold Oper.wp; rw [h1]; exact hn _ _ h2

theorem guardA_sound (hs : Sim P may s a w g) {ops : Array Oper} {o : Oper} {b : Bool} (h : guardA ops s o.guard = some b) : Region.wanted o (yielded ops a.tmps) = b := by
  unfold Region.wanted
  cases hg : o.guard with
  | none => rw [hg] at h; simp [guardA] at h; exact h.symm
  | some p =>
    obtain ⟨j, want⟩ := p
    rw [hg] at h
    simp only [guardA] at h
    split at h
    · rename_i t ht
      have hv := hs.get t
      have hy : yielded ops a.tmps j = match a.tmps[t]? with | some (.bool b) => some b | _ => none := by
        unfold yielded
        rw [ht]
        rfl
      split at h
      · rename_i c hc
        simp only [Option.some.injEq] at h
        rw [hc] at hv
        have := hv.inv_x.1
        have hsz : a.tmps[t]? = some (.bool c) := by
          rw [Array.getD_eq_getD_getElem?] at this
          cases hq : a.tmps[t]? with
          | none => rw [hq] at this; simp [undef] at this
          | some u => rw [hq] at this; simp at this; rw [this]
        simp only [hy, hsz, ← h]
        cases c <;> cases want <;> rfl
      · rename_i hc
        simp only [Option.some.injEq] at h
        rw [hc] at hv
        have hu : a.tmps.getD t undef = undef := hv
        have hn : yielded ops a.tmps j = none := by
          rw [hy]
          rw [Array.getD_eq_getD_getElem?] at hu
          cases hq : a.tmps[t]? with
          | none => rfl
          | some u => rw [hq] at hu; simp at hu; rw [hu]; rfl
        simp only [hn, ← h]
        cases want <;> rfl
      · cases h
    · cases h

theorem opsA_wp {st : Oper → St → Option St} (hst : ∀ (o : Oper) (s s' : St), st o s = some s' → OpWp P o s s') {ops : Array Oper} {Q : Exit → Act → World → Prop} {s0 s1 : St} {w0 : World} {g0 : Gh} (hm : ∀ b, w0.heap.size ≤ b → may b)
    (hQ : ∀ a' w', Leaves P may s0 w0 g0 s1 a' w' → Q .normal a' w') : ∀ (l : List Nat) (s : St) (a : Act) (w : World), opsA st ops l s = some s1 → Leaves P may s0 w0 g0 s a w → wpOps P ops Q l a w := by
  intro l
  induction l with
  | nil =>
    intro s a w h hl
    simp only [opsA, Option.some.injEq] at h; subst h
    exact hQ _ _ hl
  | cons i r ih =>
    intro s a w h hl
    simp only [opsA] at h
    simp only [wpOps]
    obtain ⟨g1, hs, hF, hK⟩ := hl
    have hl : Leaves P may s0 w0 g0 s a w := ⟨g1, hs, hF, hK⟩
    split at h
    · rename_i hi
      simp only [hi]
      exact ih s a w h hl
    · rename_i o hi
      simp only [hi]
      split at h
      · rename_i hg
        have hw := guardA_sound hs hg
        split at h
        · rename_i s2 h2
          rw [if_pos hw]
          refine .inl (hst o s s2 h2 may a w g1 hs (fun b hb => hm b (Nat.le_trans hF.size hb)) _ _ fun a' w' h' => ih s2 a' w' h ?_)
          obtain ⟨g2, k1, k2, k3⟩ := h'
          exact ⟨g2, k1, hF.trans k2, hK.trans k3⟩
        · cases h
      · rename_i hg
        have hw := guardA_sound hs hg
        rw [if_neg (by simp [hw])]
        refine ih _ _ w h ⟨g1, hs.put (x := .und) rfl o.dst, hF, ?_⟩
        rw [put_stores]; exact hK
      · cases h

/-! ### Calls -/

structure EnvOk (P : Program) (E : Env) : Prop where
  fn : ∀ f fn, E.Φ f = some fn → P.funcs[f]? = some fn ∧ (fn.name == "runtime.NumGoroutine") = false
  ga : ∀ f args r, E.Γ f args = some r → (∃ fn c, P.funcs[f]? = some fn ∧ fn.body = some c ∧ (fn.name == "runtime.NumGoroutine") = false) ∧ ∀ S, CallC P f args S S r
  wide : P.follows .mixedOrders = true
  draw : ∀ ops, E.ok ops = true → ∀ (rec : Rec) (s s1 : St) (t : Nat), opsA (fun o s => drawOp P E rec s o) ops (List.range ops.size) s = some s1 → opsA (fun o s => drawOp P E rec s o) ops (Region.schedule true ops t) s = some s1

def Goes (P : Program) (t : Task) (Q : Exit → Act → World → Prop) (a : Act) (w : World) : Prop :=
  match t with
  | .code (.loop c) => ∀ (b : Frame) (k : List Item) (cs : List Frame), ∃ e a' w', Q e a' w' ∧ Arrives P (lone (b.at a (.code c :: .inLoop c :: k)) cs w) b k cs e a' w'
  | .code c => c.wp P Q a w
  | .within c rest => ∀ (b : Frame) (k : List Item) (cs : List Frame), ∃ e a' w', Q e a' w' ∧ Arrives P (lone (b.at a (.code rest :: .inScope c :: k)) cs w) b k cs e a' w'

def RecOk (P : Program) (rec : Rec) : Prop :=
  ∀ (t : Task) (s : St) (e : AExit) (s' : St), rec t s = some (e, s') → ∀ (may : Nat → Prop) (a : Act) (w : World) (g : Gh), Sim P may s a w g → (∀ b, w.heap.size ≤ b → may b) → Goes P t (Goal P may s w g e s') a w

theorem Goes.code {c : Code} {Q : Exit → Act → World → Prop} (h : Goes P (.code c) Q a w) : c.wp P Q a w := by
  cases c with
  | loop c =>
    intro b k cs
    obtain ⟨e, a', w', hq, harr⟩ := h b k cs
    exact ⟨e, a', w', hq, .of_steps (.one step_loop) harr⟩
  | _ => exact h

theorem RecOk.code {rec : Rec} (h : RecOk P rec) {c : Code} {e : AExit} (hr : rec (.code c) s = some (e, s')) : CodeOk P c s e s' := fun may a w g hs hm => (h _ _ _ _ hr may a w g hs hm).code

variable {E : Env}

theorem callA_sound (hE : EnvOk P E) {rec : Rec} (hrec : RecOk P rec) {f : FuncId} {args : List AV} {S S' : List Store} {r : AV} (h : callA P E rec f args S = some (S', r)) :
    (∃ fn c, P.funcs[f]? = some fn ∧ fn.body = some c ∧ (fn.name == "runtime.NumGoroutine") = false) ∧ CallC P f args S S' r := by
  unfold callA at h
  split at h
  · rename_i q hq
    simp only [Option.some.injEq, Prod.mk.injEq] at h
    obtain ⟨rfl, rfl⟩ := h
    obtain ⟨h1, h2⟩ := hE.ga _ _ _ hq
    exact ⟨h1, h2 S⟩
  · split at h
    · rename_i fn hfn
      obtain ⟨hf, hname⟩ := hE.fn _ _ hfn
      split at h
      · rename_i c hc
        split at h
        · rename_i e s hb
          split at h
          · rename_i he
            split at h
            · rename_i l hl
              split at h
              · rename_i s1 l1 hse
                split at h
                · rename_i vs ho
                  split at h
                  · cases h
                  · rename_i t R hst
                    simp only [Option.some.injEq, Prod.mk.injEq] at h
                    obtain ⟨rfl, rfl⟩ := h
                    exact ⟨⟨fn, c, hf, hc, hname⟩, body_sound hf hc (hrec.code hb) he hl hse ho hst rfl⟩
                · cases h
              · cases h
            · cases h
          · cases h
        · cases h
      · cases h
    · cases h

theorem call_run {o : Oper} {c : Call} {f : FuncId} (ho : o.op = .call c) (hc : c.callee = .value (.func f)) (hf : ∃ fn c, P.funcs[f]? = some fn ∧ fn.body = some c ∧ (fn.name == "runtime.NumGoroutine") = false) :
    (execOp a.eval o).run P w = .ok (.enter f (c.args.map a.eval)) w := by
  obtain ⟨fn, cd, h1, h2, h3⟩ := hf
  have hp : (callFunc f (c.args.map a.eval)).run P w = .ok (.enter f (c.args.map a.eval)) w := by
    simp only [callFunc, Sem.run_bind, run_program, Result.andThen_ok, h1, h3, h2]
    rfl
  simp [execOp, ho, Go.resolve, hc, Act.eval, Deferred.ofValue, invoke, hp]

theorem call_wp {o : Oper} {c : Call} {f : FuncId} (ho : o.op = .call c) (hc : c.callee = .value (.func f)) (hf : ∃ fn c, P.funcs[f]? = some fn ∧ fn.body = some c ∧ (fn.name == "runtime.NumGoroutine") = false)
    {next : Act → World → Prop} {Q : Exit → Act → World → Prop} (h : Calls P f (c.args.map a.eval) w fun e w' => ∃ v, e = .returned v ∧ next (a.put o.dst v) w') : o.wp P a w next Q := by
  unfold Oper.wp
  rw [call_run ho hc hf]
  exact Calls.mono h fun e w' ⟨v, he, hn⟩ => by subst he; exact hn

theorem evalOs_reps (hs : Sim P may s a w g) {ps : Array Operand} {l : List AV} (h : evalOs s ps.toList = some l) : ∃ vs : List Value, ps.map a.eval = vs.toArray ∧ HReps P w g s.stores l vs := by
  obtain ⟨h1, h2⟩ := evalOs_sound hs h
  exact ⟨ps.toList.map a.eval, by rw [← Array.toList_map], h1, h2⟩

theorem callOpA_wp (hE : EnvOk P E) {rec : Rec} (hrec : RecOk P rec) {o : Oper} {c : Call} {f : FuncId} (ho : o.op = .call c) (hc : c.callee = .value (.func f)) {as : List AV} (has : evalOs s c.args.toList = some as) (h : callOpA P E rec s o.dst f as = some s') : OpWp P o s s' := by
  intro may a w g hs hm next Q hn
  obtain ⟨vs, hvs, hreps⟩ := evalOs_reps hs has
  unfold callOpA at h
  split at h
  · split at h
    · rename_i s1 bs hl
      split at h
      · rename_i t S r hcall
        simp only [Option.some.injEq] at h; subst h
        obtain ⟨hf, hcc⟩ := callA_sound hE hrec hcall
        refine call_wp ho hc hf ?_
        rw [hvs]
        exact (open_call hs hm hreps hl hcc).mono fun e w' ⟨v, he, hL⟩ => ⟨v, he, hn _ _ hL⟩
      · cases h
    · cases h
  · split at h
    · rename_i s1 bs hl
      split at h
      · rename_i S r hcall
        split at h
        · rename_i hsh
          simp only [Option.some.injEq] at h; subst h
          obtain ⟨hf, hcc⟩ := callA_sound hE hrec hcall
          refine call_wp ho hc hf ?_
          rw [hvs]
          exact (shut_call hs hm hreps hl hcc hsh).mono fun e w' ⟨v, he, hL⟩ => ⟨v, he, hn _ _ hL⟩
        · cases h
      · cases h
    · cases h

theorem stepOp_wp (hE : EnvOk P E) {rec : Rec} (hrec : RecOk P rec) {o : Oper} (h : stepOp P E rec s o = some s') : OpWp P o s s' := by
  unfold stepOp at h
  split at h
  · rename_i c ho
    split at h
    · rename_i f hc
      split at h
      · rename_i as has
        exact callOpA_wp hE hrec ho hc has h
      · cases h
    · exact opA_wp h
  · exact opA_wp h

theorem gotoIn_scope {l : Nat} {c rest : Code} {k : List Item} (h : findLabel c l = some rest) : gotoIn l (.inScope c :: k) = some (.code rest :: .inScope c :: k) := by simp [gotoIn, h]

/-- One step of the machine over a good one is a good one. -/
theorem stepT_ok (hE : EnvOk P E) {rec : Rec} (hrec : RecOk P rec) (hq : ∀ (o : Oper) (s s' : St), drawOp P E rec s o = some s' → OpWp P o s s') : RecOk P (stepT P E rec) := by
  intro t s e s' h may a w g hs hm
  have self : ∀ {a' : Act} {w' : World}, a' = a → w' = w → Leaves P may s w g s a' w' := fun h1 h2 => by subst h1; subst h2; exact .same hs rfl
  unfold stepT at h
  split at h
  · -- skip
    simp only [Option.some.injEq, Prod.mk.injEq] at h; obtain ⟨rfl, rfl⟩ := h
    exact wp_skip ⟨rfl, self rfl rfl⟩
  · simp only [Option.some.injEq, Prod.mk.injEq] at h; obtain ⟨rfl, rfl⟩ := h
    exact wp_label ⟨rfl, self rfl rfl⟩
  · -- region
    rename_i id ops
    split at h
    · rename_i s1 h1
      simp only [Option.some.injEq, Prod.mk.injEq] at h; obtain ⟨rfl, rfl⟩ := h
      exact wp_region (opsA_wp (fun o s s' h => stepOp_wp hE hrec h) hm (fun a' w' hl => ⟨rfl, hl⟩) _ _ _ _ h1 (self rfl rfl))
    · cases h
  · rename_i id ops
    split at h
    · rename_i hok
      split at h
      · rename_i s1 h1
        simp only [Option.some.injEq, Prod.mk.injEq] at h; obtain ⟨rfl, rfl⟩ := h
        refine wp_region_draw fun t => ?_
        rw [hE.wide]
        have h2 := hE.draw ops hok rec s _ t h1
        have hd : Ext w { w with drawn := w.drawn + 1 } := Ext.drew w
        obtain ⟨q1, q2, q3⟩ := hs.grow hm hd (M' := g.M) (fun b o h => h) (fun b o h hn => absurd h hn)
        exact opsA_wp hq hm (fun a' w' hl => ⟨rfl, hl⟩) _ _ _ _ h2 ⟨_, q1, q2, q3.mono (by omega)⟩
      · cases h
    · cases h
  · -- seq
    rename_i x y
    split at h
    · rename_i s1 h1
      refine wp_seq (wp_mono ((hrec _ _ _ _ h1 may a w g hs hm).code) fun ex a1 w1 ⟨hx, hl⟩ => ?_)
      subst hx
      obtain ⟨g1, k1, k2, k3⟩ := hl
      refine wp_mono ((hrec _ _ _ _ h may a1 w1 g1 k1 fun b hb => hm b (Nat.le_trans k2.size hb)).code) fun ex a2 w2 ⟨hx, hl2⟩ => ⟨hx, ?_⟩
      obtain ⟨g2, q1, q2, q3⟩ := hl2
      exact ⟨g2, q1, k2.trans q2, k3.trans q3⟩
    · rename_i hno
      refine wp_seq (wp_mono ((hrec _ _ _ _ h may a w g hs hm).code) fun ex a1 w1 ⟨hx, hl⟩ => ?_)
      subst hx
      cases e with
      | normal => exact absurd h (hno _)
      | exit id => exact ⟨rfl, hl⟩
      | goto l => exact ⟨rfl, hl⟩
      | ret => exact ⟨rfl, hl⟩
  · -- cond
    rename_i c x y
    split at h
    · rename_i t ht
      have := (hs.evalO ht).inv_x.1
      exact wp_cond this ((hrec _ _ _ _ h may a w g hs hm).code)
    · cases h
  · -- block
    rename_i id c
    split at h
    · rename_i i s1 h1
      refine wp_block (wp_mono ((hrec _ _ _ _ h1 may a w g hs hm).code) fun ex a1 w1 ⟨hx, hl⟩ => ?_)
      subst hx
      simp only [AExit.toExit, Exit.inBlock]
      split at h
      · rename_i hid
        simp only [Option.some.injEq, Prod.mk.injEq] at h; obtain ⟨rfl, rfl⟩ := h
        rw [if_pos hid]; exact ⟨rfl, hl⟩
      · rename_i hid
        simp only [Option.some.injEq, Prod.mk.injEq] at h; obtain ⟨rfl, rfl⟩ := h
        rw [if_neg hid]; exact ⟨rfl, hl⟩
    · rename_i hno
      refine wp_block (wp_mono ((hrec _ _ _ _ h may a w g hs hm).code) fun ex a1 w1 ⟨hx, hl⟩ => ?_)
      subst hx
      cases e with
      | exit id => exact absurd h (hno _ _)
      | normal => exact ⟨rfl, hl⟩
      | goto l => exact ⟨rfl, hl⟩
      | ret => exact ⟨rfl, hl⟩
  · -- loop
    rename_i c
    split at h
    · rename_i s1 h1
      intro b k cs
      obtain ⟨ex, a1, w1, ⟨hx, hl⟩, harr⟩ := (hrec _ _ _ _ h1 may a w g hs hm).code b (.inLoop c :: k) cs
      subst hx
      obtain ⟨g1, k1, k2, k3⟩ := hl
      obtain ⟨ex, a2, w2, ⟨hx, hl2⟩, harr2⟩ := hrec _ _ _ _ h may a1 w1 g1 k1 (fun b hb => hm b (Nat.le_trans k2.size hb)) b k cs
      obtain ⟨g2, q1, q2, q3⟩ := hl2
      exact ⟨ex, a2, w2, ⟨hx, g2, q1, k2.trans q2, k3.trans q3⟩, .of_steps (Steps.trans harr (.one step_inLoop)) harr2⟩
    · rename_i hno
      intro b k cs
      obtain ⟨ex, a1, w1, ⟨hx, hl⟩, harr⟩ := (hrec _ _ _ _ h may a w g hs hm).code b (.inLoop c :: k) cs
      subst hx
      cases e with
      | normal => exact absurd h (hno _)
      | exit id => exact ⟨_, a1, w1, ⟨rfl, hl⟩, .pass (x := .inLoop c) rfl (fun _ _ => .inl (by simp [AExit.toExit])) harr⟩
      | goto l => exact ⟨_, a1, w1, ⟨rfl, hl⟩, .pass (x := .inLoop c) rfl (fun _ _ => .inl (by simp [AExit.toExit])) harr⟩
      | ret => exact ⟨_, a1, w1, ⟨rfl, hl⟩, .pass (x := .inLoop c) rfl (fun _ _ => .inl (by simp [AExit.toExit])) harr⟩
  · simp only [Option.some.injEq, Prod.mk.injEq] at h; obtain ⟨rfl, rfl⟩ := h
    exact wp_exit ⟨rfl, self rfl rfl⟩
  · simp only [Option.some.injEq, Prod.mk.injEq] at h; obtain ⟨rfl, rfl⟩ := h
    exact wp_goto ⟨rfl, self rfl rfl⟩
  · simp only [Option.some.injEq, Prod.mk.injEq] at h; obtain ⟨rfl, rfl⟩ := h
    exact wp_ret ⟨rfl, self rfl rfl⟩
  · -- scope
    rename_i c
    intro b k cs
    obtain ⟨ex, a1, w1, hq, harr⟩ := hrec _ _ _ _ h may a w g hs hm b k cs
    exact ⟨ex, a1, w1, hq, .of_steps (.one step_scope) harr⟩
  · -- within
    rename_i c rest
    split at h
    · rename_i l s1 h1
      intro b k cs
      obtain ⟨ex, a1, w1, ⟨hx, hl⟩, harr⟩ := (hrec _ _ _ _ h1 may a w g hs hm).code b (.inScope c :: k) cs
      subst hx
      split at h
      · rename_i rest1 hf
        obtain ⟨g1, k1, k2, k3⟩ := hl
        obtain ⟨ex, a2, w2, ⟨hx, hl2⟩, harr2⟩ := hrec _ _ _ _ h may a1 w1 g1 k1 (fun b hb => hm b (Nat.le_trans k2.size hb)) b k cs
        obtain ⟨g2, q1, q2, q3⟩ := hl2
        exact ⟨ex, a2, w2, ⟨hx, g2, q1, k2.trans q2, k3.trans q3⟩, .of_steps (harr _ (gotoIn_scope hf)) harr2⟩
      · rename_i hf
        simp only [Option.some.injEq, Prod.mk.injEq] at h; obtain ⟨rfl, rfl⟩ := h
        exact ⟨_, a1, w1, ⟨rfl, hl⟩, fun k' hk => harr k' (by simp [gotoIn, hf, hk])⟩
    · rename_i hno
      intro b k cs
      obtain ⟨ex, a1, w1, ⟨hx, hl⟩, harr⟩ := (hrec _ _ _ _ h may a w g hs hm).code b (.inScope c :: k) cs
      subst hx
      cases e with
      | normal => exact ⟨_, a1, w1, ⟨rfl, hl⟩, Steps.trans harr (.one step_inScope)⟩
      | exit id => exact ⟨_, a1, w1, ⟨rfl, hl⟩, fun k' hk => harr k' (by simp [exitTo, hk])⟩
      | goto l => exact absurd h (hno _ _)
      | ret => exact ⟨_, a1, w1, ⟨rfl, hl⟩, harr⟩
  · cases h
  · cases h
end
end Go.AbsM
