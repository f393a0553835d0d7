/-
  The abstract machine: operations of a region whose order is open.
-/
import Derived.Test.YtmfegciehdjicaaAbsRun
set_option linter.unusedVariables false
set_option linter.unusedSimpArgs false
namespace Go.AbsM

section
variable {P : Program} {w w' : World} {g : Gh} {may : Nat → Prop} {s s' : St} {a : Act} {E : Env}

theorem resolve_val {x : AV} (h : x.isVal = true) : resolve s x = some (s, x) := by cases x <;> first | rfl | simp [AV.isVal] at h
theorem resolveAll_val {xs : List AV} (h : xs.all AV.isVal = true) : resolveAll s xs = some (s, xs) := by
  induction xs with
  | nil => rfl
  | cons x r ih =>
    simp only [List.all_cons, Bool.and_eq_true] at h
    simp only [resolveAll, resolve_val h.1, ih h.2]

/-- What a call made for itself is read only from now on. -/
theorem ORep.unown {may0 : Nat → Prop} {g0 : Gh} {S0 : List Store} {M : Nat → Nat → Prop} {x : AV} {v : Value} {b : Nat} (h : ORep P may0 w g0 S0 x v b) (hx : x.shut1 = true) (hM : x.flat2 = true ∨ ∀ b o, g0.M b o → M b o)
    (hb : ∀ b o, may0 b → b < w.heap.size → M b o) : Rep P w M x.unown v := by
  by_cases ho : ∃ e xs, x = .own e xs
  · obtain ⟨e, xs, rfl⟩ := ho
    obtain ⟨h1, h2, h3, he, cur, us, cap, c, rfl, q2, q3, q4, q5, q6, q7, q8, q9, q10⟩ := h
    have hr : RepL P w M e xs us := by
      rcases hM with hM | hM
      · exact q9.flat1 hM
      · exact q9.mono hM (fun _ _ _ => rfl)
    refine .sl rfl hr.1 q2 q3 he hr.2.1 hr.2.2 fun _ => ⟨b, 0, rfl, fun j cv hj => ⟨?_, hb _ _ h1 (lt_of_heap q5)⟩⟩
    rw [Nat.zero_add, cell_of_row w b j cur.toArray e (0, 0) q5]
    rw [← q10, List.getElem?_take] at hj
    split at hj
    · simpa using hj
    · cases hj
  · have h' : HRep1 P w g0 S0 x v := by cases x <;> first | exact h | exact absurd ⟨_, _, rfl⟩ ho
    have hr := h'.shut hx fun e xs he => ho ⟨e, xs, he⟩
    have : Rep P w M x v := by
      rcases hM with hM | hM
      · exact hr.flat1 (by cases x <;> first | exact hM | exact absurd ⟨_, _, rfl⟩ ho)
      · exact hr.mono hM (fun _ _ _ => rfl)
    cases x <;> first | exact this | exact absurd ⟨_, _, rfl⟩ ho

theorem ResRep.unown {may0 : Nat → Prop} {g0 g2 : Gh} {S0 S2 : List Store} {r : AV} {v : Value} (h : ResRep P may0 w g0 S0 r v) (hx : r.shut = true) (hM : r.hasSl = false ∨ ∀ b o, g0.M b o → g2.M b o)
    (hb : ∀ b o, may0 b → b < w.heap.size → g2.M b o) : HRep P w g2 S2 r.unowns v := by
  by_cases ht : ∃ as, r = .tup as
  · obtain ⟨as, rfl⟩ := ht
    obtain ⟨vs, rfl, hl, bl, h1, h2⟩ := h
    refine ⟨vs, rfl, by simpa using hl, fun i c u hc hu => ?_⟩
    simp only [List.getElem?_map, Option.map_eq_some_iff] at hc
    obtain ⟨c', hc, rfl⟩ := hc
    refine HRep1.of_rep ((h1 i c' u hc hu).unown (List.all_eq_true.1 hx c' (List.mem_of_getElem? hc)) ?_ hb)
    rcases hM with hM | hM
    · refine .inl ?_
      simp only [AV.hasSl, Bool.not_eq_false'] at hM
      exact List.all_eq_true.1 hM c' (List.mem_of_getElem? hc)
    · exact .inr hM
  · obtain ⟨b, ho⟩ : ∃ b, ORep P may0 w g0 S0 r v b := by cases r <;> first | exact h | exact absurd ⟨_, rfl⟩ ht
    have := ho.unown (M := g2.M) (by cases r <;> first | exact hx | exact absurd ⟨_, rfl⟩ ht) (by
      rcases hM with hM | hM
      · refine .inl ?_
        cases r <;> first | exact absurd ⟨_, rfl⟩ ht | (simp only [AV.hasSl, Bool.not_eq_false'] at hM; exact hM)
      · exact .inr hM) hb
    have h2 := HRep.of_rep (g := g2) (S := S2) this
    cases r <;> first | exact h2 | exact absurd ⟨_, rfl⟩ ht

theorem quiet_call {f : FuncId} {as : List AV} {S' : List Store} {r : AV} {s1 : St} {args : List AV} {vs : List Value} {d : Option Nat} (hs : Sim P may s a w g) (hm : ∀ b, w.heap.size ≤ b → may b) (hv : HReps P w g s.stores args vs)
    (hra : resolveAll s args = some (s1, as)) (hc : CallC P f as [] S' r) (hsh : r.shut = true) (hor : r.hasSl = false ∨ args.all AV.isVal = true) :
    Calls P f vs.toArray w fun e w' => ∃ v, e = .returned v ∧ Leaves P may s w g (s.put d r.unowns) (a.put d v) w' := by
  obtain ⟨M0, h0, hlt, hlen, hreps⟩ : ∃ M0 : Nat → Nat → Prop, (r.hasSl = false ∨ M0 = g.M) ∧ (∀ b o, M0 b o → b < w.heap.size) ∧ vs.length = as.length ∧ ∀ (i : Nat) (c : AV) (u : Value), as[i]? = some c → vs[i]? = some u → Rep P w M0 c u := by
    by_cases hsl : r.hasSl = false
    · obtain ⟨g1, k1, k2, k3⟩ := resolveAll_sound hs hv.1 hv.2 hra
      exact ⟨g1.M, .inl hsl, k1.1.inv.mlt, k2, k3⟩
    · have hval : args.all AV.isVal = true := by rcases hor with h | h; exact absurd h hsl; exact h
      rw [resolveAll_val hval] at hra
      simp only [Option.some.injEq, Prod.mk.injEq] at hra
      obtain ⟨_, rfl⟩ := hra
      refine ⟨g.M, .inr rfl, hs.inv.mlt, hv.1, fun i c u hc' hu => ?_⟩
      have hcv := List.all_eq_true.1 hval c (List.mem_of_getElem? hc')
      have := hv.2 i c u hc' hu
      cases c <;> first | exact this | simp [AV.isVal] at hcv
  let g0 : Gh := { M := M0, B := fun _ _ => 0, C := fun _ _ => 0 }
  have hi0 : SInv P w g0 (fun b => w.heap.size ≤ b) [] := ⟨(fun i k cs h => by cases h), (fun i k e xs h => by cases h), (fun i k e xs h => by cases h), (fun i k o i' k' o' h => by cases h), hlt⟩
  refine (hc _ w g0 vs hi0 (fun b h => h) hlen fun i x v hx hv' => (hreps i x v hx hv').hrep_any rfl).mono fun e w' ⟨v, g', he, hF, hI, _, hR⟩ => ⟨v, he, ?_⟩
  have hx : Ext w w' := ⟨hF.os, hF.tape, hF.output, hF.size, fun b hb => hF.heap b (by omega)⟩
  obtain ⟨q1, q2, q3⟩ := hs.grow hm hx (M' := fun b o => g.M b o ∨ (w.heap.size ≤ b ∧ b < w'.heap.size)) (fun b o h => .inl h) (fun b o h hn => by
    rcases h with h | h
    · exact absurd h hn
    · exact h)
  have hR' : HRep P w' { g with M := fun b o => g.M b o ∨ (w.heap.size ≤ b ∧ b < w'.heap.size) } s.stores r.unowns v := by
    refine hR.unown hsh ?_ (fun b o hb hl => .inr ⟨hb, hl⟩)
    rcases h0 with h0 | h0
    · exact .inl h0
    · refine .inr fun b o h => ?_
      by_cases hb : w.heap.size ≤ b
      · exact .inr ⟨hb, hI.mlt b o h⟩
      · refine .inl ?_
        have := hF.new b o hb h
        show g.M b o
        rw [← h0]; exact this
  refine ⟨_, q1.put hR' d, q2, ?_⟩
  rw [put_stores]
  exact q3.mono (by omega)

theorem quietA_wp (hE : EnvOk P E) {rec : Rec} (hrec : RecOk P rec) {o : Oper} (h : quietA P E rec s o = some s') : OpWp P o s s' := by
  unfold quietA at h
  split at h
  · rename_i c ho
    split at h
    · rename_i f hc
      split at h
      · rename_i as has
        split at h
        · rename_i s1 bs hra
          split at h
          · rename_i S r hcall
            split at h
            · rename_i hcond
              simp only [Option.some.injEq] at h; subst h
              obtain ⟨hf, hcc⟩ := callA_sound hE hrec hcall
              intro may a w g hs hm next Q hn
              obtain ⟨vs, hvs, hreps⟩ := evalOs_reps hs has
              refine call_wp ho hc hf ?_
              rw [hvs]
              exact (quiet_call hs hm hreps hra hcc hcond.1 hcond.2).mono fun e w' ⟨v, he, hL⟩ => ⟨v, he, hn _ _ hL⟩
            · cases h
          · cases h
        · cases h
      · cases h
    all_goals first | exact opA_wp h | cases h
  all_goals first | exact opA_wp h | skip
  · rename_i src dst x ho
    refine opA_wp ?_
    unfold opA
    rw [ho]
    simp only
    split at h
    · rename_i y hy
      obtain ⟨v, hv, rfl⟩ := Option.map_eq_some_iff.1 h
      simp only [convertA, hv]
    · cases h
  · cases h

theorem drawOp_wp (hE : EnvOk P E) {rec : Rec} (hrec : RecOk P rec) {o : Oper} (h : drawOp P E rec s o = some s') : OpWp P o s s' := by
  unfold drawOp at h
  split at h
  · exact stepOp_wp hE hrec h
  · exact quietA_wp hE hrec h

/-- **Fuel**: every run of the machine is a good one. -/
theorem runN_ok (hE : EnvOk P E) : ∀ n, RecOk P (runN P E n)
  | 0 => fun t s e s' h => by simp [runN] at h
  | n + 1 => stepT_ok hE (runN_ok hE n) fun o s s' h => drawOp_wp hE (runN_ok hE n) h

/-- **A closed run**: values in, a value out. -/
theorem callA_run (hE : EnvOk P E) {n : Nat} {f : FuncId} {args : List AV} {S' : List Store} {r : AV} (h : callA P E (runN P E n) f args [] = some (S', r)) : CallC P f args [] S' r := (callA_sound hE (runN_ok hE n) h).2
end
end Go.AbsM
