/-
  Texts of a proof over the translated program: proved evaluators and walks, part 7 of 23.
-/
import Derived.Test.YtcogajgikmcfpaaGreatDoorPartQ6
import Derived.Great.BuildSlice
import Derived.Laws.IdiomStrings
import Derived.Orders
import Derived.WalkKit
import Derived.Laws.CopyRow
import Derived.MapKept
set_option linter.unusedVariables false
set_option linter.unusedSimpArgs false
set_option linter.unusedSectionVars false
set_option linter.unnecessarySimpa false
section
namespace Go.AbsM
section
variable {ops : Array Oper} {st : Oper → St → Option St}
def AnyA (ab : Nat → St → Option St) (ops : Array Oper) : Nat → Array Bool → St → St → Prop
  | 0, listed, s, s' => Region.ready .any ops listed = [] ∧ s = s'
  | n + 1, listed, s, s' => (Region.ready .any ops listed = [] → s = s') ∧ ∀ i ∈ Region.ready .any ops listed, ∃ s1, ab i s = some s1 ∧ AnyA ab ops n (listed.setIfInBounds i true) s1 s'
def Comm (ab : Nat → St → Option St) (i j : Nat) : Prop := ∀ s si sij, ab i s = some si → ab j si = some sij → ∃ sj, ab j s = some sj ∧ ab i sj = some sij
theorem getD_true_of {R : Array Bool} {j : Nat} (hj : j < R.size) (h : R.getD j false ≠ true) : R.getD j true = false := by
  simp [hj] at h ⊢; exact h
theorem AnyA.first {ab : Nat → St → Option St} {i : Nat} {R listed0 : Array Bool} (hsz : R.size = ops.size) (hcl : ∀ j, j ∈ Region.ready .any ops R → j = i) (hcomm : ∀ j, R.getD j false = true → listed0.getD j true = false → Comm ab i j) :
    ∀ (fuel : Nat) (listed : Array Bool) (s s1 s' : St), (∀ j, listed.getD j false = true → R.getD j false = true) → (∀ j, listed.getD j true = false → listed0.getD j true = false) → i ∈ Region.ready .any ops listed → ab i s = some s1 →
      AnyA ab ops fuel (listed.setIfInBounds i true) s1 s' → AnyA ab ops (fuel + 1) listed s s' := by
  intro fuel
  induction fuel with
  | zero =>
    intro listed s s1 s' hR h0 hi hab H
    refine ⟨fun h => (by rw [h] at hi; cases hi), fun j hj => ?_⟩
    by_cases hji : j = i
    · subst hji; exact ⟨s1, hab, H⟩
    · have := ready_mono hj hji
      rw [H.1] at this
      cases this
  | succ fuel ih =>
    intro listed s s1 s' hR h0 hi hab H
    refine ⟨fun h => (by rw [h] at hi; cases hi), fun j hj => ?_⟩
    by_cases hji : j = i
    · subst hji; exact ⟨s1, hab, H⟩
    · obtain ⟨s2, h2, H2⟩ := H.2 j (ready_mono hj hji)
      obtain ⟨hjun, oj, hoj, hall⟩ := mem_ready.1 hj
      have hjsz : j < ops.size := (Array.getElem?_eq_some_iff.1 hoj).1
      have hjR : R.getD j false = true := Classical.byContradiction fun hn => hji (hcl j (mem_ready.2 ⟨getD_true_of (by omega) hn, oj, hoj, fun e he hb => hR _ (hall e he hb)⟩))
      obtain ⟨sj, q1, q2⟩ := hcomm j hjR (h0 j hjun) s s1 s2 hab h2
      refine ⟨sj, q1, ih (listed.setIfInBounds j true) sj s2 s' (fun m hm => ?_) (fun m hm => ?_) (ready_mono hi (Ne.symm hji)) q2 ?_⟩
      · by_cases hmj : j = m
        · subst hmj; exact hjR
        · rw [getD_set_ne false hmj] at hm; exact hR m hm
      · by_cases hmj : j = m
        · subst hmj; exact h0 j hjun
        · rw [getD_set_ne true hmj] at hm; exact h0 m hm
      · rw [Array.setIfInBounds_comm _ _ hji]
        exact H2
def around (ops : Array Oper) (i : Nat) : Nat → Array Bool → Array Bool
  | 0, R => R
  | n + 1, R => match (Region.ready .any ops R).filter (fun j => j != i) with
    | [] => R
    | js => around ops i n (js.foldl (fun R j => R.setIfInBounds j true) R)
def commB (solo : Oper → Bool) (ops : Array Oper) (i j : Nat) : Bool :=
  match ops[i]?, ops[j]? with
  | some x, some y => !solo x && !solo y && Oper.apart ops x y
  | _, _ => false
def checkAt (solo : Oper → Bool) (ops : Array Oper) (i : Nat) (listed : Array Bool) : Bool :=
  let R := around ops i ops.size listed
  R.size == ops.size && (Region.ready .any ops R).all (· == i) && (List.range ops.size).all fun j => (!listed.getD j false || R.getD j false) && (!R.getD j false || listed.getD j true || commB solo ops i j)
def drawFrom (solo : Oper → Bool) (ops : Array Oper) : Nat → Nat → Array Bool → Bool
  | 0, _, listed => (Region.ready .any ops listed).isEmpty
  | n + 1, k, listed => (Region.ready .any ops listed).contains k && checkAt solo ops k listed && drawFrom solo ops n (k + 1) (listed.setIfInBounds k true)
def drawB (solo : Oper → Bool) (ops : Array Oper) : Bool := drawFrom solo ops ops.size 0 (Array.replicate ops.size false)
def Dep (st : Oper → St → Option St) (ops : Array Oper) (o : Oper) : Prop :=
  ∀ (s s1 : St), st o s = some s1 → ∃ v, s1 = s.put o.dst v ∧ ∀ s' : St, s'.stores = s.stores → (∀ t, t ∈ o.looksAt ops → s'.get t = s.get t) → st o s' = some (s'.put o.dst v)
end
end Go.AbsM
end

section
namespace Go.FM
noncomputable section
variable [Env]
section
variable {Pr : Program} {D nt gl : Nat} {ops : Array Oper} {X : Nat → Prop} {x : Tc} {p : Nat} {g0 g g' : Gm} {w0 w w' : World} {a : Act} {j : Nat} {o : Oper} {u : Value} {cl : Cl}
theorem SI.opnd (hst : Stat Pr D nt gl ops) (hgl : GlOk nt gl) (hT : TrOk Pr D nt gl ops x ops.toList.length) (h : SI Pr D nt gl ops X x p g0 w0 g a w) (hr : Ready ops X j o) {q : Nat} (hu : q ∈ usesOf ops o) :
    TRep g (x.C ops.toList.length) ((Go.FM.opnd gl (regAt ops j) (.tmp q)).ev (x.T j) (x.F j)) (a.tmps.getD q undef) := by
  have hjl : j < ops.toList.length := (List.getElem?_eq_some_iff.1 hr.1).1
  by_cases hq : q < nt
  · exact (h.tmps.reads hst h.done hr hgl hT hq hu).opnd
  · have e : Go.FM.opnd gl (regAt ops j) (.tmp q) = .c .dead := by
      unfold Go.FM.opnd
      simp only
      cases hi : idx q (regAt ops j) with
      | some k => exact absurd (reg_lt hT j (Nat.le_of_lt hjl) q (idx_mem hi)) hq
      | none =>
        cases hb : Nat.testBit gl q with
        | true => exact absurd (hgl.2 q hb) hq
        | false => rfl
    rw [e]
    exact trivial
theorem SI.opr (hst : Stat Pr D nt gl ops) (hgl : GlOk nt gl) (hT : TrOk Pr D nt gl ops x ops.toList.length) (h : SI Pr D nt gl ops X x p g0 w0 g a w) (hr : Ready ops X j o) :
    Opr gl (regAt ops j) g (x.C ops.toList.length) (x.T j) (x.F j) a.eval o.op := by
  intro y hy
  cases y with
  | tmp q =>
    refine h.opnd hst hgl hT hr ?_
    unfold usesOf
    exact List.mem_append_left _ (List.mem_filterMap.2 ⟨.tmp q, by simpa using hy, rfl⟩)
  | const v => exact TRep.of_val (constV_ok v)
  | func fn => exact ⟨fun p hp => by simp at hp, by simp [Act.eval]⟩
  | global n => exact trivial
theorem SI.guard (hst : Stat Pr D nt gl ops) (hgl : GlOk nt gl) (hT : TrOk Pr D nt gl ops x ops.toList.length) (h : SI Pr D nt gl ops X x p g0 w0 g a w) (hr : Ready ops X j o) :
    Region.wanted o (yielded ops a.tmps) = x.B j := by
  have hjl : j < ops.toList.length := (List.getElem?_eq_some_iff.1 hr.1).1
  refine guard_ok (hT.step j o hjl hr.1).grd fun k want q h1 h2 => h.opnd hst hgl hT hr ?_
  unfold usesOf
  rw [h1]
  simp only
  rw [h2]
  simp
theorem SI.oprC (hst : Stat Pr D nt gl ops) (hgl : GlOk nt gl) (hT : TrOk Pr D nt gl ops x ops.toList.length) (h : SI Pr D nt gl ops X x p g0 w0 g a w) (hr : Ready ops X j o) (hpj : p ≤ j)
    (hk : kdF (foAt Pr D nt gl ops j o) = .new ∨ kdF (foAt Pr D nt gl ops j o) = .eff) : Opr gl (regAt ops j) g (x.C j) (x.T j) (x.F j) a.eval o.op := by
  have hjl : j < ops.toList.length := (List.getElem?_eq_some_iff.1 hr.1).1
  have hc := (hT.step j o hjl hr.1).chk hk
  intro y hy
  have hy1 := h.opr hst hgl hT hr y hy
  unfold chkAt at hc
  cases hl : laterN (ancOf ops) j 0 (kdsOf Pr D nt gl ops) with
  | false => exact hy1.lower (h.below hst hT hr hpj hl)
  | true =>
    rw [hl, if_pos rfl, evs_eq] at hc
    simp only [underA, List.all_eq_true, List.mem_map] at hc
    refine hy1.under (hc _ ⟨_, ?_, rfl⟩)
    exact List.mem_map.2 ⟨y, by simpa using hy, rfl⟩
theorem HOk.nil {c : Nat} (hc : c ≤ 4 ^ D) (hk : ∀ b o, Env.keep b = some o → w.heap[b]? = some o) : HOk D g .nil c w :=
  ⟨deep_nil D, hc, ⟨fun k pre b hk => (by rw [hp_nil] at hk; cases hk), fun k b hk => (by rw [hp_nil] at hk; cases hk), fun k b j pre b' hk => (by rw [hp_nil] at hk; cases hk), fun k pre b k' pre' b' hk => (by rw [hp_nil] at hk; cases hk), fun k hk => absurd (hp_nil D k) hk, fun k p b hk => (by rw [hp_nil] at hk; cases hk)⟩, fun b o hb => ⟨hk b o hb, fun ⟨k, pre, bd, hk, _⟩ => by rw [hp_nil] at hk; cases hk⟩⟩
theorem HOk.up {h : HT} {c c' : Nat} (hi : HOk D g h c w) (hc : c ≤ c') (hc' : c' ≤ 4 ^ D) : HOk D g h c' w :=
  ⟨hi.deep, hc', ⟨fun k pre b hk => (hi.inv.own k pre b hk).mono (fun _ _ => rfl) hc rfl, fun k b hk => (hi.inv.sh k b hk).mono (fun _ _ => rfl) hc rfl, hi.inv.apart, hi.inv.inj, fun k hk => Nat.lt_of_lt_of_le (hi.inv.lt k hk) hc, fun k p b hk => Nat.le_trans (hi.inv.pre k p b hk) hc⟩, hi.kp⟩
theorem SI.step (hcl : ClOk Pr D cl) (hst : Stat Pr D nt gl ops) (hgl : GlOk nt gl) (hT : TrOk Pr D nt gl ops x ops.toList.length) (htop : x.C ops.toList.length ≤ 4 ^ D) (h : SI Pr D nt gl ops X x p g0 w0 g a w) (hr : Ready ops X j o)
    {next : Act → World → Prop} {Q : Exit → Act → World → Prop} (hn : ∀ p' g' a' w', SI Pr D nt gl ops (fun i => X i ∨ i = j) x p' g0 w0 g' a' w' → next a' w') :
    (x.B j = true → o.wp Pr a w next Q) ∧ (x.B j = false → next (a.put o.dst undef) w) := by
  have hjl : j < ops.toList.length := (List.getElem?_eq_some_iff.1 hr.1).1
  have hs := hT.step j o hjl hr.1
  have hmain := h.heap.main
  have hcp : ∀ {m}, m ≤ ops.toList.length → x.C m ≤ x.C ops.toList.length := fun hm => le_C hT hm (Nat.le_refl _)
  have light : ∀ {hh : HT}, kdF (foAt Pr D nt gl ops j o) = .pure ∨ kdF (foAt Pr D nt gl ops j o) = .read → x.B j = true → valG (foAt Pr D nt gl ops j o) (x.T j) (x.F j) hh = x.V j → HOk D g hh (x.C ops.toList.length) w → o.wp Pr a w next Q := by
    intro hh hk hb hv hok
    have hg := hs.grd
    rw [hb] at hg
    obtain ⟨u, hrun, hrep⟩ := light_at hcl (light_kd.2 hk) (by rw [show valG (compG Pr D ops nt gl (regAt ops j) o) (x.T j) (x.F j) hh = x.V j from hv]; exact hs.live) hg (x.C ops.toList.length) a w g (h.opr hst hgl hT hr) hok
    unfold Oper.wp
    rw [hrun]
    refine hn p g _ _ (h.light hst hgl hT hr (fun e => ?_) (fun e => ?_) ?_)
    · have := e.2; rcases hk with hk | hk <;> rw [hk] at this <;> cases this
    · have := e.2.1; rcases hk with hk | hk <;> rw [hk] at this <;> cases this
    · rw [← hv]; exact hrep
  constructor
  · intro hb
    cases hk : kdF (foAt Pr D nt gl ops j o) with
    | pure =>
      refine light (hh := .nil) (.inl hk) hb ?_ (HOk.nil htop fun b o e => (hmain.kp b o e).1)
      rw [(hs.light (light_kd.2 (.inl hk))).1]
      exact valG_pure hk _ _
    | read =>
      obtain ⟨c1, c2⟩ := h.counts hst hr
      exact light (hh := x.H p) (.inr hk) hb (hT.read j o hjl hr.1 hk p h.pos.mark c1 c2) (hmain.up (hcp h.pos.le) htop)
    | new =>
      obtain ⟨q, e1, e2, e3, e4⟩ := hs.al hk hb
      have hnew : IsNew Pr D nt gl ops x j o := ⟨hr.1, hk, hb⟩
      have hpj : p ≤ j := by
        rcases h.pos.last with e | ⟨e, oe, f1, f2, f3⟩
        · omega
        · rcases Nat.lt_trichotomy e j with q | q | q
          · omega
          · subst q; exact absurd f2 hr.2.1
          · rcases hst.pair j e o oe hr.1 f3.1 q with q' | ⟨_, _, q'⟩
            · exact absurd (h.done.anc hst e f2 j q') hr.2.1
            · exact absurd ⟨f3.2, .inr hk⟩ q'
      exact e4 a w g (h.oprC hst hgl hT hr hpj (.inl hk)) (HOk.nil (Nat.le_of_lt e2) fun b o e => (hmain.kp b o e).1) next Q fun u w' g' q1 q2 q3 => hn p g' _ _ (h.new hst hgl hT hr hnew e3 q1 q2 q3)
    | eff =>
      have he : IsEff Pr D nt gl ops j o := ⟨hr.1, hk⟩
      obtain ⟨hpj, hne, hnew⟩ := h.before hst hr he
      obtain ⟨m1, _⟩ := merge hT h.heap hpj (Nat.le_of_lt hjl) hne (fun i o' _ h2 h3 => hnew i o' h2 h3) h.kpn
      exact hs.on hb a w g (h.oprC hst hgl hT hr hpj (.inr hk)) m1 next Q fun u w' g' q1 q2 q3 => hn (j + 1) g' _ _ (h.eff hst hgl hT hr he q1 q2 q3)
  · intro hb
    obtain ⟨e1, e2, e3⟩ := hs.off hb
    cases hk : kdF (foAt Pr D nt gl ops j o) with
    | eff =>
      have he : IsEff Pr D nt gl ops j o := ⟨hr.1, hk⟩
      obtain ⟨hpj, hne, hnew⟩ := h.before hst hr he
      obtain ⟨m1, _⟩ := merge hT h.heap hpj (Nat.le_of_lt hjl) hne (fun i o' _ h2 h3 => hnew i o' h2 h3) h.kpn
      refine hn (j + 1) g _ _ (h.eff hst hgl hT hr he (by rw [e2, e3]; exact m1) (by rw [e2, e3]; exact Post.refl m1.inv) (by rw [e1]; exact rfl))
    | _ =>
      refine hn p g _ _ (h.light hst hgl hT hr (fun e => ?_) (fun e => ?_) (by rw [e1]; exact rfl))
      · have := e.2; rw [hk] at this; cases this
      · have := e.2.2; rw [hb] at this; cases this
end
end
end Go.FM
end

section
namespace Go.FM
noncomputable section
variable [Env]
def XL (listed : Array Bool) (i : Nat) : Prop := listed.getD i false = true
theorem XL_set {listed : Array Bool} {j : Nat} (hj : j < listed.size) : XL (listed.setIfInBounds j true) = fun i => XL listed i ∨ i = j := by
  funext i
  apply propext
  unfold XL
  simp only [Array.getD_eq_getD_getElem?, Array.getElem?_setIfInBounds]
  by_cases h : j = i
  · subst h; simp [hj]
  · simp only [h, if_false]
    constructor
    · exact .inl
    · rintro (q | q)
      · exact q
      · exact absurd q.symm h
section
variable {Pr : Program} {D nt gl : Nat} {ops : Array Oper} {x : Tc} {g0 : Gm} {w0 : World} {cl : Cl} {Q : Exit → Act → World → Prop}
def rsOf (ops : Array Oper) (listed : Array Bool) : List Nat := (List.range ops.size).filter fun i => !listed.getD i true && ((ops[i]?).map (·.after.all fun e => !Region.binds .any e || listed.getD e.on false)).getD false
theorem rs_ready {listed : Array Bool} {i : Nat} (hi : i ∈ rsOf ops listed) : i < ops.size ∧ ∃ o, ops[i]? = some o ∧ Ready ops (XL listed) i o := by
  unfold rsOf at hi
  rw [List.mem_filter] at hi
  obtain ⟨h1, h2⟩ := hi
  have hlt : i < ops.size := List.mem_range.1 h1
  simp only [Bool.and_eq_true, Bool.not_eq_true'] at h2
  obtain ⟨h2, h3⟩ := h2
  have ho : ops[i]? = some ops[i] := Array.getElem?_eq_getElem hlt
  rw [ho] at h3
  simp only [Option.map_some, Option.getD_some] at h3
  refine ⟨hlt, ops[i], ho, by rw [Array.getElem?_toList]; exact ho, fun hx => ?_, fun e he hb => ?_⟩
  · unfold XL at hx
    rw [Array.getD_eq_getD_getElem?] at hx h2
    cases hl : listed[i]? with
    | none => rw [hl] at h2; cases h2
    | some b => rw [hl] at hx h2; simp at hx h2; rw [hx] at h2; cases h2
  · rw [Array.all_eq_true_iff_forall_mem] at h3
    have := h3 e (by simpa using he)
    rw [hb] at this
    simpa [XL] using this
end
end
end Go.FM
end

section
namespace Go.FM
noncomputable section
variable [Env]
def Valid (ops : Array Oper) : List Nat → (Nat → Prop) → Prop
  | [], X => ∀ i, i < ops.toList.length → X i
  | i :: l, X => (∃ o, Ready ops X i o) ∧ Valid ops l fun k => X k ∨ k = i
section
variable {Pr : Program} {D nt gl : Nat} {ops : Array Oper} {x : Tc} {g0 : Gm} {w0 : World} {cl : Cl} {Q : Exit → Act → World → Prop}
theorem valid_wp (hcl : ClOk Pr D cl) (hst : Stat Pr D nt gl ops) (hgl : GlOk nt gl) (hT : TrOk Pr D nt gl ops x ops.toList.length) (htop : x.C ops.toList.length ≤ 4 ^ D)
    (hQ : ∀ X p g a w, (∀ i, i < ops.toList.length → X i) → SI Pr D nt gl ops X x p g0 w0 g a w → Q .normal a w) :
    ∀ (l : List Nat) (X : Nat → Prop) (p : Nat) (g : Gm) (a : Act) (w : World), Valid ops l X → SI Pr D nt gl ops X x p g0 w0 g a w → wpOps Pr ops Q l a w := by
  intro l
  induction l with
  | nil => intro X p g a w hv h; exact hQ X p g a w hv h
  | cons i l ih =>
    intro X p g a w hv h
    obtain ⟨⟨o, hr⟩, hv⟩ := hv
    have ho : ops[i]? = some o := by rw [← Array.getElem?_toList]; exact hr.1
    simp only [wpOps, ho]
    have hg := h.guard hst hgl hT hr
    have next : ∀ p' g' a' w', SI Pr D nt gl ops (fun k => X k ∨ k = i) x p' g0 w0 g' a' w' → wpOps Pr ops Q l a' w' := fun p' g' a' w' h' => ih _ p' g' a' w' hv h'
    obtain ⟨s1, s2⟩ := h.step (Q := Q) hcl hst hgl hT htop hr next
    cases hb : x.B i with
    | true => rw [if_pos (by rw [hg, hb])]; exact .inl (s1 hb)
    | false => rw [if_neg (by rw [hg, hb]; simp)]; exact s2 hb
end
section
variable {ops : Array Oper}
def Low (ops : Array Oper) : Prop := ∀ j o e, ops.toList[j]? = some o → e ∈ o.after.toList → Region.binds .any e = true → e.on < j
theorem rs_low (hlow : Low ops) {listed : Array Bool} (hsz : listed.size = ops.size) (h : rsOf ops listed = []) : ∀ i, i < ops.size → XL listed i := by
  intro i
  induction i using Nat.strongRecOn with
  | ind i ih =>
    intro hlt
    refine Classical.byContradiction fun hx => ?_
    have ho : ops[i]? = some ops[i] := Array.getElem?_eq_getElem hlt
    have : i ∈ rsOf ops listed := by
      unfold rsOf
      rw [List.mem_filter]
      refine ⟨List.mem_range.2 hlt, ?_⟩
      rw [ho]
      simp only [Option.map_some, Option.getD_some, Bool.and_eq_true, Bool.not_eq_true']
      constructor
      · have hs : i < listed.size := by rw [hsz]; exact hlt
        unfold XL at hx
        rw [Array.getD_eq_getD_getElem?] at hx ⊢
        rw [Array.getElem?_eq_getElem hs] at hx ⊢
        simpa using hx
      · rw [Array.all_eq_true_iff_forall_mem]
        intro e he
        cases hb : Region.binds .any e with
        | false => rfl
        | true =>
          have hlo := hlow i ops[i] e (by rw [Array.getElem?_toList]; exact ho) (by simpa using he) hb
          have := ih e.on hlo (by omega)
          simpa [XL] using this
    rw [h] at this
    cases this
theorem go_valid (hlow : Low ops) : ∀ (fuel t : Nat) (listed : Array Bool) (rem : List Nat), listed.size = ops.size → (∀ i, i < ops.size → ¬ XL listed i → i ∈ rem) → rem.length ≤ fuel →
    Valid ops (Region.linearise.go .any ops fuel t listed []) (XL listed) := by
  intro fuel
  induction fuel with
  | zero =>
    intro t listed rem hsz hrem hf
    have : rem = [] := List.length_eq_zero_iff.1 (Nat.le_zero.1 hf)
    subst this
    intro i hi
    refine Classical.byContradiction fun hx => ?_
    have := hrem i (by simpa using hi) hx
    cases this
  | succ fuel ih =>
    intro t listed rem hsz hrem hf
    simp only [Region.linearise.go]
    change Valid ops (match (rsOf ops listed)[t % (rsOf ops listed).length]? with
      | some i => Region.linearise.go .any ops fuel (t / (rsOf ops listed).length) (listed.setIfInBounds i true) [i]
      | none => [].reverse) _
    cases hi : (rsOf ops listed)[t % (rsOf ops listed).length]? with
    | none =>
      have hnil : rsOf ops listed = [] := by
        cases hr : rsOf ops listed with
        | nil => rfl
        | cons y ys =>
          rw [hr] at hi
          have hlt : t % (y :: ys).length < (y :: ys).length := Nat.mod_lt _ (by simp)
          simp at hi
          simp at hlt
          omega
      exact fun i hi => rs_low hlow hsz hnil i (by simpa using hi)
    | some i =>
      simp only []
      obtain ⟨hlt, o, ho, hr⟩ := rs_ready (List.mem_of_getElem? hi)
      rw [linearise_go_acc, List.reverse_singleton, List.singleton_append]
      refine ⟨⟨o, hr⟩, ?_⟩
      rw [← XL_set (by rw [hsz]; exact hlt)]
      refine ih _ _ (rem.erase i) (by simpa using hsz) (fun k hk hx => ?_) ?_
      · rw [XL_set (by rw [hsz]; exact hlt)] at hx
        exact (List.mem_erase_of_ne fun e => hx (.inr e)).2 (hrem k hk fun q => hx (.inl q))
      · rw [List.length_erase_of_mem (hrem i hlt hr.2.1)]
        omega
end
structure PermOk (ops : Array Oper) (π ρ : List Nat) : Prop where
  pi : ∀ k, k < ops.size → nthP π k < ops.size ∧ nthP ρ (nthP π k) = k
  rho : ∀ i, i < ops.size → nthP ρ i < ops.size ∧ nthP π (nthP ρ i) = i
  grd : ∀ (i : Nat) o j b, ops[i]? = some o → o.guard = some (j, b) → j < ops.size
section
variable {Pr : Program} {ops : Array Oper} {π ρ : List Nat} {Q : Exit → Act → World → Prop}
theorem permO_eq (hp : PermOk ops π ρ) : (permO ops π ρ).toList = (List.range ops.size).map fun k => remap ρ (ops[nthP π k]?.getD default) := by
  unfold permO
  have : ∀ l : List Nat, (∀ k ∈ l, k < ops.size) → (l.filterMap fun k => (ops[nthP π k]?).map (remap ρ)) = l.map fun k => remap ρ (ops[nthP π k]?.getD default) := by
    intro l
    induction l with
    | nil => intro _; rfl
    | cons k l ih =>
      intro h
      have hk := (hp.pi k (h k List.mem_cons_self)).1
      rw [List.filterMap_cons, Array.getElem?_eq_getElem hk]
      simp only [Option.map_some, List.map_cons, Option.getD_some, Array.getElem?_eq_getElem hk]
      rw [ih fun j hj => h j (List.mem_cons_of_mem _ hj)]
  exact this _ fun k hk => List.mem_range.1 hk
theorem permO_size (hp : PermOk ops π ρ) : (permO ops π ρ).size = ops.size := by
  rw [← Array.length_toList, permO_eq hp]; simp
theorem permO_get (hp : PermOk ops π ρ) {k : Nat} (hk : k < ops.size) : (permO ops π ρ)[k]? = (ops[nthP π k]?).map (remap ρ) := by
  rw [← Array.getElem?_toList, permO_eq hp, List.getElem?_map, List.getElem?_range hk]
  have hk := (hp.pi k hk).1
  rw [Option.map_some, Array.getElem?_eq_getElem hk]
  rfl
theorem permO_at (hp : PermOk ops π ρ) {i : Nat} {o : Oper} (ho : ops[i]? = some o) : (permO ops π ρ)[nthP ρ i]? = some (remap ρ o) := by
  have hi := (Array.getElem?_eq_some_iff.1 ho).1
  obtain ⟨h1, h2⟩ := hp.rho i hi
  rw [permO_get hp h1, h2, ho]
  rfl
theorem valid_perm (hp : PermOk ops π ρ) : ∀ (l : List Nat) (X : Nat → Prop), (∀ i, X i → i < ops.size) → Valid ops l X → Valid (permO ops π ρ) (l.map (nthP ρ)) (fun k => k < ops.size ∧ X (nthP π k))
  | [], X, hX, hv => fun k hk => by
    have hk : k < ops.size := by simpa [permO_size hp] using hk
    exact ⟨hk, hv _ (by simpa using (hp.pi k hk).1)⟩
  | i :: l, X, hX, ⟨⟨o, hr⟩, hv⟩ => by
    have ho : ops[i]? = some o := by rw [← Array.getElem?_toList]; exact hr.1
    have hi := (Array.getElem?_eq_some_iff.1 ho).1
    obtain ⟨h1, h2⟩ := hp.rho i hi
    refine ⟨⟨remap ρ o, by rw [Array.getElem?_toList]; exact permO_at hp ho, fun h => hr.2.1 (by have h := h.2; rw [h2] at h; exact h), fun e he hb => ?_⟩, ?_⟩
    · simp only [remap, Array.toList_map, List.mem_map] at he
      obtain ⟨e0, he0, rfl⟩ := he
      have hx := hr.2.2 e0 he0 hb
      obtain ⟨q1, q2⟩ := hp.rho e0.on (hX _ hx)
      exact ⟨q1, by show X (nthP π (nthP ρ e0.on)); rw [q2]; exact hx⟩
    · have := valid_perm hp l (fun k => X k ∨ k = i) (fun k hk => hk.elim (hX k) fun e => by rw [e]; exact hi) hv
      have e : (fun k => k < ops.size ∧ (X (nthP π k) ∨ nthP π k = i)) = fun k => (k < ops.size ∧ X (nthP π k)) ∨ k = nthP ρ i := by
        funext k
        apply propext
        constructor
        · rintro ⟨q1, q2 | q2⟩
          · exact .inl ⟨q1, q2⟩
          · exact .inr (by rw [← q2, (hp.pi k q1).2])
        · rintro (⟨q1, q2⟩ | q2)
          · exact ⟨q1, .inl q2⟩
          · exact ⟨by rw [q2]; exact h1, .inr (by rw [q2]; exact h2)⟩
      rw [e] at this
      exact this
theorem yielded_perm (hp : PermOk ops π ρ) {j : Nat} (hj : j < ops.size) (t : Array Value) : yielded (permO ops π ρ) t (nthP ρ j) = yielded ops t j := by
  have ho : ops[j]? = some ops[j] := Array.getElem?_eq_getElem hj
  unfold yielded
  rw [permO_at hp ho, ho]
  rfl
theorem wanted_perm (hp : PermOk ops π ρ) {i : Nat} {o : Oper} (ho : ops[i]? = some o) (t : Array Value) : Region.wanted (remap ρ o) (yielded (permO ops π ρ) t) = Region.wanted o (yielded ops t) := by
  unfold Region.wanted remap
  cases hg : o.guard with
  | none => rfl
  | some p =>
    obtain ⟨j, b⟩ := p
    simp only [Option.map_some]
    rw [yielded_perm hp (hp.grd i o j b ho hg)]
theorem wp_perm (hp : PermOk ops π ρ) : ∀ (l : List Nat) (a : Act) (w : World), (∀ i ∈ l, i < ops.size) → wpOps Pr (permO ops π ρ) Q (l.map (nthP ρ)) a w → wpOps Pr ops Q l a w
  | [], a, w, _, h => h
  | i :: l, a, w, hl, h => by
    have hi := hl i List.mem_cons_self
    have ho : ops[i]? = some ops[i] := Array.getElem?_eq_getElem hi
    have hl' : ∀ i ∈ l, i < ops.size := fun i hi => hl i (List.mem_cons_of_mem _ hi)
    simp only [List.map_cons, wpOps, permO_at hp ho, wanted_perm hp ho] at h
    simp only [wpOps, ho]
    split
    · rename_i hw
      rw [if_pos hw] at h
      rcases h with h | h
      · exact .inl (Oper.wp_mono (o := ops[i]) (fun a' w' h' => wp_perm hp l a' w' hl' h') h)
      · exact .inr h
    · rename_i hw
      rw [if_neg hw] at h
      exact wp_perm hp l _ _ hl' h
theorem valid_lt : ∀ (l : List Nat) (X : Nat → Prop), Valid ops l X → ∀ i ∈ l, i < ops.size
  | [], X, _, i, h => by cases h
  | j :: l, X, ⟨⟨o, hr⟩, hv⟩, i, h => by
    rcases List.mem_cons.1 h with rfl | h
    · simpa using (List.getElem?_eq_some_iff.1 hr.1).1
    · exact valid_lt l _ hv i h
theorem permB_ok (h : permB ops π ρ = true) : PermOk ops π ρ ∧ Low ops := by
  unfold permB at h
  simp only [Bool.and_eq_true, List.all_eq_true] at h
  obtain ⟨h1, h2, h3, h4⟩ := h
  refine ⟨⟨fun k hk => ?_, fun i hi => ?_, fun i o j b ho hg => ?_⟩, fun j o e ho he hb => ?_⟩
  · have := h1 k (List.mem_range.2 hk)
    exact ⟨Nat.le_of_ble_eq_true this.1, Nat.eq_of_beq_eq_true this.2⟩
  · have := h2 i (List.mem_range.2 hi)
    exact ⟨Nat.le_of_ble_eq_true this.1, Nat.eq_of_beq_eq_true this.2⟩
  · have := h3 o (List.mem_of_getElem? (by rw [Array.getElem?_toList]; exact ho))
    rw [hg] at this
    exact Nat.le_of_ble_eq_true this
  · have := h4 (o, j) (by rw [List.mem_zipIdx_iff_getElem?]; exact ho)
    simp only [low, List.all_eq_true] at this
    have := this e he
    rw [if_pos hb] at this
    exact Nat.le_of_ble_eq_true this
end
end
end Go.FM
end

section
namespace Go.FM
noncomputable section
variable [Env]
section
variable {Pr : Program} {D nt gl : Nat} {ops : Array Oper} {cl : Cl} {Q : Exit → Act → World → Prop} {g : Gm} {w : World} {a : Act} {s : S} {t : L} {reg : List Nat}
def blank (g : Gm) (c c' : Nat) : Gm := fun k => if c ≤ k ∧ k < c' then ⟨0, 1, 0, 0⟩ else g k
theorem draw_ops (hcl : ClOk Pr D cl) (hgl : GlOk nt gl) (hmix : Pr.follows .mixedOrders = true) (hok : okRows ops (ancOf ops) ((kdsOf Pr D nt gl ops).zip ops.toList) 0 ((kdsOf Pr D nt gl ops).zip ops.toList) = true)
    (hx : ∀ w, runDraw cl D (compD gl (ancOf ops) (kdsOf Pr D nt gl ops) 0 [] (fopsOf Pr D ops nt gl [] ops.toList) ops.toList) [] s ≠ .x w)
    (hs : SRel nt gl reg g s.c t s.f a) (hi : HOk D g s.h s.c w) {l : List Nat} (hv : Valid ops l (XL (Array.replicate ops.size false)))
    (hQ : ∀ t' s' a' w' g', runDraw cl D (compD gl (ancOf ops) (kdsOf Pr D nt gl ops) 0 [] (fopsOf Pr D ops nt gl [] ops.toList) ops.toList) [] s = .n t' s' → SRel nt gl (regOps [] ops.toList) g' s'.c t' s'.f a' → HOk D g' s'.h s'.c w' → Post g (hp D s.h) s.c w g' (hp D s'.h) s'.c w' → Q .normal a' w') :
    wpOps Pr ops Q l a { w with drawn := w.drawn + 1 } := by
  have hst := stat_of hok
  let x0 : Tc := ⟨fun _ => [], fun _ => s.f, fun _ => s.h, fun _ => s.c, fun _ => .und, fun _ => true⟩
  obtain ⟨x, k1, hT, hrun, htop⟩ := runD_tr (Pr := Pr) (D := D) (nt := nt) (gl := gl) (ops := ops) (cl := cl) hcl hst.seen ops.toList 0 x0 [s.h] .nil [] s rfl rfl (fun j o hj => absurd hj (Nat.not_lt_zero j)) ⟨fun j o hj => absurd hj (Nat.not_lt_zero j), fun j o hj => absurd hj (Nat.not_lt_zero j)⟩ rfl rfl rfl rfl hx
  rw [Nat.zero_add] at hT hrun htop
  have eT : x.T 0 = [] := k1.T 0 (Nat.le_refl 0)
  have eF : x.F 0 = s.f := k1.F 0 (Nat.le_refl 0)
  have eH : x.H 0 = s.h := k1.H 0 (Nat.le_refl 0)
  have eC : x.C 0 = s.c := k1.C 0 (Nat.le_refl 0)
  have hle : s.c ≤ x.C ops.toList.length := by rw [← eC]; exact le_C hT (Nat.zero_le _) (Nat.le_refl _)
  have lowg : ∀ k, k < s.c → blank g s.c (x.C ops.toList.length) k = g k := fun k hk => if_neg (by omega)
  have none : ∀ i, ¬ XL (Array.replicate ops.size false) i := by
    intro i hi
    unfold XL at hi
    rw [Array.getD_eq_getD_getElem?, Array.getElem?_replicate] at hi
    split at hi <;> cases hi
  have start : SI Pr D nt gl ops (XL (Array.replicate ops.size false)) x 0 g w (blank g s.c (x.C ops.toList.length)) a { w with drawn := w.drawn + 1 } := by
    refine ⟨⟨fun i hi => absurd hi (none i), fun i o e hi => absurd hi (none i)⟩, ⟨Nat.zero_le _, .inl rfl, fun e o hi => absurd hi (none e)⟩, hs.size, hs.defers,
      ⟨⟨by rw [eH]; exact hi.deep, by rw [eC]; exact hi.le, by rw [eH, eC]; exact hi.inv.congr lowg fun b _ => rfl, by rw [eH]; exact fun b ob hb => ⟨(hi.kp b ob hb).1, fun ⟨k, pre, bd, hk, e⟩ => (hi.kp b ob hb).2 ⟨k, pre, bd, hk, by rw [← lowg k (hi.inv.lt k (by rw [hk]; simp))]; exact e⟩⟩⟩, fun i o hi => absurd hi (none i), fun i o i' o' hi => absurd hi (none i), fun k hk hn => ?_⟩, fun q hq => ?_, fun k hk => ?_, fun b _ _ => rfl, fun b hb => ?_, fun b hb => ?_, fun i o hi => absurd hi (none i), Nat.le_refl _, rfl, rfl, rfl, fun b o hb => (Array.getElem?_eq_some_iff.1 (hi.kp b o hb).1).1⟩
    · rw [eC] at hk
      have e : blank g s.c (x.C ops.toList.length) k = ⟨0, 1, 0, 0⟩ := if_pos ⟨hk, hn.1⟩
      have := hn.2
      rw [e] at this
      simp at this
    · refine ⟨0, Nat.zero_le _, .inl rfl, fun i o hi => absurd hi (none i), fun hb => ?_, fun j hj => ?_⟩
      · rw [eF]; exact (hs.vars q hb).mono lowg hle
      · simp [regAt, regOps, idx] at hj
    · rw [eC] at hk
      exact if_neg (by omega)
    · right
      rw [eH] at hb ⊢
      obtain ⟨k, pre, bd, hk, e⟩ := hb
      exact ⟨k, pre, bd, hk, by rw [← lowg k (hi.inv.lt k (by rw [hk]; simp))]; exact e⟩
    · right
      rw [eH] at hb ⊢
      obtain ⟨k, hk, e⟩ := hb
      exact ⟨k, hk, by rw [← lowg k (hi.inv.lt k hk)]; exact e⟩
  refine valid_wp hcl hst hgl hT htop (fun X p g' a' w' hall h => ?_) l _ 0 _ a _ hv start
  obtain ⟨m1, m2, m3, m4, m5⟩ := merge hT h.heap h.pos.le (Nat.le_refl _) (fun e o h1 h2 he => by have := h.pos.all e o (hall e h2) he; omega) (fun i o _ h2 _ => hall i h2) h.kpn
  have er : regAt ops ops.toList.length = regOps [] ops.toList := by unfold regAt; rw [List.take_length]
  have hsr := h.tmps.all hgl hT hall h.size h.defers fun q j hj => reg_lt hT _ (Nat.le_refl _) q (idx_mem hj)
  rw [er] at hsr
  refine hQ _ _ a' w' g' hrun hsr m1 ⟨fun k hk => h.ag k (by rw [eC]; exact hk), hle, m1.inv, fun b hb hn => h.fr b hb (by rw [eH]; exact hn), fun b hb => ?_, fun b hb => ?_, h.sz, h.os, h.tape, h.out⟩
  · rcases m5 b hb with q | ⟨i, o, b1, b2, b3, b4⟩
    · rw [← eH]; exact h.ow b q
    · exact .inl (by rw [← b4]; exact h.nw i o (hall i b2) b1 b3)
  · rcases m4 b hb with q | ⟨i, o, b1, b2, b3, b4⟩
    · rw [← eH]; exact h.hs b q
    · exact .inl (by rw [← b4]; exact h.nw i o (hall i b2) b1 b3)
theorem draw_wp (hcl : ClOk Pr D cl) (hgl : GlOk nt gl) (hmix : Pr.follows .mixedOrders = true) (hok : okRows (opsP ops) (ancOf (opsP ops)) ((kdsOf Pr D nt gl (opsP ops)).zip (opsP ops).toList) 0 ((kdsOf Pr D nt gl (opsP ops)).zip (opsP ops).toList) = true)
    (hx : ∀ w, runDraw cl D (compD gl (ancOf (opsP ops)) (kdsOf Pr D nt gl (opsP ops)) 0 [] (fopsOf Pr D (opsP ops) nt gl [] (opsP ops).toList) (opsP ops).toList) [] s ≠ .x w)
    (hs : SRel nt gl reg g s.c t s.f a) (hi : HOk D g s.h s.c w) {id : Nat}
    (hQ : ∀ t' s' a' w' g', runDraw cl D (compD gl (ancOf (opsP ops)) (kdsOf Pr D nt gl (opsP ops)) 0 [] (fopsOf Pr D (opsP ops) nt gl [] (opsP ops).toList) (opsP ops).toList) [] s = .n t' s' → SRel nt gl (regOps [] (opsP ops).toList) g' s'.c t' s'.f a' → HOk D g' s'.h s'.c w' → Post g (hp D s.h) s.c w g' (hp D s'.h) s'.c w' → Q .normal a' w') :
    (Code.region id ops true).wp Pr Q a w := by
  refine wp_region_draw fun tt => ?_
  rw [hmix]
  show wpOps Pr ops Q (Region.linearise.go .any ops ops.size tt (Array.replicate ops.size false) []) a { w with drawn := w.drawn + 1 }
  have plain : ∀ o', opsP ops = o' → o' = ops → wpOps Pr ops Q (Region.linearise.go .any ops ops.size tt (Array.replicate ops.size false) []) a { w with drawn := w.drawn + 1 } := by
    intro o' e1 e2
    have e := e1.trans e2
    rw [e] at hok hx hQ
    exact draw_ops hcl hgl hmix hok hx hs hi (go_valid (stat_of hok).low ops.size tt _ (List.range ops.size) (by simp) (fun i hlt _ => List.mem_range.2 hlt) (by simp)) hQ
  unfold opsP at plain
  split at plain
  · simp only at plain
    split at plain
    · rename_i hn hb
      obtain ⟨hp, hlow⟩ := permB_ok hb
      have e : opsP ops = permO ops (orderP ops.toList.zipIdx ops.size []) (invP (orderP ops.toList.zipIdx ops.size []) ops.size) := by
        unfold opsP; rw [if_pos hn]; simp only; rw [if_pos hb]
      have hv := go_valid hlow ops.size tt (Array.replicate ops.size false) (List.range ops.size) (by simp) (fun i hlt _ => List.mem_range.2 hlt) (by simp)
      have no : ∀ i, ¬ XL (Array.replicate ops.size false) i := by
        intro i hi
        unfold XL at hi
        rw [Array.getD_eq_getD_getElem?, Array.getElem?_replicate] at hi
        split at hi <;> cases hi
      have hv2 := valid_perm hp _ _ (fun i hi => absurd hi (no i)) hv
      refine wp_perm hp _ a _ (valid_lt _ _ hv) ?_
      rw [← e] at hv2 ⊢
      refine draw_ops hcl hgl hmix hok hx hs hi ?_ hQ
      have e2 : (fun k => k < ops.size ∧ XL (Array.replicate ops.size false) (nthP (orderP ops.toList.zipIdx ops.size []) k)) = XL (Array.replicate (opsP ops).size false) := by
        funext k
        refine propext ⟨fun h => absurd h.2 (no _), fun hi => ?_⟩
        unfold XL at hi
        rw [Array.getD_eq_getD_getElem?, Array.getElem?_replicate] at hi
        split at hi <;> cases hi
      rw [← e2]
      exact hv2
    · exact plain ops rfl rfl
  · exact plain ops rfl rfl
end
end
end Go.FM
end

section
namespace Go.FM
noncomputable section
variable [Env]
section
variable {Pr : Program} {D nt gl : Nat} {cl : Cl} {g : Gm} {w : World} {a : Act} {s : S} {t : L} {reg : List Nat}
def EndOk (D nt gl : Nat) (reg : List Nat) (g : Gm) (h : HT) (c : Nat) (w : World) (r : R) (e : Exit) (a' : Act) (w' : World) : Prop := ∃ g' t' s', SRel nt gl reg g' s'.c t' s'.f a' ∧ HOk D g' s'.h s'.c w' ∧ Post g (hp D h) c w g' (hp D s'.h) s'.c w' ∧ match r with
  | .n t s => e = .normal ∧ t' = t ∧ s' = s
  | .ex id s => e = .exit id ∧ reg = [] ∧ s' = s
  | .go l s => e = .goto l ∧ reg = [] ∧ s' = s
  | .ret s => e = .ret ∧ reg = [] ∧ s' = s
  | .x _ => False
def regR (reg : List Nat) (r : R) : List Nat := match r with
  | .n _ _ => reg
  | _ => []
def Goal (Pr : Program) (D nt gl : Nat) (reg : List Nat) (g : Gm) (s : S) (w : World) (r : R) : Exit → Act → World → Prop := EndOk D nt gl (regR reg r) g s.h s.c w r
def live (r : R) : Prop := ∀ w, r ≠ .x w
def Goes (Pr : Program) (c : Code) (Q : Exit → Act → World → Prop) (a : Act) (w : World) : Prop := match c with
  | .loop c => ∀ (b : Frame) (k : List Item) (cs : List Frame), ∃ e a' w', Q e a' w' ∧ Arrives Pr (lone (b.at a (.code c :: .inLoop c :: k)) cs w) b k cs e a' w'
  | c => c.wp Pr Q a w
theorem Goes.code {c : Code} {Q : Exit → Act → World → Prop} (h : Goes Pr c Q a w) : c.wp Pr Q a w := by
  cases c with
  | loop c =>
    intro b k cs
    obtain ⟨e, a', w', hq, harr⟩ := h b k cs
    exact ⟨e, a', w', hq, .of_steps (.one step_loop) harr⟩
  | _ => exact h
def Within (Pr : Program) (sc rest : Code) (Q : Exit → Act → World → Prop) (a : Act) (w : World) : Prop :=
  ∀ (b : Frame) (k : List Item) (cs : List Frame), ∃ e a' w', Q e a' w' ∧ Arrives Pr (lone (b.at a (.code rest :: .inScope sc :: k)) cs w) b k cs e a' w'
structure RecOk (Pr : Program) (D nt gl : Nat) (rec : Rec) : Prop where
  code : ∀ (c : Code) (reg : List Nat) (t : L) (s : S), live (rec (.c (comp Pr D nt gl reg c)) t s) → ∀ (a : Act) (w : World) (g : Gm), SRel nt gl reg g s.c t s.f a → HOk D g s.h s.c w → Goes Pr c (Goal Pr D nt gl (regOut reg c) g s w (rec (.c (comp Pr D nt gl reg c)) t s)) a w
  within : ∀ (sc rest : Code) (s : S), live (rec (.w sc (comp Pr D nt gl [] rest)) [] s) → ∀ (a : Act) (w : World) (g : Gm) (t : L), SRel nt gl [] g s.c t s.f a → HOk D g s.h s.c w → Within Pr sc rest (Goal Pr D nt gl [] g s w (rec (.w sc (comp Pr D nt gl [] rest)) [] s)) a w
theorem EndOk.trans {g1 : Gm} {s1 : S} {w1 : World} {h : HT} {c : Nat} {r : R} {e : Exit} {a' : Act} {w' : World} (hp1 : Post g (hp D h) c w g1 (hp D s1.h) s1.c w1) (k : EndOk D nt gl reg g1 s1.h s1.c w1 r e a' w') : EndOk D nt gl reg g h c w r e a' w' := by
  obtain ⟨g', t', s', h1, h2, h3, h4⟩ := k
  exact ⟨g', t', s', h1, h2, hp1.trans h3, h4⟩
theorem plain_wp (hcl : ClOk Pr D cl) (hgl : GlOk nt gl) {id : Nat} {ops : Array Oper} (hx : live (runOps cl (compOps Pr D ops nt gl [] ops.toList) [] s)) (hs : SRel nt gl reg g s.c t s.f a) (hi : HOk D g s.h s.c w) :
    (Code.region id ops false).wp Pr (Goal Pr D nt gl (regOps [] ops.toList) g s w (runOps cl (compOps Pr D ops nt gl [] ops.toList) [] s)) a w := by
  refine wp_region ?_
  have := ops_wp (Pr := Pr) (D := D) (nt := nt) (gl := gl) (ops := ops) (Q := Goal Pr D nt gl (regOps [] ops.toList) g s w (runOps cl (compOps Pr D ops nt gl [] ops.toList) [] s)) hcl hgl ops.toList 0 [] [] s a w g rfl hx (hs.nil []) hi fun t' s' a' w' g' e h1 h2 h3 => by
    rw [e]
    exact ⟨g', t', s', h1, h2, h3, rfl, rfl, rfl⟩
  rw [List.range_eq_range']
  simpa using this
theorem open_wp (hcl : ClOk Pr D cl) (hgl : GlOk nt gl) (hmix : Pr.follows .mixedOrders = true) {id : Nat} {ops : Array Oper} (hok : okRows (opsP ops) (ancOf (opsP ops)) ((kdsOf Pr D nt gl (opsP ops)).zip (opsP ops).toList) 0 ((kdsOf Pr D nt gl (opsP ops)).zip (opsP ops).toList) = true)
    (hx : live (runDraw cl D (compD gl (ancOf (opsP ops)) (kdsOf Pr D nt gl (opsP ops)) 0 [] (fopsOf Pr D (opsP ops) nt gl [] (opsP ops).toList) (opsP ops).toList) [] s)) (hs : SRel nt gl reg g s.c t s.f a) (hi : HOk D g s.h s.c w) :
    (Code.region id ops true).wp Pr (Goal Pr D nt gl (regOps [] (opsP ops).toList) g s w (runDraw cl D (compD gl (ancOf (opsP ops)) (kdsOf Pr D nt gl (opsP ops)) 0 [] (fopsOf Pr D (opsP ops) nt gl [] (opsP ops).toList) (opsP ops).toList) [] s)) a w :=
  draw_wp hcl hgl hmix hok hx hs hi fun t' s' a' w' g' e h1 h2 h3 => by
    rw [e]
    exact ⟨g', t', s', h1, h2, h3, rfl, rfl, rfl⟩
end
end
end Go.FM
end

section
namespace Go.FM
noncomputable section
variable [Env]
theorem gotoIn_scope {l : Nat} {c rest : Code} {k : List Item} (h : findLabel c l = some rest) : gotoIn l (.inScope c :: k) = some (.code rest :: .inScope c :: k) := by simp [gotoIn, h]
section
variable {Pr : Program} {D nt gl : Nat} {cl : Cl}
theorem stepT_ok (hcl : ClOk Pr D cl) (hgl : GlOk nt gl) (hmix : Pr.follows .mixedOrders = true) {rec : Rec} (hrec : RecOk Pr D nt gl rec) : RecOk Pr D nt gl (stepT Pr D nt gl rec (runOps cl) (runDraw cl D)) where
  code := by
    intro c reg t s hx a w g hs hi
    have self : ∀ {r : R} {e : Exit} {reg' : List Nat} {t' : L}, SRel nt gl reg' g s.c t' s.f a → (match r with
      | .n t s2 => e = .normal ∧ t' = t ∧ s = s2
      | .ex id s2 => e = .exit id ∧ reg' = [] ∧ s = s2
      | .go l s2 => e = .goto l ∧ reg' = [] ∧ s = s2
      | .ret s2 => e = .ret ∧ reg' = [] ∧ s = s2
      | .x _ => False) → EndOk D nt gl reg' g s.h s.c w r e a w := by
      intro r e reg' t' h1 h2
      cases r <;> exact ⟨g, _, s, h1, hi, Post.refl hi.inv, h2⟩
    cases c with
    | skip => exact wp_skip (self (r := .n t s) hs ⟨rfl, rfl, rfl⟩)
    | label l => exact wp_label (self (r := .n t s) hs ⟨rfl, rfl, rfl⟩)
    | exit id => exact wp_exit (self (r := .ex id s) (hs.nil t) ⟨rfl, rfl, rfl⟩)
    | goto l => exact wp_goto (self (r := .go l s) (hs.nil t) ⟨rfl, rfl, rfl⟩)
    | ret => exact wp_ret (self (r := .ret s) (hs.nil t) ⟨rfl, rfl, rfl⟩)
    | region id ops dr =>
      cases dr with
      | false => exact plain_wp hcl hgl hx hs hi
      | true =>
        have e : comp Pr D nt gl reg (.region id ops true) = compDraw Pr D (opsP ops) nt gl := rfl
        rw [e] at hx ⊢
        unfold compDraw at hx ⊢
        simp only at hx ⊢
        split at hx
        · rename_i hok
          rw [if_pos hok]
          exact open_wp hcl hgl hmix hok hx hs hi
        · exact absurd rfl (hx 35)
    | seq x y =>
      have e : stepT Pr D nt gl rec (runOps cl) (runDraw cl D) (.c (comp Pr D nt gl reg (.seq x y))) t s = andThen (rec (.c (comp Pr D nt gl (regOut reg x) y))) (rec (.c (comp Pr D nt gl reg x)) t s) := rfl
      rw [e] at hx ⊢
      have hx1 : live (rec (.c (comp Pr D nt gl reg x)) t s) := fun w h => by rw [h] at hx; exact hx w rfl
      have h1 := (hrec.code x reg t s hx1 a w g hs hi).code
      show (Code.seq x y).wp Pr _ a w
      refine wp_seq (wp_mono h1 fun ex a1 w1 hl => ?_)
      cases hr : rec (.c (comp Pr D nt gl reg x)) t s with
      | n t1 s1 =>
        rw [hr] at hl hx
        obtain ⟨g1, t', s', k1, k2, k3, rfl, rfl, rfl⟩ := hl
        refine wp_mono (hrec.code y (regOut reg x) t' s' hx a1 w1 g1 k1 k2).code fun ex a2 w2 hl2 => ?_
        exact EndOk.trans k3 hl2
      | x w => exact absurd hr (hx1 w)
      | ex id s1 =>
        rw [hr] at hl
        obtain ⟨g1, t', s', k1, k2, k3, rfl, k5, k6⟩ := hl
        exact ⟨g1, t', s', k1, k2, k3, rfl, k5, k6⟩
      | go l s1 =>
        rw [hr] at hl
        obtain ⟨g1, t', s', k1, k2, k3, rfl, k5, k6⟩ := hl
        exact ⟨g1, t', s', k1, k2, k3, rfl, k5, k6⟩
      | ret s1 =>
        rw [hr] at hl
        obtain ⟨g1, t', s', k1, k2, k3, rfl, k5, k6⟩ := hl
        exact ⟨g1, t', s', k1, k2, k3, rfl, k5, k6⟩
    | cond c x y =>
      have e : stepT Pr D nt gl rec (runOps cl) (runDraw cl D) (.c (comp Pr D nt gl reg (.cond c x y))) t s = br (rec (.c (comp Pr D nt gl [] x)) [] s) (rec (.c (comp Pr D nt gl [] y)) [] s) ((opnd gl reg c).ev t s.f) := rfl
      rw [e] at hx ⊢
      have hc := opnd_ok hs c
      show (Code.cond c x y).wp Pr _ a w
      cases hv : (opnd gl reg c).ev t s.f <;> rw [hv] at hx hc <;> try exact absurd rfl (hx 52)
      rename_i b
      have hc : a.eval c = .bool b := hc
      have out : ∀ {z : Code} {r : R}, r = rec (.c (comp Pr D nt gl [] z)) [] s → live r → z.wp Pr (Goal Pr D nt gl [] g s w r) a w := by
        intro z r hr hl
        subst hr
        refine wp_mono (hrec.code z [] [] s hl a w g (hs.nil []) hi).code fun ex a2 w2 hl2 => ?_
        obtain ⟨g1, t', s', k1, k2, k3, k4⟩ := hl2
        cases hr : rec (.c (comp Pr D nt gl [] z)) [] s with
        | x w => exact absurd hr (hl w)
        | n t1 s1 => rw [hr] at k1 k4; exact ⟨g1, t', s', k1.nil t', k2, k3, k4⟩
        | ex i s1 => rw [hr] at k1 k4; exact ⟨g1, t', s', k1.nil t', k2, k3, k4.1, rfl, k4.2.2⟩
        | go l s1 => rw [hr] at k1 k4; exact ⟨g1, t', s', k1.nil t', k2, k3, k4.1, rfl, k4.2.2⟩
        | ret s1 => rw [hr] at k1 k4; exact ⟨g1, t', s', k1.nil t', k2, k3, k4.1, rfl, k4.2.2⟩
      refine wp_cond hc ?_
      cases b with
      | true => exact out rfl hx
      | false => exact out rfl hx
    | block id c =>
      have e : stepT Pr D nt gl rec (runOps cl) (runDraw cl D) (.c (comp Pr D nt gl reg (.block id c))) t s = inBlock id (rec (.c (comp Pr D nt gl [] c)) [] s) := rfl
      rw [e] at hx ⊢
      have hx1 : live (rec (.c (comp Pr D nt gl [] c)) [] s) := fun w h => by rw [h] at hx; exact hx w rfl
      show (Code.block id c).wp Pr _ a w
      refine wp_block (wp_mono (hrec.code c [] [] s hx1 a w g (hs.nil []) hi).code fun ex a2 w2 hl2 => ?_)
      obtain ⟨g1, t', s', k1, k2, k3, k4⟩ := hl2
      cases hr : rec (.c (comp Pr D nt gl [] c)) [] s with
      | x w => exact absurd hr (hx1 w)
      | n t1 s1 =>
        rw [hr] at k4 k1
        obtain ⟨rfl, rfl, rfl⟩ := k4
        exact ⟨g1, t', s', k1.nil t', k2, k3, rfl, rfl, rfl⟩
      | go l s1 =>
        rw [hr] at k4 k1
        obtain ⟨rfl, _, rfl⟩ := k4
        exact ⟨g1, t', s', k1.nil t', k2, k3, rfl, rfl, rfl⟩
      | ret s1 =>
        rw [hr] at k4 k1
        obtain ⟨rfl, _, rfl⟩ := k4
        exact ⟨g1, t', s', k1.nil t', k2, k3, rfl, rfl, rfl⟩
      | ex i s1 =>
        rw [hr] at k4 k1
        obtain ⟨rfl, _, rfl⟩ := k4
        simp only [Exit.inBlock]
        have ei : inBlock id (.ex i s') = (Nat.beq i id).casesOn (.ex i s') (.n [] s') := rfl
        rw [ei]
        by_cases hid : i = id
        · subst hid
          rw [Nat.beq_refl]
          simp only [if_pos rfl]
          exact ⟨g1, [], s', k1.nil [], k2, k3, rfl, rfl, rfl⟩
        · have hb : Nat.beq i id = false := by
            cases hb : Nat.beq i id with
            | false => rfl
            | true => exact absurd (Nat.eq_of_beq_eq_true hb) hid
          rw [hb, if_neg hid]
          exact ⟨g1, t', s', k1.nil t', k2, k3, rfl, rfl, rfl⟩
    | loop c =>
      have e : stepT Pr D nt gl rec (runOps cl) (runDraw cl D) (.c (comp Pr D nt gl reg (.loop c))) t s = andThen (fun _ s => rec (.c (comp Pr D nt gl [] (.loop c))) [] s) (rec (.c (comp Pr D nt gl [] c)) [] s) := rfl
      rw [e] at hx ⊢
      have hx1 : live (rec (.c (comp Pr D nt gl [] c)) [] s) := fun w h => by rw [h] at hx; exact hx w rfl
      intro b k cs
      obtain ⟨ex, a1, w1, hl, harr⟩ := (hrec.code c [] [] s hx1 a w g (hs.nil []) hi).code b (.inLoop c :: k) cs
      obtain ⟨g1, t', s', k1, k2, k3, k4⟩ := hl
      cases hr : rec (.c (comp Pr D nt gl [] c)) [] s with
      | x w => exact absurd hr (hx1 w)
      | n t1 s1 =>
        rw [hr] at k4 k1 hx
        obtain ⟨rfl, rfl, rfl⟩ := k4
        obtain ⟨ex2, a2, w2, hl2, harr2⟩ := hrec.code (.loop c) [] [] s' hx a1 w1 g1 (k1.nil []) k2 b k cs
        exact ⟨ex2, a2, w2, EndOk.trans k3 hl2, .of_steps (Steps.trans harr (.one step_inLoop)) harr2⟩
      | go l s1 =>
        rw [hr] at k4 k1
        obtain ⟨rfl, _, rfl⟩ := k4
        exact ⟨_, a1, w1, ⟨g1, t', s', k1.nil t', k2, k3, rfl, rfl, rfl⟩, .pass (x := .inLoop c) rfl (fun _ _ => .inl (by simp)) harr⟩
      | ret s1 =>
        rw [hr] at k4 k1
        obtain ⟨rfl, _, rfl⟩ := k4
        exact ⟨_, a1, w1, ⟨g1, t', s', k1.nil t', k2, k3, rfl, rfl, rfl⟩, .pass (x := .inLoop c) rfl (fun _ _ => .inl (by simp)) harr⟩
      | ex i s1 =>
        rw [hr] at k4 k1
        obtain ⟨rfl, _, rfl⟩ := k4
        exact ⟨_, a1, w1, ⟨g1, t', s', k1.nil t', k2, k3, rfl, rfl, rfl⟩, .pass (x := .inLoop c) rfl (fun _ _ => .inl (by simp)) harr⟩
    | scope c =>
      have e : stepT Pr D nt gl rec (runOps cl) (runDraw cl D) (.c (comp Pr D nt gl reg (.scope c))) t s = rec (.w c (comp Pr D nt gl [] c)) [] s := rfl
      rw [e] at hx ⊢
      intro b k cs
      obtain ⟨ex, a1, w1, hq, harr⟩ := hrec.within c c s hx a w g [] (hs.nil []) hi b k cs
      exact ⟨ex, a1, w1, hq, .of_steps (.one step_scope) harr⟩
    | rangeFunc _ _ _ _ => exact absurd rfl (hx 33)
    | refuse _ => exact absurd rfl (hx 33)
  within := by
    intro sc rest s hx a w g t hs hi b k cs
    have e : stepT Pr D nt gl rec (runOps cl) (runDraw cl D) (.w sc (comp Pr D nt gl [] rest)) [] s = inScope Pr D nt gl rec sc (rec (.c (comp Pr D nt gl [] rest)) [] s) := rfl
    rw [e] at hx ⊢
    have hx1 : live (rec (.c (comp Pr D nt gl [] rest)) [] s) := fun w h => by rw [h] at hx; exact hx w rfl
    obtain ⟨ex, a1, w1, hl, harr⟩ := (hrec.code rest [] [] s hx1 a w g (hs.nil []) hi).code b (.inScope sc :: k) cs
    obtain ⟨g1, t', s', k1, k2, k3, k4⟩ := hl
    cases hr : rec (.c (comp Pr D nt gl [] rest)) [] s with
    | x w => exact absurd hr (hx1 w)
    | n t1 s1 =>
      rw [hr] at k4 k1
      obtain ⟨rfl, rfl, rfl⟩ := k4
      exact ⟨_, a1, w1, ⟨g1, t', s', k1.nil t', k2, k3, rfl, rfl, rfl⟩, Steps.trans harr (.one step_inScope)⟩
    | ex i s1 =>
      rw [hr] at k4 k1
      obtain ⟨rfl, _, rfl⟩ := k4
      exact ⟨_, a1, w1, ⟨g1, t', s', k1.nil t', k2, k3, rfl, rfl, rfl⟩, fun k' hk => harr k' (by simp [exitTo, hk])⟩
    | ret s1 =>
      rw [hr] at k4 k1
      obtain ⟨rfl, _, rfl⟩ := k4
      exact ⟨_, a1, w1, ⟨g1, t', s', k1.nil t', k2, k3, rfl, rfl, rfl⟩, harr⟩
    | go l s1 =>
      rw [hr] at k4 k1 hx
      obtain ⟨rfl, _, rfl⟩ := k4
      have e2 : inScope Pr D nt gl rec sc (.go l s') = again Pr D nt gl rec sc l s' := rfl
      rw [e2] at hx ⊢
      unfold again at hx ⊢
      cases hf : findLabel sc l with
      | some rest1 =>
        rw [hf] at hx
        obtain ⟨ex2, a2, w2, hl2, harr2⟩ := hrec.within sc rest1 s' hx a1 w1 g1 [] (k1.nil []) k2 b k cs
        exact ⟨ex2, a2, w2, EndOk.trans k3 hl2, .of_steps (harr _ (gotoIn_scope hf)) harr2⟩
      | none =>
        exact ⟨_, a1, w1, ⟨g1, t', s', k1.nil t', k2, k3, rfl, rfl, rfl⟩, fun k' hk => harr k' (by simp [gotoIn, hf, hk])⟩
end
end
end Go.FM
end

section
namespace Go.FM
noncomputable section
variable [Env]
section
variable {Pr : Program} {D nt gl : Nat} {cl : Cl}
theorem runT_ok (hcl : ClOk Pr D cl) (hgl : GlOk nt gl) (hmix : Pr.follows .mixedOrders = true) : ∀ n, RecOk Pr D nt gl (runT Pr D cl nt gl n)
  | 0 => ⟨fun c reg t s hx => absurd rfl (hx 50), fun sc rest s hx => absurd rfl (hx 50)⟩
  | n + 1 => stepT_ok hcl hgl hmix (runT_ok hcl hgl hmix n)
theorem fget_und (r : Nat) : fget r und4 = .und := by
  have h1 : ∀ i, Q.get i und1 = .und := fun i => by unfold Q.get; rw [sel4_lt]; (repeat' split) <;> rfl
  have h2 : ∀ i, Q.get i und2 = und1 := fun i => by unfold Q.get; rw [sel4_lt]; (repeat' split) <;> rfl
  have h3 : ∀ i, Q.get i und3 = und2 := fun i => by unfold Q.get; rw [sel4_lt]; (repeat' split) <;> rfl
  have h4 : ∀ i, Q.get i und4 = und3 := fun i => by unfold Q.get; rw [sel4_lt]; (repeat' split) <;> rfl
  unfold fget
  rw [h4, h3, h2, h1]
theorem glOk_of (h1 : Nat.ble (rank gl nt) 256 = true) (h2 : Nat.blt gl (Nat.pow 2 nt) = true) : GlOk nt gl := by
  refine ⟨Nat.le_of_ble_eq_true h1, fun q hq => ?_⟩
  have hlt : gl < 2 ^ nt := Nat.le_of_ble_eq_true h2
  rcases Nat.lt_or_ge q nt with h | h
  · exact h
  · have := Nat.testBit_lt_two_pow (Nat.lt_of_lt_of_le hlt (Nat.pow_le_pow_right (by omega) h))
    rw [this] at hq; cases hq
theorem initF_ok (hgl : GlOk nt gl) : ∀ (n t : Nat) (args : List HV) (f f' : F), t + n ≤ nt → initF (parPs gl n t) args f = some f' → args.length = n ∧ ∀ q, Nat.testBit gl q = true → fget (rank gl q) f' = if t ≤ q ∧ q < t + n then args.getD (q - t) .dead else fget (rank gl q) f := by
  intro n
  induction n with
  | zero =>
    intro t args f f' hn h
    cases args with
    | nil =>
      have : f = f' := Option.some.inj h
      subst this
      exact ⟨rfl, fun q _ => by rw [if_neg (by omega)]⟩
    | cons a r => cases h
  | succ n ih =>
    intro t args f f' hn h
    cases args with
    | nil => cases h
    | cons v r =>
      have e : parPs gl (n + 1) t = dstP gl (some t) :: parPs gl n (t + 1) := rfl
      rw [e] at h
      have h : initF (parPs gl n (t + 1)) r (putF (dstP gl (some t)) v f) = some f' := h
      obtain ⟨h1, h2⟩ := ih (t + 1) r _ f' (by omega) h
      refine ⟨by simp [h1], fun q hb => ?_⟩
      rw [h2 q hb]
      by_cases hq : t + 1 ≤ q ∧ q < t + 1 + n
      · rw [if_pos hq, if_pos (by omega), show q - t = (q - (t + 1)) + 1 by omega]
        simp
      · rw [if_neg hq]
        have ed : dstP gl (some t) = (Nat.testBit gl t).casesOn (motive := fun _ => P) .loc (pVar (rank gl t)) := rfl
        rw [ed]
        have r1 : rank gl q < 256 := Nat.lt_of_lt_of_le (rank_lt gl (hgl.2 q hb) hb) hgl.1
        cases hbt : Nat.testBit gl t with
        | false =>
          have : q ≠ t := fun e => by rw [e, hbt] at hb; cases hb
          rw [if_neg (by omega)]
          rfl
        | true =>
          obtain ⟨p, hp, hpv⟩ := pVar_eq (rank gl t)
          have r2 : rank gl t < 256 := Nat.lt_of_lt_of_le (rank_lt gl (by omega) hbt) hgl.1
          show fget (rank gl q) (putF (pVar (rank gl t)) v f) = _
          rw [hp]
          show fget (rank gl q) (p v f) = _
          rw [hpv, fget_fset r1 r2]
          by_cases hqt : q = t
          · subst hqt
            rw [if_pos rfl, if_pos (by omega)]
            simp
          · rw [if_neg fun e => hqt (rank_inj gl hb hbt e), if_neg (by omega)]
theorem enter_srel (hgl : GlOk nt gl) {n : Nat} {args : List HV} {vs : List Value} {f : F} {g : Gm} {c : Nat} (hargs : TReps g c args vs) (hn : n ≤ nt) (h : initF (parPs gl n 0) args und4 = some f) :
    SRel nt gl [] g c [] f { tmps := vs.toArray ++ Array.replicate (nt - vs.toArray.size) undef, defers := [] } := by
  obtain ⟨h1, h2⟩ := initF_ok hgl n 0 args und4 f (by omega) h
  have hl : vs.length = n := hargs.1.trans h1
  refine ⟨by simp; omega, fun q hb => ?_, fun q j hj => by simp [idx] at hj, rfl⟩
  rw [h2 q hb]
  have hq := hgl.2 q hb
  by_cases hlt : q < n
  · rw [if_pos ⟨Nat.zero_le _, by omega⟩]
    have ha : args[q]? = some (args[q]'(by omega)) := List.getElem?_eq_getElem _
    have hv : vs[q]? = some (vs[q]'(by omega)) := List.getElem?_eq_getElem _
    have e1 : args.getD (q - 0) .dead = args[q]'(by omega) := by simp [List.getD_eq_getElem?_getD, ha]
    have e2 : (vs.toArray ++ Array.replicate (nt - vs.toArray.size) undef).getD q undef = vs[q]'(by omega) := by
      rw [Array.getD_eq_getD_getElem?, Array.getElem?_append_left (by simp; omega)]
      simp [hl, hlt]
    rw [e1, e2]
    exact hargs.2 q _ _ ha hv
  · rw [if_neg (by omega), fget_und]
    show _ = undef
    rw [Array.getD_eq_getD_getElem?, Array.getElem?_append_right (by simp; omega)]
    simp only [List.size_toArray]
    rw [Array.getElem?_replicate, if_pos (by omega)]
    rfl
theorem TRep.val {g : Gm} {c : Nat} {x : HV} {u : Value} (h : TRep g c x u) (hl : x.live = true) : VRep g c x u := by
  cases x <;> first | exact h | cases hl
theorem res_one {g : Gm} {h : HT} {c : Nat} {w : World} {f : F} {a : Act} {rf : ResultVar → Sem Value} (hf : ∀ t, rf (.tmp t) = pure (a.tmps.getD t undef)) (hf' : ∀ c t, rf (.cell c t) = do loadVar t (← asAddr (a.tmps.getD c undef)))
    (hs : SRel nt gl [] g c [] f a) (hi : HOk D g h c w) {r : ResultVar} (hl : (resV h f (resG Pr D gl r)).live = true) : ∃ u, (rf r).run Pr w = .ok u w ∧ VRep g c (resV h f (resG Pr D gl r)) u := by
  cases r with
  | tmp t =>
    rw [hf]
    exact ⟨_, rfl, TRep.val (opnd_ok hs (.tmp t)) hl⟩
  | cell b t =>
    rw [hf']
    unfold resG at hl ⊢
    simp only at hl ⊢
    cases hq : loadF Pr D t with
    | no => rw [hq] at hl; cases hl
    | p q => exact (loadF_not hq).elim
    | f q =>
      rw [hq] at hl
      obtain ⟨n, bl, e1, e2, rfl⟩ := loadF_inv hq
      have hd : load D bl n h ((opnd gl [] (.tmp b)).ev [] f) ≠ .dead := fun e => by
        have hl : (load D bl n h ((opnd gl [] (.tmp b)).ev [] f)).live = true := hl
        rw [e] at hl; cases hl
      obtain ⟨A, hA, u, h3, h4⟩ := load_ok (Pr := Pr) e1 e2 hi (opnd_ok hs (.tmp b)) hd
      have hA : a.tmps.getD b undef = .pointer (some A) := hA
      refine ⟨u, ?_, h4⟩
      rw [hA]
      simpa [asAddr] using h3
theorem res_all {g : Gm} {h : HT} {c : Nat} {w : World} {f : F} {a : Act} {rf : ResultVar → Sem Value} (hf : ∀ t, rf (.tmp t) = pure (a.tmps.getD t undef)) (hf' : ∀ c t, rf (.cell c t) = do loadVar t (← asAddr (a.tmps.getD c undef)))
    (hs : SRel nt gl [] g c [] f a) (hi : HOk D g h c w) : ∀ (l : List ResultVar), ((l.map (resG Pr D gl)).map (resV h f)).all HV.live = true → ∃ us : List Value, (l.mapM rf).run Pr w = .ok us w ∧ us.length = l.length ∧ ∀ (i : Nat) (x : HV) (u : Value), ((l.map (resG Pr D gl)).map (resV h f))[i]? = some x → us[i]? = some u → VRep g c x u
  | [], _ => ⟨[], by simp, rfl, fun i x u hx => by simp at hx⟩
  | r :: l, hl => by
    simp only [List.map_cons, List.all_cons, Bool.and_eq_true] at hl
    obtain ⟨u, h1, h2⟩ := res_one (Pr := Pr) hf hf' hs hi hl.1
    obtain ⟨us, h3, h4, h5⟩ := res_all hf hf' hs hi l hl.2
    refine ⟨u :: us, by simp [List.mapM_cons, h1, h3], by simp [h4], fun i x v hx hv => ?_⟩
    cases i with
    | zero => simp at hx hv; subst hx; subst hv; exact h2
    | succ i => exact h5 i x v (by simpa using hx) (by simpa using hv)
theorem enter_ok (hcl : ClOk Pr D cl) (hmix : Pr.follows .mixedOrders = true) {N : Nat} {fn : FuncId} {args : List HV} {h : HT} {c : Nat} {v : HV} {h' : HT} {c' : Nat} (he : enter Pr D N cl (compFn Pr D fn) args h c = .ok v h' c') (hv : v ≠ .dead) :
    Body Pr fn ∧ CallT Pr D fn args h c v h' c' := by
  unfold compFn at he
  cases hf : Pr.funcs[fn]? with
  | none => rw [hf] at he; cases he
  | some f =>
    rw [hf] at he
    simp only at he
    cases hname : (f.name == "runtime.NumGoroutine") with
    | true => rw [hname] at he; cases he
    | false =>
      rw [hname] at he
      simp only [Bool.false_eq_true, if_false] at he
      cases hb : f.body with
      | none => rw [hb] at he; cases he
      | some code =>
        rw [hb] at he
        simp only at he
        split at he
        · rename_i hc
          simp only [Bool.and_eq_true] at hc
          obtain ⟨⟨c1, c2⟩, c3⟩ := hc
          have hgl := glOk_of c1 c2
          refine ⟨⟨f, code, hf, hb, hname⟩, fun w g vs hi hargs => ?_⟩
          simp only [enter] at he
          cases hin : initF (parPs (resGl f.results.toList (glob [] code 0)) (f.params.size + f.nfree) 0) args und4 with
          | none => rw [hin] at he; cases he
          | some fr =>
            rw [hin] at he
            simp only at he
            have hs := enter_srel hgl hargs (Nat.le_of_ble_eq_true c3) hin
            have hlive : live (runT Pr D cl f.ntmps (resGl f.results.toList (glob [] code 0)) N (.c (comp Pr D f.ntmps (resGl f.results.toList (glob [] code 0)) [] code)) [] ⟨fr, h, c⟩) := fun w e => by rw [e] at he; cases he
            refine calls_of_wp hf hb (wp_mono ((runT_ok hcl hgl hmix N).code code [] [] ⟨fr, h, c⟩ hlive _ w g hs hi).code fun ex a' w' hl => ?_)
            obtain ⟨g', t', s', k1, k2, k3, k4⟩ := hl
            have fin : leave (f.results.toList.map (resG Pr D (resGl f.results.toList (glob [] code 0)))) s' = .ok v h' c' → a'.defers = [] ∧ ∃ v', (results f a'.tmps).run Pr w' = .ok v' w' ∧ ∃ u g'', Ending.returned v' = .returned u ∧ HOk D g'' h' c' w' ∧ Post g (hp D h) c w g'' (hp D h') c' w' ∧ TRep g'' c' v u := by
              intro hlv
              unfold leave at hlv
              injection hlv with e1 e2 e3
              subst e2; subst e3
              refine ⟨k1.defers, ?_⟩
              have hall : ((f.results.toList.map (resG Pr D (resGl f.results.toList (glob [] code 0)))).map (resV s'.h s'.f)).all HV.live = true := by
                cases hh : ((f.results.toList.map (resG Pr D (resGl f.results.toList (glob [] code 0)))).map (resV s'.h s'.f)).all HV.live with
                | true => rfl
                | false => unfold oneOf at e1; rw [hh] at e1; exact absurd e1.symm hv
              obtain ⟨us, r1, r2, r3⟩ := res_all (Pr := Pr) (w := w') (rf := (fun | .tmp t => pure (a'.tmps.getD t undef) | .cell c t => do loadVar t (← asAddr (a'.tmps.getD c undef)) : ResultVar → Sem Value)) (fun _ => rfl) (fun _ _ => rfl) (k1.nil []) k2 f.results.toList hall
              refine ⟨_, Go.AbsM.results_run (fun _ => rfl) (fun _ _ => rfl) r1, _, g', rfl, k2, k3, ?_⟩
              unfold oneOf at e1
              rw [hall] at e1
              simp only at e1
              subst e1
              have hl : us.length = ((f.results.toList.map (resG Pr D (resGl f.results.toList (glob [] code 0)))).map (resV s'.h s'.f)).length := by simp [r2]
              clear hall r1 r2 hv he
              generalize (f.results.toList.map (resG Pr D (resGl f.results.toList (glob [] code 0)))).map (resV s'.h s'.f) = xs at *
              match xs, us, hl, r3 with
              | [], [], _, r3 => exact ⟨[], rfl, rfl, r3⟩
              | [y], [u], _, r3 => exact TRep.of_val (r3 0 y u rfl rfl)
              | y :: y' :: ys, u :: u' :: us, hl, r3 => exact ⟨_, rfl, hl, r3⟩
            generalize hr : runT Pr D cl f.ntmps (resGl f.results.toList (glob [] code 0)) N (.c (comp Pr D f.ntmps (resGl f.results.toList (glob [] code 0)) [] code)) [] ⟨fr, h, c⟩ = r at *
            cases r with
            | x w => exact absurd rfl (hlive w)
            | ex i s1 => cases he
            | go l s1 => cases he
            | n t1 s1 =>
              obtain ⟨rfl, rfl, rfl⟩ := k4
              exact fin he
            | ret s1 =>
              obtain ⟨rfl, _, rfl⟩ := k4
              exact fin he
        · cases he
end
end
end Go.FM
end
