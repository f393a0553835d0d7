/-
  The abstract machine and the typed machine over it: deterministic evaluators of translated code over plain values, each proved sound. Part 8 of 8.
-/
import Derived.Test.YtignlmfaoagolaaGreatLib7
import Derived.Below
import Derived.Maps.Own
import Derived.Lib.SlKeysI
/-! ## FnCode2 -/
/-
  The fast machine: code, step by step.
-/
set_option linter.unusedVariables false
set_option linter.unusedSimpArgs false
set_option linter.unusedSectionVars false
namespace Go.FM
noncomputable section
variable [Env]

theorem gotoIn_scope {l : Nat} {c rest : Code} {k : List Item} (h : findLabel c l = some rest) : gotoIn l (.inScope c :: k) = some (.code rest :: .inScope c :: k) := by simp [gotoIn, h]

section
variable {Pr : Program} {D nt gl : Nat} {cl : Cl}

theorem stepT_ok (hcl : ClOk Pr D cl) (hgl : GlOk nt gl) (hmix : Pr.follows .mixedOrders = true) {rec : Rec} (hrec : RecOk Pr D nt gl rec) : RecOk Pr D nt gl (stepT Pr D nt gl rec (runOps cl) (runDraw cl D)) where
  code := by
    intro c reg t s hx a w g hs hi
    have self : ∀ {r : R} {e : Exit} {reg' : List Nat} {t' : L}, SRel nt gl reg' g s.c t' s.f a → (match r with
      | .n t s2 => e = .normal ∧ t' = t ∧ s = s2
      | .ex id s2 => e = .exit id ∧ reg' = [] ∧ s = s2
      | .go l s2 => e = .goto l ∧ reg' = [] ∧ s = s2
      | .ret s2 => e = .ret ∧ reg' = [] ∧ s = s2
      | .x _ => False) → EndOk D nt gl reg' g s.h s.c w r e a w := by
      intro r e reg' t' h1 h2
      cases r <;> exact ⟨g, _, s, h1, hi, Post.refl hi.inv, h2⟩
    cases c with
    | skip => exact wp_skip (self (r := .n t s) hs ⟨rfl, rfl, rfl⟩)
    | label l => exact wp_label (self (r := .n t s) hs ⟨rfl, rfl, rfl⟩)
    | exit id => exact wp_exit (self (r := .ex id s) (hs.nil t) ⟨rfl, rfl, rfl⟩)
    | goto l => exact wp_goto (self (r := .go l s) (hs.nil t) ⟨rfl, rfl, rfl⟩)
    | ret => exact wp_ret (self (r := .ret s) (hs.nil t) ⟨rfl, rfl, rfl⟩)
    | region id ops dr =>
      cases dr with
      | false => exact plain_wp hcl hgl hx hs hi
      | true =>
        have e : comp Pr D nt gl reg (.region id ops true) = compDraw Pr D ops nt gl := rfl
        rw [e] at hx ⊢
        unfold compDraw at hx ⊢
        simp only at hx ⊢
        split at hx
        · rename_i hok
          rw [if_pos hok]
          exact open_wp hcl hgl hmix hok hx hs hi
        · exact absurd rfl (hx 35)
    | seq x y =>
      have e : stepT Pr D nt gl rec (runOps cl) (runDraw cl D) (.c (comp Pr D nt gl reg (.seq x y))) t s = andThen (rec (.c (comp Pr D nt gl (regOut reg x) y))) (rec (.c (comp Pr D nt gl reg x)) t s) := rfl
      rw [e] at hx ⊢
      have hx1 : live (rec (.c (comp Pr D nt gl reg x)) t s) := fun w h => by rw [h] at hx; exact hx w rfl
      have h1 := (hrec.code x reg t s hx1 a w g hs hi).code
      show (Code.seq x y).wp Pr _ a w
      refine wp_seq (wp_mono h1 fun ex a1 w1 hl => ?_)
      cases hr : rec (.c (comp Pr D nt gl reg x)) t s with
      | n t1 s1 =>
        rw [hr] at hl hx
        obtain ⟨g1, t', s', k1, k2, k3, rfl, rfl, rfl⟩ := hl
        refine wp_mono (hrec.code y (regOut reg x) t' s' hx a1 w1 g1 k1 k2).code fun ex a2 w2 hl2 => ?_
        exact EndOk.trans k3 hl2
      | x w => exact absurd hr (hx1 w)
      | ex id s1 =>
        rw [hr] at hl
        obtain ⟨g1, t', s', k1, k2, k3, rfl, k5, k6⟩ := hl
        exact ⟨g1, t', s', k1, k2, k3, rfl, k5, k6⟩
      | go l s1 =>
        rw [hr] at hl
        obtain ⟨g1, t', s', k1, k2, k3, rfl, k5, k6⟩ := hl
        exact ⟨g1, t', s', k1, k2, k3, rfl, k5, k6⟩
      | ret s1 =>
        rw [hr] at hl
        obtain ⟨g1, t', s', k1, k2, k3, rfl, k5, k6⟩ := hl
        exact ⟨g1, t', s', k1, k2, k3, rfl, k5, k6⟩
    | cond c x y =>
      have e : stepT Pr D nt gl rec (runOps cl) (runDraw cl D) (.c (comp Pr D nt gl reg (.cond c x y))) t s = br (rec (.c (comp Pr D nt gl [] x)) [] s) (rec (.c (comp Pr D nt gl [] y)) [] s) ((opnd gl reg c).ev t s.f) := rfl
      rw [e] at hx ⊢
      have hc := opnd_ok hs c
      show (Code.cond c x y).wp Pr _ a w
      cases hv : (opnd gl reg c).ev t s.f <;> rw [hv] at hx hc <;> try exact absurd rfl (hx 52)
      rename_i b
      have hc : a.eval c = .bool b := hc
      have out : ∀ {z : Code} {r : R}, r = rec (.c (comp Pr D nt gl [] z)) [] s → live r → z.wp Pr (Goal Pr D nt gl [] g s w r) a w := by
        intro z r hr hl
        subst hr
        refine wp_mono (hrec.code z [] [] s hl a w g (hs.nil []) hi).code fun ex a2 w2 hl2 => ?_
        obtain ⟨g1, t', s', k1, k2, k3, k4⟩ := hl2
        cases hr : rec (.c (comp Pr D nt gl [] z)) [] s with
        | x w => exact absurd hr (hl w)
        | n t1 s1 => rw [hr] at k1 k4; exact ⟨g1, t', s', k1.nil t', k2, k3, k4⟩
        | ex i s1 => rw [hr] at k1 k4; exact ⟨g1, t', s', k1.nil t', k2, k3, k4.1, rfl, k4.2.2⟩
        | go l s1 => rw [hr] at k1 k4; exact ⟨g1, t', s', k1.nil t', k2, k3, k4.1, rfl, k4.2.2⟩
        | ret s1 => rw [hr] at k1 k4; exact ⟨g1, t', s', k1.nil t', k2, k3, k4.1, rfl, k4.2.2⟩
      refine wp_cond hc ?_
      cases b with
      | true => exact out rfl hx
      | false => exact out rfl hx
    | block id c =>
      have e : stepT Pr D nt gl rec (runOps cl) (runDraw cl D) (.c (comp Pr D nt gl reg (.block id c))) t s = inBlock id (rec (.c (comp Pr D nt gl [] c)) [] s) := rfl
      rw [e] at hx ⊢
      have hx1 : live (rec (.c (comp Pr D nt gl [] c)) [] s) := fun w h => by rw [h] at hx; exact hx w rfl
      show (Code.block id c).wp Pr _ a w
      refine wp_block (wp_mono (hrec.code c [] [] s hx1 a w g (hs.nil []) hi).code fun ex a2 w2 hl2 => ?_)
      obtain ⟨g1, t', s', k1, k2, k3, k4⟩ := hl2
      cases hr : rec (.c (comp Pr D nt gl [] c)) [] s with
      | x w => exact absurd hr (hx1 w)
      | n t1 s1 =>
        rw [hr] at k4 k1
        obtain ⟨rfl, rfl, rfl⟩ := k4
        exact ⟨g1, t', s', k1.nil t', k2, k3, rfl, rfl, rfl⟩
      | go l s1 =>
        rw [hr] at k4 k1
        obtain ⟨rfl, _, rfl⟩ := k4
        exact ⟨g1, t', s', k1.nil t', k2, k3, rfl, rfl, rfl⟩
      | ret s1 =>
        rw [hr] at k4 k1
        obtain ⟨rfl, _, rfl⟩ := k4
        exact ⟨g1, t', s', k1.nil t', k2, k3, rfl, rfl, rfl⟩
      | ex i s1 =>
        rw [hr] at k4 k1
        obtain ⟨rfl, _, rfl⟩ := k4
        simp only [Exit.inBlock]
        have ei : inBlock id (.ex i s') = (Nat.beq i id).casesOn (.ex i s') (.n [] s') := rfl
        rw [ei]
        by_cases hid : i = id
        · subst hid
          rw [Nat.beq_refl]
          simp only [if_pos rfl]
          exact ⟨g1, [], s', k1.nil [], k2, k3, rfl, rfl, rfl⟩
        · have hb : Nat.beq i id = false := by
            cases hb : Nat.beq i id with
            | false => rfl
            | true => exact absurd (Nat.eq_of_beq_eq_true hb) hid
          rw [hb, if_neg hid]
          exact ⟨g1, t', s', k1.nil t', k2, k3, rfl, rfl, rfl⟩
    | loop c =>
      have e : stepT Pr D nt gl rec (runOps cl) (runDraw cl D) (.c (comp Pr D nt gl reg (.loop c))) t s = andThen (fun _ s => rec (.c (comp Pr D nt gl [] (.loop c))) [] s) (rec (.c (comp Pr D nt gl [] c)) [] s) := rfl
      rw [e] at hx ⊢
      have hx1 : live (rec (.c (comp Pr D nt gl [] c)) [] s) := fun w h => by rw [h] at hx; exact hx w rfl
      intro b k cs
      obtain ⟨ex, a1, w1, hl, harr⟩ := (hrec.code c [] [] s hx1 a w g (hs.nil []) hi).code b (.inLoop c :: k) cs
      obtain ⟨g1, t', s', k1, k2, k3, k4⟩ := hl
      cases hr : rec (.c (comp Pr D nt gl [] c)) [] s with
      | x w => exact absurd hr (hx1 w)
      | n t1 s1 =>
        rw [hr] at k4 k1 hx
        obtain ⟨rfl, rfl, rfl⟩ := k4
        obtain ⟨ex2, a2, w2, hl2, harr2⟩ := hrec.code (.loop c) [] [] s' hx a1 w1 g1 (k1.nil []) k2 b k cs
        exact ⟨ex2, a2, w2, EndOk.trans k3 hl2, .of_steps (Steps.trans harr (.one step_inLoop)) harr2⟩
      | go l s1 =>
        rw [hr] at k4 k1
        obtain ⟨rfl, _, rfl⟩ := k4
        exact ⟨_, a1, w1, ⟨g1, t', s', k1.nil t', k2, k3, rfl, rfl, rfl⟩, .pass (x := .inLoop c) rfl (fun _ _ => .inl (by simp)) harr⟩
      | ret s1 =>
        rw [hr] at k4 k1
        obtain ⟨rfl, _, rfl⟩ := k4
        exact ⟨_, a1, w1, ⟨g1, t', s', k1.nil t', k2, k3, rfl, rfl, rfl⟩, .pass (x := .inLoop c) rfl (fun _ _ => .inl (by simp)) harr⟩
      | ex i s1 =>
        rw [hr] at k4 k1
        obtain ⟨rfl, _, rfl⟩ := k4
        exact ⟨_, a1, w1, ⟨g1, t', s', k1.nil t', k2, k3, rfl, rfl, rfl⟩, .pass (x := .inLoop c) rfl (fun _ _ => .inl (by simp)) harr⟩
    | scope c =>
      have e : stepT Pr D nt gl rec (runOps cl) (runDraw cl D) (.c (comp Pr D nt gl reg (.scope c))) t s = rec (.w c (comp Pr D nt gl [] c)) [] s := rfl
      rw [e] at hx ⊢
      intro b k cs
      obtain ⟨ex, a1, w1, hq, harr⟩ := hrec.within c c s hx a w g [] (hs.nil []) hi b k cs
      exact ⟨ex, a1, w1, hq, .of_steps (.one step_scope) harr⟩
    | rangeFunc _ _ _ _ => exact absurd rfl (hx 33)
    | refuse _ => exact absurd rfl (hx 33)
  within := by
    intro sc rest s hx a w g t hs hi b k cs
    have e : stepT Pr D nt gl rec (runOps cl) (runDraw cl D) (.w sc (comp Pr D nt gl [] rest)) [] s = inScope Pr D nt gl rec sc (rec (.c (comp Pr D nt gl [] rest)) [] s) := rfl
    rw [e] at hx ⊢
    have hx1 : live (rec (.c (comp Pr D nt gl [] rest)) [] s) := fun w h => by rw [h] at hx; exact hx w rfl
    obtain ⟨ex, a1, w1, hl, harr⟩ := (hrec.code rest [] [] s hx1 a w g (hs.nil []) hi).code b (.inScope sc :: k) cs
    obtain ⟨g1, t', s', k1, k2, k3, k4⟩ := hl
    cases hr : rec (.c (comp Pr D nt gl [] rest)) [] s with
    | x w => exact absurd hr (hx1 w)
    | n t1 s1 =>
      rw [hr] at k4 k1
      obtain ⟨rfl, rfl, rfl⟩ := k4
      exact ⟨_, a1, w1, ⟨g1, t', s', k1.nil t', k2, k3, rfl, rfl, rfl⟩, Steps.trans harr (.one step_inScope)⟩
    | ex i s1 =>
      rw [hr] at k4 k1
      obtain ⟨rfl, _, rfl⟩ := k4
      exact ⟨_, a1, w1, ⟨g1, t', s', k1.nil t', k2, k3, rfl, rfl, rfl⟩, fun k' hk => harr k' (by simp [exitTo, hk])⟩
    | ret s1 =>
      rw [hr] at k4 k1
      obtain ⟨rfl, _, rfl⟩ := k4
      exact ⟨_, a1, w1, ⟨g1, t', s', k1.nil t', k2, k3, rfl, rfl, rfl⟩, harr⟩
    | go l s1 =>
      rw [hr] at k4 k1 hx
      obtain ⟨rfl, _, rfl⟩ := k4
      have e2 : inScope Pr D nt gl rec sc (.go l s') = again Pr D nt gl rec sc l s' := rfl
      rw [e2] at hx ⊢
      unfold again at hx ⊢
      cases hf : findLabel sc l with
      | some rest1 =>
        rw [hf] at hx
        obtain ⟨ex2, a2, w2, hl2, harr2⟩ := hrec.within sc rest1 s' hx a1 w1 g1 [] (k1.nil []) k2 b k cs
        exact ⟨ex2, a2, w2, EndOk.trans k3 hl2, .of_steps (harr _ (gotoIn_scope hf)) harr2⟩
      | none =>
        exact ⟨_, a1, w1, ⟨g1, t', s', k1.nil t', k2, k3, rfl, rfl, rfl⟩, fun k' hk => harr k' (by simp [gotoIn, hf, hk])⟩
end
end
end Go.FM

/-! ## FnCall -/
/-
  The fast machine: runs by fuel, functions.
-/
set_option linter.unusedVariables false
set_option linter.unusedSimpArgs false
set_option linter.unusedSectionVars false
namespace Go.FM
noncomputable section
variable [Env]

section
variable {Pr : Program} {D nt gl : Nat} {cl : Cl}

theorem runT_ok (hcl : ClOk Pr D cl) (hgl : GlOk nt gl) (hmix : Pr.follows .mixedOrders = true) : ∀ n, RecOk Pr D nt gl (runT Pr D cl nt gl n)
  | 0 => ⟨fun c reg t s hx => absurd rfl (hx 50), fun sc rest s hx => absurd rfl (hx 50)⟩
  | n + 1 => stepT_ok hcl hgl hmix (runT_ok hcl hgl hmix n)

theorem fget_und (r : Nat) : fget r und4 = .und := by
  have h1 : ∀ i, Q.get i und1 = .und := fun i => by unfold Q.get; rw [sel4_lt]; (repeat' split) <;> rfl
  have h2 : ∀ i, Q.get i und2 = und1 := fun i => by unfold Q.get; rw [sel4_lt]; (repeat' split) <;> rfl
  have h3 : ∀ i, Q.get i und3 = und2 := fun i => by unfold Q.get; rw [sel4_lt]; (repeat' split) <;> rfl
  have h4 : ∀ i, Q.get i und4 = und3 := fun i => by unfold Q.get; rw [sel4_lt]; (repeat' split) <;> rfl
  unfold fget
  rw [h4, h3, h2, h1]

theorem glOk_of (h1 : Nat.ble (rank gl nt) 256 = true) (h2 : Nat.blt gl (Nat.pow 2 nt) = true) : GlOk nt gl := by
  refine ⟨Nat.le_of_ble_eq_true h1, fun q hq => ?_⟩
  have hlt : gl < 2 ^ nt := Nat.le_of_ble_eq_true h2
  rcases Nat.lt_or_ge q nt with h | h
  · exact h
  · have := Nat.testBit_lt_two_pow (Nat.lt_of_lt_of_le hlt (Nat.pow_le_pow_right (by omega) h))
    rw [this] at hq; cases hq

theorem initF_ok (hgl : GlOk nt gl) : ∀ (n t : Nat) (args : List HV) (f f' : F), t + n ≤ nt → initF (parPs gl n t) args f = some f' → args.length = n ∧ ∀ q, Nat.testBit gl q = true → fget (rank gl q) f' = if t ≤ q ∧ q < t + n then args.getD (q - t) .dead else fget (rank gl q) f := by
  intro n
  induction n with
  | zero =>
    intro t args f f' hn h
    cases args with
    | nil =>
      have : f = f' := Option.some.inj h
      subst this
      exact ⟨rfl, fun q _ => by rw [if_neg (by omega)]⟩
    | cons a r => cases h
  | succ n ih =>
    intro t args f f' hn h
    cases args with
    | nil => cases h
    | cons v r =>
      have e : parPs gl (n + 1) t = dstP gl (some t) :: parPs gl n (t + 1) := rfl
      rw [e] at h
      have h : initF (parPs gl n (t + 1)) r (putF (dstP gl (some t)) v f) = some f' := h
      obtain ⟨h1, h2⟩ := ih (t + 1) r _ f' (by omega) h
      refine ⟨by simp [h1], fun q hb => ?_⟩
      rw [h2 q hb]
      by_cases hq : t + 1 ≤ q ∧ q < t + 1 + n
      · rw [if_pos hq, if_pos (by omega), show q - t = (q - (t + 1)) + 1 by omega]
        simp
      · rw [if_neg hq]
        have ed : dstP gl (some t) = (Nat.testBit gl t).casesOn (motive := fun _ => P) .loc (pVar (rank gl t)) := rfl
        rw [ed]
        have r1 : rank gl q < 256 := Nat.lt_of_lt_of_le (rank_lt gl (hgl.2 q hb) hb) hgl.1
        cases hbt : Nat.testBit gl t with
        | false =>
          have : q ≠ t := fun e => by rw [e, hbt] at hb; cases hb
          rw [if_neg (by omega)]
          rfl
        | true =>
          obtain ⟨p, hp, hpv⟩ := pVar_eq (rank gl t)
          have r2 : rank gl t < 256 := Nat.lt_of_lt_of_le (rank_lt gl (by omega) hbt) hgl.1
          show fget (rank gl q) (putF (pVar (rank gl t)) v f) = _
          rw [hp]
          show fget (rank gl q) (p v f) = _
          rw [hpv, fget_fset r1 r2]
          by_cases hqt : q = t
          · subst hqt
            rw [if_pos rfl, if_pos (by omega)]
            simp
          · rw [if_neg fun e => hqt (rank_inj gl hb hbt e), if_neg (by omega)]

theorem enter_srel (hgl : GlOk nt gl) {n : Nat} {args : List HV} {vs : List Value} {f : F} {g : Gm} {c : Nat} (hargs : TReps g c args vs) (hn : n ≤ nt) (h : initF (parPs gl n 0) args und4 = some f) :
    SRel nt gl [] g c [] f { tmps := vs.toArray ++ Array.replicate (nt - vs.toArray.size) undef, defers := [] } := by
  obtain ⟨h1, h2⟩ := initF_ok hgl n 0 args und4 f (by omega) h
  have hl : vs.length = n := hargs.1.trans h1
  refine ⟨by simp; omega, fun q hb => ?_, fun q j hj => by simp [idx] at hj, rfl⟩
  rw [h2 q hb]
  have hq := hgl.2 q hb
  by_cases hlt : q < n
  · rw [if_pos ⟨Nat.zero_le _, by omega⟩]
    have ha : args[q]? = some (args[q]'(by omega)) := List.getElem?_eq_getElem _
    have hv : vs[q]? = some (vs[q]'(by omega)) := List.getElem?_eq_getElem _
    have e1 : args.getD (q - 0) .dead = args[q]'(by omega) := by simp [List.getD_eq_getElem?_getD, ha]
    have e2 : (vs.toArray ++ Array.replicate (nt - vs.toArray.size) undef).getD q undef = vs[q]'(by omega) := by
      rw [Array.getD_eq_getD_getElem?, Array.getElem?_append_left (by simp; omega)]
      simp [hl, hlt]
    rw [e1, e2]
    exact hargs.2 q _ _ ha hv
  · rw [if_neg (by omega), fget_und]
    show _ = undef
    rw [Array.getD_eq_getD_getElem?, Array.getElem?_append_right (by simp; omega)]
    simp only [List.size_toArray]
    rw [Array.getElem?_replicate, if_pos (by omega)]
    rfl

/-! ### Results -/
theorem TRep.val {g : Gm} {c : Nat} {x : HV} {u : Value} (h : TRep g c x u) (hl : x.live = true) : VRep g c x u := by
  cases x <;> first | exact h | cases hl
theorem res_one {g : Gm} {h : HT} {c : Nat} {w : World} {f : F} {a : Act} {rf : ResultVar → Sem Value} (hf : ∀ t, rf (.tmp t) = pure (a.tmps.getD t undef)) (hf' : ∀ c t, rf (.cell c t) = do loadVar t (← asAddr (a.tmps.getD c undef)))
    (hs : SRel nt gl [] g c [] f a) (hi : HOk D g h c w) {r : ResultVar} (hl : (resV h f (resG Pr D gl r)).live = true) : ∃ u, (rf r).run Pr w = .ok u w ∧ VRep g c (resV h f (resG Pr D gl r)) u := by
  cases r with
  | tmp t =>
    rw [hf]
    exact ⟨_, rfl, TRep.val (opnd_ok hs (.tmp t)) hl⟩
  | cell b t =>
    rw [hf']
    unfold resG at hl ⊢
    simp only at hl ⊢
    cases hq : loadF Pr D t with
    | no => rw [hq] at hl; cases hl
    | p q => exact (loadF_not hq).elim
    | f q =>
      rw [hq] at hl
      obtain ⟨n, bl, e1, e2, rfl⟩ := loadF_inv hq
      have hd : load D bl n h ((opnd gl [] (.tmp b)).ev [] f) ≠ .dead := fun e => by
        have hl : (load D bl n h ((opnd gl [] (.tmp b)).ev [] f)).live = true := hl
        rw [e] at hl; cases hl
      obtain ⟨A, hA, u, h3, h4⟩ := load_ok (Pr := Pr) e1 e2 hi (opnd_ok hs (.tmp b)) hd
      have hA : a.tmps.getD b undef = .pointer (some A) := hA
      refine ⟨u, ?_, h4⟩
      rw [hA]
      simpa [asAddr] using h3
theorem res_all {g : Gm} {h : HT} {c : Nat} {w : World} {f : F} {a : Act} {rf : ResultVar → Sem Value} (hf : ∀ t, rf (.tmp t) = pure (a.tmps.getD t undef)) (hf' : ∀ c t, rf (.cell c t) = do loadVar t (← asAddr (a.tmps.getD c undef)))
    (hs : SRel nt gl [] g c [] f a) (hi : HOk D g h c w) : ∀ (l : List ResultVar), ((l.map (resG Pr D gl)).map (resV h f)).all HV.live = true → ∃ us : List Value, (l.mapM rf).run Pr w = .ok us w ∧ us.length = l.length ∧ ∀ (i : Nat) (x : HV) (u : Value), ((l.map (resG Pr D gl)).map (resV h f))[i]? = some x → us[i]? = some u → VRep g c x u
  | [], _ => ⟨[], by simp, rfl, fun i x u hx => by simp at hx⟩
  | r :: l, hl => by
    simp only [List.map_cons, List.all_cons, Bool.and_eq_true] at hl
    obtain ⟨u, h1, h2⟩ := res_one (Pr := Pr) hf hf' hs hi hl.1
    obtain ⟨us, h3, h4, h5⟩ := res_all hf hf' hs hi l hl.2
    refine ⟨u :: us, by simp [List.mapM_cons, h1, h3], by simp [h4], fun i x v hx hv => ?_⟩
    cases i with
    | zero => simp at hx hv; subst hx; subst hv; exact h2
    | succ i => exact h5 i x v (by simpa using hx) (by simpa using hv)

/-- A function's run is its call. -/
theorem enter_ok (hcl : ClOk Pr D cl) (hmix : Pr.follows .mixedOrders = true) {N : Nat} {fn : FuncId} {args : List HV} {h : HT} {c : Nat} {v : HV} {h' : HT} {c' : Nat} (he : enter Pr D N cl (compFn Pr D fn) args h c = .ok v h' c') (hv : v ≠ .dead) :
    Body Pr fn ∧ CallT Pr D fn args h c v h' c' := by
  unfold compFn at he
  cases hf : Pr.funcs[fn]? with
  | none => rw [hf] at he; cases he
  | some f =>
    rw [hf] at he
    simp only at he
    cases hname : (f.name == "runtime.NumGoroutine") with
    | true => rw [hname] at he; cases he
    | false =>
      rw [hname] at he
      simp only [Bool.false_eq_true, if_false] at he
      cases hb : f.body with
      | none => rw [hb] at he; cases he
      | some code =>
        rw [hb] at he
        simp only at he
        split at he
        · rename_i hc
          simp only [Bool.and_eq_true] at hc
          obtain ⟨⟨c1, c2⟩, c3⟩ := hc
          have hgl := glOk_of c1 c2
          refine ⟨⟨f, code, hf, hb, hname⟩, fun w g vs hi hargs => ?_⟩
          simp only [enter] at he
          cases hin : initF (parPs (resGl f.results.toList (glob [] code 0)) (f.params.size + f.nfree) 0) args und4 with
          | none => rw [hin] at he; cases he
          | some fr =>
            rw [hin] at he
            simp only at he
            have hs := enter_srel hgl hargs (Nat.le_of_ble_eq_true c3) hin
            have hlive : live (runT Pr D cl f.ntmps (resGl f.results.toList (glob [] code 0)) N (.c (comp Pr D f.ntmps (resGl f.results.toList (glob [] code 0)) [] code)) [] ⟨fr, h, c⟩) := fun w e => by rw [e] at he; cases he
            refine calls_of_wp hf hb (wp_mono ((runT_ok hcl hgl hmix N).code code [] [] ⟨fr, h, c⟩ hlive _ w g hs hi).code fun ex a' w' hl => ?_)
            obtain ⟨g', t', s', k1, k2, k3, k4⟩ := hl
            have fin : leave (f.results.toList.map (resG Pr D (resGl f.results.toList (glob [] code 0)))) s' = .ok v h' c' → a'.defers = [] ∧ ∃ v', (results f a'.tmps).run Pr w' = .ok v' w' ∧ ∃ u g'', Ending.returned v' = .returned u ∧ HOk D g'' h' c' w' ∧ Post g (hp D h) c w g'' (hp D h') c' w' ∧ TRep g'' c' v u := by
              intro hlv
              unfold leave at hlv
              injection hlv with e1 e2 e3
              subst e2; subst e3
              refine ⟨k1.defers, ?_⟩
              have hall : ((f.results.toList.map (resG Pr D (resGl f.results.toList (glob [] code 0)))).map (resV s'.h s'.f)).all HV.live = true := by
                cases hh : ((f.results.toList.map (resG Pr D (resGl f.results.toList (glob [] code 0)))).map (resV s'.h s'.f)).all HV.live with
                | true => rfl
                | false => unfold oneOf at e1; rw [hh] at e1; exact absurd e1.symm hv
              obtain ⟨us, r1, r2, r3⟩ := res_all (Pr := Pr) (w := w') (rf := (fun | .tmp t => pure (a'.tmps.getD t undef) | .cell c t => do loadVar t (← asAddr (a'.tmps.getD c undef)) : ResultVar → Sem Value)) (fun _ => rfl) (fun _ _ => rfl) (k1.nil []) k2 f.results.toList hall
              refine ⟨_, Go.AbsM.results_run (fun _ => rfl) (fun _ _ => rfl) r1, _, g', rfl, k2, k3, ?_⟩
              unfold oneOf at e1
              rw [hall] at e1
              simp only at e1
              subst e1
              have hl : us.length = ((f.results.toList.map (resG Pr D (resGl f.results.toList (glob [] code 0)))).map (resV s'.h s'.f)).length := by simp [r2]
              clear hall r1 r2 hv he
              generalize (f.results.toList.map (resG Pr D (resGl f.results.toList (glob [] code 0)))).map (resV s'.h s'.f) = xs at *
              match xs, us, hl, r3 with
              | [], [], _, r3 => exact ⟨[], rfl, rfl, r3⟩
              | [y], [u], _, r3 => exact TRep.of_val (r3 0 y u rfl rfl)
              | y :: y' :: ys, u :: u' :: us, hl, r3 => exact ⟨_, rfl, hl, r3⟩
            generalize hr : runT Pr D cl f.ntmps (resGl f.results.toList (glob [] code 0)) N (.c (comp Pr D f.ntmps (resGl f.results.toList (glob [] code 0)) [] code)) [] ⟨fr, h, c⟩ = r at *
            cases r with
            | x w => exact absurd rfl (hlive w)
            | ex i s1 => cases he
            | go l s1 => cases he
            | n t1 s1 =>
              obtain ⟨rfl, rfl, rfl⟩ := k4
              exact fin he
            | ret s1 =>
              obtain ⟨rfl, _, rfl⟩ := k4
              exact fin he
        · cases he

theorem callN_ok (hmix : Pr.follows .mixedOrders = true) (N : Nat) : ∀ n, ClOk Pr D (callN Pr D N n)
  | 0 => fun fn args h c v h' c' he => by cases he
  | n + 1 => fun fn args h c v h' c' he hv => enter_ok (callN_ok hmix N n) hmix he hv
/-- **A closed run that answers.** -/
theorem closed_ok (hmix : Pr.follows .mixedOrders = true) {N n : Nat} {fn : FuncId} (h : isTrue (callN Pr D N n fn [] .nil 0) = true) (w : World) :
    Body Pr fn ∧ Calls Pr fn #[] w fun e w' => e = .returned (.bool true) ∧ (∀ b, b < w.heap.size → w'.heap[b]? = w.heap[b]?) ∧ w.heap.size ≤ w'.heap.size ∧ w'.os = w.os ∧ w'.tape = w.tape ∧ w'.output = w.output := by
  cases hr : callN Pr D N n fn [] .nil 0 with
  | x k => rw [hr] at h; cases h
  | ok v h' c' =>
    rw [hr] at h
    cases v <;> try cases h
    obtain ⟨h1, h2⟩ := callN_ok hmix N n _ _ _ _ _ _ _ hr (by simp)
    refine ⟨h1, Calls.mono (h2 w (fun _ => ⟨0, 1, 0, 0⟩) [] (HOk.nil (Nat.zero_le _)) ⟨rfl, fun i x u hx => by simp at hx⟩) fun e w' ⟨u, g', he, q1, q2, q3⟩ => ?_⟩
    have hu : u = .bool true := q3
    subst hu
    refine ⟨he, fun b hb => q2.fr b hb fun ⟨k, pre, bd, hk, _⟩ => ?_, q2.sz, q2.os, q2.tape, q2.out⟩
    rw [hp_nil] at hk; cases hk
end
end
end Go.FM

/-! ## FnLaw -/
/-
  The fast machine: functions whose answer is known ahead; laws over numbers, without the typed machine.
-/
set_option linter.unusedVariables false
set_option linter.unusedSimpArgs false
set_option linter.unusedSectionVars false
namespace Go.FM
noncomputable section
open Go.RowKit (Below)
noncomputable section
abbrev Hook := List HV → HT → Nat → CR
def callX (Pr : Program) (D N : Nat) (ext : FuncId → Option Hook) (n : Nat) : Cl := Nat.rec (motive := fun _ => Cl) (fun _ _ _ _ => .x 51) (fun _ ih f args h c => Option.casesOn (ext f) (enter Pr D N ih (compFn Pr D f) args h c) fun q => q args h c) n
end
variable [Env]
/-- What is known ahead is so. -/
def HookOk (Pr : Program) (D : Nat) (f : FuncId) (q : Hook) : Prop := ∀ args h c v h' c', q args h c = .ok v h' c' → v ≠ .dead → Body Pr f ∧ CallT Pr D f args h c v h' c'
def ExtOk (Pr : Program) (D : Nat) (ext : FuncId → Option Hook) : Prop := ∀ f q, ext f = some q → HookOk Pr D f q

section
variable {Pr : Program} {D : Nat} {g : Gm} {c : Nat} {w w' : World}
theorem callX_ok (hmix : Pr.follows .mixedOrders = true) (N : Nat) {ext : FuncId → Option Hook} (hx : ExtOk Pr D ext) : ∀ n, ClOk Pr D (callX Pr D N ext n)
  | 0 => fun fn args h c v h' c' he => by cases he
  | n + 1 => fun fn args h c v h' c' he hv => by
    have e : callX Pr D N ext (n + 1) fn args h c = Option.casesOn (motive := fun _ => CR) (ext fn) (enter Pr D N (callX Pr D N ext n) (compFn Pr D fn) args h c) fun q => q args h c := rfl
    rw [e] at he
    cases hq : ext fn with
    | none => rw [hq] at he; exact enter_ok (callX_ok hmix N hx n) hmix he hv
    | some q => rw [hq] at he; exact hx fn q hq args h c v h' c' he hv

/-- **A law over numbers**: a run with its numbers answers true. -/
theorem law_fast {N n : Nat} {ext : FuncId → Option Hook} {fn : FuncId} {args : List HV} (hmix : Pr.follows .mixedOrders = true) (hx : ExtOk Pr D ext) (h : isTrue (callX Pr D N ext n fn args .nil 0) = true) {vs : List Value} (ha : TReps (fun _ => ⟨0, 1, 0, 0⟩) 0 args vs) (w : World) :
    Body Pr fn ∧ Calls Pr fn vs.toArray w fun e w' => e = .returned (.bool true) ∧ Below w.heap.size w w' := by
  cases hr : callX Pr D N ext n fn args .nil 0 with
  | x k => rw [hr] at h; cases h
  | ok v h' c' =>
    rw [hr] at h
    cases v <;> try cases h
    obtain ⟨h1, h2⟩ := callX_ok hmix N hx n _ _ _ _ _ _ _ hr (by simp)
    refine ⟨h1, Calls.mono (h2 w (fun _ => ⟨0, 1, 0, 0⟩) vs (HOk.nil (Nat.zero_le _)) ha) fun e w' ⟨u, g', he, q1, q2, q3⟩ => ?_⟩
    have hu : u = .bool true := q3
    subst hu
    refine ⟨he, q2.os, q2.tape, q2.out, q2.sz, fun b hb => q2.fr b hb fun ⟨k, pre, bd, hk, _⟩ => ?_⟩
    rw [hp_nil] at hk; cases hk

/-! ### Arguments -/
theorem wf_u8 {a : Int} (h : (Lit.int .u8 a).wf = true) : 0 ≤ a ∧ a < 256 := by
  simp [Lit.wf, IntKind.min, IntKind.max, IntKind.bits, IntKind.signed] at h; omega
theorem args_nil : TReps g c [] [] := ⟨rfl, fun i x u hx => by simp at hx⟩
theorem args_cons {x : HV} {u : Value} {xs : List HV} {us : List Value} (h : TRep g c x u) (k : TReps g c xs us) : TReps g c (x :: xs) (u :: us) :=
  ⟨by simp [k.1], fun i y v hy hv => by
    cases i with
    | zero => simp at hy hv; subst hy; subst hv; exact h
    | succ i => exact k.2 i y v (by simpa using hy) (by simpa using hv)⟩
theorem arg_int {k : IntKind} {n : Int} : TRep g c (.int k n) (.int k n) := rfl
theorem arg_bool {b : Bool} : TRep g c (.bool b) (.bool b) := rfl
theorem arg_dead {v : Value} : TRep g c .dead v := trivial
theorem arg_ub {b : Bool} : TRep g c .ub (.bool b) := ⟨b, rfl⟩
theorem arg_md {k : IntKind} {a : Int} {m : Nat} (h0 : 0 ≤ a) (h1 : a ≤ top k) : TRep g c (.md k m (a.toNat % m)) (.int k a) :=
  ⟨a.toNat, by rw [Int.toNat_of_nonneg h0], rfl, by omega⟩

theorem arg_sy {k : IntKind} {i : Nat} (h : i < Env.m) : TRep g c (.sy k i) (.int k (Env.ρ i)) := ⟨h, rfl⟩
theorem arg_par {k : IntKind} {a : Int} (h0 : k.min ≤ a) (h1 : a ≤ k.max) : TRep g c (.par k (a % 2).toNat) (.int k a) :=
  ⟨a, rfl, by show a % 2 = (((a % 2).toNat : Nat) : Int); omega, h0, h1⟩
theorem Below.ext (h : Below w.heap.size w w') : Ext w w' := ⟨h.os, h.tape, h.output, h.size, h.block⟩
theorem HOk.ext {h : HT} (hi : HOk D g h c w) (hx : Ext w w') : HOk D g h c w' := ⟨hi.deep, hi.le, hi.inv.ext hx⟩
/-- What reads only. -/
theorem CallT.still {fn : FuncId} {args : List HV} {h : HT} {v : HV} {v0 : Value} (hv : ∀ g, TRep g c v v0)
    (hc : ∀ (w : World) (g : Gm) (vs : List Value), HOk D g h c w → TReps g c args vs → Calls Pr fn vs.toArray w fun e w' => e = .returned v0 ∧ Below w.heap.size w w') : CallT Pr D fn args h c v h c := by
  intro w g vs hi ha
  refine (hc w g vs hi ha).mono fun e w' ⟨he, hb⟩ => ?_
  have hx := Below.ext hb
  exact ⟨v0, g, he, HOk.ext hi hx, Post.ext hi.inv hx, hv g⟩

/-- A closed function that answers true. -/
def trueH : Hook := fun args h c => match args with
  | [] => .ok (.bool true) h c
  | _ => .x 70
/-- A closed function whose run answers true. -/
theorem trueH_fast {N n : Nat} {f : FuncId} (hmix : Pr.follows .mixedOrders = true) (h : isTrue (callN Pr D N n f [] .nil 0) = true) : HookOk Pr D f trueH := by
  intro args h0 c v h' c' he hv
  unfold trueH at he
  split at he
  · simp only [CR.ok.injEq] at he
    obtain ⟨rfl, rfl, rfl⟩ := he
    refine ⟨(closed_ok hmix h default).1, CallT.still (v0 := .bool true) (fun g => rfl) fun w g vs hi ha => ?_⟩
    have : vs = [] := List.length_eq_zero_iff.1 ha.1
    subst this
    exact (closed_ok hmix h w).2.mono fun e w' ⟨he, k1, k2, k3, k4, k5⟩ => ⟨he, k3, k4, k5, k2, k1⟩
  · cases he
end
instance : Env := noEnv
end
end Go.FM

/-! ## FnSort -/
/-
  The fast machine: the keys of a map, in their order.
-/
set_option linter.unusedVariables false
set_option linter.unusedSimpArgs false
set_option linter.unusedSectionVars false
namespace Go.FM
noncomputable section
open Go.Maps Go.WideElems

def insI (a : Int) : List Int → List Int
  | [] => [a]
  | b :: r => if a ≤ b then a :: b :: r else b :: insI a r
def sortI (l : List Int) : List Int := l.foldr insI []
theorem insI_perm (a : Int) : ∀ l, (insI a l).Perm (a :: l)
  | [] => .refl _
  | b :: r => by
    unfold insI
    split
    · exact .refl _
    · exact ((insI_perm a r).cons b).trans (.swap a b r)
theorem insI_sorted (a : Int) : ∀ {l : List Int}, l.Pairwise (· ≤ ·) → (insI a l).Pairwise (· ≤ ·)
  | [], _ => by simp [insI]
  | b :: r, h => by
    unfold insI
    have h' := List.pairwise_cons.1 h
    split
    · rename_i hab
      exact List.pairwise_cons.2 ⟨fun x hx => by
        rcases List.mem_cons.1 hx with rfl | hx
        · exact hab
        · have := h'.1 x hx; omega, h⟩
    · rename_i hab
      refine List.pairwise_cons.2 ⟨fun x hx => ?_, insI_sorted a h'.2⟩
      rcases List.mem_cons.1 ((insI_perm a r).mem_iff.1 hx) with rfl | hx
      · omega
      · exact h'.1 x hx
theorem sortI_perm : ∀ l, (sortI l).Perm l
  | [] => .refl _
  | a :: r => (insI_perm a _).trans ((sortI_perm r).cons a)
theorem sortI_sorted : ∀ l, (sortI l).Pairwise (· ≤ ·)
  | [] => .nil
  | a :: r => insI_sorted a (sortI_sorted r)
theorem sortI_eq {l l' : List Int} (h : l'.Perm l) : l'.mergeSort (fun x y => decide (x ≤ y)) = sortI l := by
  refine List.Perm.eq_of_pairwise (le := fun a b => a ≤ b) (fun a b _ _ h1 h2 => by omega) ?_ (sortI_sorted l) (((List.mergeSort_perm l' _).trans h).trans (sortI_perm l).symm)
  have := List.pairwise_mergeSort (le := fun (x y : Int) => decide (x ≤ y)) (fun a b c h1 h2 => by simp at *; omega) (fun a b => by simp; omega) l'
  exact this.imp fun h => by simpa using h
theorem sortI_length (l : List Int) : (sortI l).length = l.length := (sortI_perm l).length_eq

/-- May the map be gone through? -/
def inI (n : Int) : Bool := decide (-9223372036854775808 ≤ n) && decide (n ≤ 9223372036854775807)
def okM (es : List ME) (cl : Nat) : Bool := decide (es.map ME.key).Nodup && (decide (es.map ME.born).Nodup && (es.all (fun e => Nat.blt e.born cl && inI e.key) && Nat.ble es.length 100000))
def anyR : Value → Option (DataW Unit × List MemPlace) := fun _ => some (.nil, [])
theorem keys_read {P : Program} {K : TypeId} (hK : P.underlying K = some (.int .i64)) {n : Int} (hn : inI n = true) : keyOf P K (.int .i64 n) = some (.int .i64 n) := by
  unfold inI at hn
  simp only [Bool.and_eq_true, decide_eq_true_eq] at hn
  have hw : (Lit.int .i64 n).wf = true := by
    simp [Lit.wf, IntKind.min, IntKind.max, IntKind.bits, IntKind.signed]; omega
  simp [keyOf, hK, mapKey, hw]
section
variable [Env]
variable {P : Program} {K : TypeId} {g : Gm} {c : Nat}
theorem MReps.keys : ∀ {es : List ME} {ms : List MapEntry}, MReps g c es ms → ms.map (·.key) = es.map (fun e => Value.int .i64 e.key) ∧ ms.map (·.born) = es.map ME.born
  | [], [], _ => ⟨rfl, rfl⟩
  | [], _ :: _, h => h.elim
  | _ :: _, [], h => h.elim
  | e :: r, m :: s, h => by
    obtain ⟨q1, q2⟩ := MReps.keys h.2
    exact ⟨by simp [h.1.1, q1], by simp [h.1.2.2, q2]⟩
theorem rg_keys (hK : P.underlying K = some (.int .i64)) : ∀ {es : List ME} {ms : List MapEntry}, MReps g c es ms → es.all (fun e => inI e.key) = true → ms.map (rg P K anyR) = es.map fun e => (Lit.int .i64 e.key, (DataW.nil : DataW Unit))
  | [], [], _, _ => rfl
  | [], _ :: _, h, _ => h.elim
  | _ :: _, [], h, _ => h.elim
  | e :: r, m :: s, h, ha => by
    simp only [List.all_cons, Bool.and_eq_true] at ha
    have := rg_keys hK h.2 ha.2
    simp only [List.map_cons, this]
    congr 1
    exact rg_of (by simp only [rd, h.1.1, keys_read hK ha.1]; rfl)
/-- What the map is, as the shelf reads it. -/
def dataOf (es : List ME) : DataW Unit := .map ((es.map fun e => (Lit.int .i64 e.key, (DataW.nil : DataW Unit))).foldr DataW.insert [])
theorem dataOf_keys (es : List ME) : (intKeys (dataOf es)).Perm (es.map ME.key) := by
  have h := (Go.WideShapes.sorted_perm (es.map fun e => (Lit.int .i64 e.key, (DataW.nil : DataW Unit)))).map fun p => intOf p.1
  refine h.trans ?_
  rw [List.map_map]
  exact .refl _
theorem dataOf_size (es : List ME) : Maps.size (dataOf es) = es.length := by
  have := (Go.WideShapes.sorted_perm (es.map fun e => (Lit.int .i64 e.key, (DataW.nil : DataW Unit)))).length_eq
  simpa [dataOf, Maps.size] using this
theorem owns_of {w : World} {b cl : Nat} {es : List ME} {ms : List MapEntry} (hK : P.underlying K = some (.int .i64)) (hm : w.heap[b]? = some (.map ms.toArray cl)) (hr : MReps g c es ms) (ho : okM es cl = true) : w.ownsMap P K anyR b es.length (dataOf es) := by
  unfold okM at ho
  simp only [Bool.and_eq_true, decide_eq_true_eq] at ho
  obtain ⟨h1, h2, h3, h4⟩ := ho
  have h4 : es.length ≤ 100000 := Nat.le_of_ble_eq_true h4
  have h3' : ∀ e ∈ es, e.born < cl ∧ inI e.key = true := fun e he => by
    have := List.all_eq_true.1 h3 e he
    simp only [Bool.and_eq_true] at this
    exact ⟨Nat.le_of_ble_eq_true this.1, this.2⟩
  obtain ⟨q1, q2⟩ := hr.keys
  have hall : es.all (fun e => inI e.key) = true := List.all_eq_true.2 fun e he => (h3' e he).2
  have hrg := rg_keys (P := P) hK hr hall
  have hlen := hr.len
  refine ⟨ms.toArray, cl, hm, ⟨?_, ⟨fun x hx => ?_, ?_, ?_⟩, fun x hx => ?_⟩, by simp [hlen], ?_⟩
  · simp only [List.size_toArray, hlen]; have : (100000 : Nat) ≤ maxLen := by decide
    omega
  · have hx : x ∈ ms := hx
    have : x.born ∈ ms.map (·.born) := List.mem_map_of_mem hx
    rw [q2] at this
    obtain ⟨e, he, hb⟩ := List.mem_map.1 this
    rw [← hb]; exact (h3' e he).1
  · show (ms.map (·.born)).Nodup
    rw [q2]; exact h2
  · show (ms.map (·.key)).Nodup
    rw [q1]
    have : es.map (fun e => Value.int .i64 e.key) = (es.map ME.key).map (Value.int .i64) := by rw [List.map_map]; rfl
    rw [this]
    exact List.Pairwise.map _ (fun a b hab h => hab (by injection h)) h1
  · have hx : x ∈ ms := hx
    have : x.key ∈ ms.map (·.key) := List.mem_map_of_mem hx
    rw [q1] at this
    obtain ⟨e, he, hb⟩ := List.mem_map.1 this
    exact ⟨(.int .i64 e.key, .nil), by simp only [rd, ← hb, keys_read hK (h3' e he).2]; rfl⟩
  · show _ = DataW.map ((ms.map (rg P K anyR)).foldr DataW.insert [])
    rw [hrg]; rfl
end
end
end Go.FM

/-! ## FnHeld -/
/-
  The fast machine: a function that answers the keys of a map in a struct, sorted.
-/
set_option linter.unusedVariables false
set_option linter.unusedSimpArgs false
set_option linter.unusedSectionVars false
namespace Go.FM
noncomputable section
open Go.Maps Go.RowKit

/-- What is told of such a function. -/
def HeldSpec (P : Program) (f off T K : Nat) : Prop := ∀ (w : World) (kb ko b nn : Nat) (D0 : DataW Unit), w.cell? ⟨kb, ko + off, none⟩ = some (.map (some b)) → w.ownsMap P K anyR b nn D0 → Maps.size D0 ≤ maxLen → Maps.size D0 * 8 ≤ 140737488355328 →
  Calls P f #[.pointer (some ⟨kb, ko, none⟩)] w fun e w' => ∃ (v : Value) (ss : List Int), e = .returned v ∧ ss.Perm (intKeys D0) ∧
    w'.ownsRow w.heap.size T 1 v ss.length ((ss.mergeSort (fun x y => decide (x ≤ y))).map (Value.int .i64)) ∧ (v = .slice none 0 0 ↔ ss = []) ∧ Below w.heap.size w w'
def heldH (off D : Nat) : Hook := fun args h c => match args with
  | [x] => match x with
    | .ptr k o => match (HT.get D k h).body with
      | .cells cs => match lget (Nat.add o off) cs with
        | .mp m => match (HT.get D m h).body with
          | .map es cl => if okM es cl && Nat.blt (Nat.add o off) cs.length then match es with
              | [] => .ok .nils h c
              | e :: r => newO D 0 (.cells ((sortI ((e :: r).map ME.key)).map (HV.int .i64))) (.slc c 0 (e :: r).length 1 false) h c
            else .x 90
          | _ => .x 91
        | _ => .x 92
      | _ => .x 93
    | _ => .x 94
  | _ => .x 95

section
variable [Env]
variable {Pr : Program} {D : Nat} {g : Gm} {c : Nat} {w w' : World}
theorem lget_eq : ∀ (n : Nat) (l : List HV), n < l.length → l[n]? = some (lget n l)
  | 0, a :: r, _ => rfl
  | n + 1, a :: r, h => by
    have := lget_eq n r (by simpa using h)
    rw [List.getElem?_cons_succ]; exact this
  | _, [], h => by simp at h
theorem ints_rep {l : List Int} : CReps g c (l.map (HV.int .i64)) (l.map (Value.int .i64)) := by
  refine ⟨by simp, fun i x u hx hu => ?_⟩
  simp only [List.getElem?_map, Option.map_eq_some_iff] at hx hu
  obtain ⟨a, h1, rfl⟩ := hx
  obtain ⟨b, h2, rfl⟩ := hu
  rw [h1] at h2
  simp only [Option.some.injEq] at h2; subst h2
  exact ⟨rfl, rfl⟩
theorem heldH_ok {f off T K : Nat} (hb : Body Pr f) (hK : Pr.underlying K = some (.int .i64)) (hs : HeldSpec Pr f off T K) : HookOk Pr D f (heldH off D) := by
  intro args h c v h' c' he hv
  refine ⟨hb, ?_⟩
  unfold heldH at he
  split at he
  · split at he
    · rename_i k o
      split at he
      · rename_i cs hcs
        split at he
        · rename_i m hm
          split at he
          · rename_i es cl hes
            split at he
            · rename_i hok
              simp only [Bool.and_eq_true] at hok
              obtain ⟨hok, hlt⟩ := hok
              have hlt : o + off < cs.length := Nat.le_of_ble_eq_true hlt
              intro w g vs hi ha
              obtain ⟨x0, rfl⟩ : ∃ x0, vs = [x0] := List.length_eq_one_iff.1 ha.1
              obtain ⟨hk, rfl⟩ := ha.2 0 _ _ rfl rfl
              obtain ⟨us, q1, q2, q3, q4⟩ := (hi.body hk.1 hcs (by simp)).cells
              have hul : o + off < us.length := by rw [q2.1]; exact hlt
              have hu : us[o + off]? = some us[o + off] := List.getElem?_eq_getElem hul
              have hr := (q2.2 (o + off) _ _ (lget_eq _ _ hlt) hu).1
              have hm' : lget (o + off) cs = .mp m := hm
              rw [hm'] at hr
              obtain ⟨hmn, hmv⟩ := hr
              obtain ⟨ms, hms, hmr⟩ := map_at hi hmn.1 hes
              have hown := owns_of (P := Pr) hK hms hmr hok
              have hcell : w.cell? ⟨(g k).b, (g k).o + o + off, none⟩ = some (.map (some (g m).b)) := by
                have := q4 (o + off) _ hu
                rw [hmv] at this
                rw [← this, Nat.add_assoc]
              have hlen : es.length ≤ 100000 := by
                unfold okM at hok
                simp only [Bool.and_eq_true] at hok
                exact Nat.le_of_ble_eq_true hok.2.2.2
              have hc := hs w (g k).b ((g k).o + o) (g m).b es.length (dataOf es) hcell hown (by rw [dataOf_size]; have : (100000 : Nat) ≤ maxLen := by decide
                                                                                                 omega) (by rw [dataOf_size]; omega)
              refine hc.mono fun e w' ⟨v0, ss, he0, hp, hrow, hnil, hbel⟩ => ?_
              have hx := Below.ext hbel
              have hpk := hp.trans (dataOf_keys es)
              have hsl : ss.length = es.length := by rw [hpk.length_eq]; simp
              cases es with
              | nil =>
                cases he
                have hss : ss = [] := List.eq_nil_of_length_eq_zero (by simpa using hsl)
                exact ⟨v0, g, he0, HOk.ext hi hx, Post.ext hi.inv hx, hnil.2 hss⟩
              | cons e0 r0 =>
                simp only at he
                rcases hrow.2 with ⟨_, h0⟩ | ⟨gb, cap, cur, hv0, hbase, hgb, r1, r2, r3, r4⟩
                · rw [hsl] at h0; simp at h0
                · have hso := sortI_eq hpk
                  rw [hso] at r4
                  have hcur : cur.toList.length = cap := by simpa using r3
                  have hn : ss.length = (e0 :: r0).length := hsl
                  have hb0 : BOk (g.new c ⟨gb, 0, (e0 :: r0).length, cap⟩) (c + 1) ⟨gb, 0, (e0 :: r0).length, cap⟩ (.cells ((sortI ((e0 :: r0).map ME.key)).map (HV.int .i64))) w' := by
                    refine .inl ⟨cur.toList, T, by simpa using hgb, hcur, ⟨rfl, by rw [← hn]; simpa using r1⟩, ?_⟩
                    have e1 : (At.mk gb 0 (e0 :: r0).length cap).row cur.toList = (sortI ((e0 :: r0).map ME.key)).map (Value.int .i64) := by
                      simp only [At.row, List.drop_zero]
                      rw [← r4, hn, Nat.mul_one]
                    rw [e1]
                    exact ints_rep
                  obtain ⟨z, w2, g2, s1, s2, s3, s4⟩ := new_eff (r := .ok v0 w') (z := v0) hi hx hbase hb0 he rfl (by
                    rw [hv0, hn]
                    refine ⟨nm_new g c _ (by rw [← hn]; simpa using r1), _, cap, rfl, by rw [← hn]; exact r1, r2, by decide, ?_, ?_, fun _ => ?_, (fun hc => by cases hc), fun _ => ?_⟩
                    · rw [gnew_self]; simp
                    · rw [gnew_self]; simp
                    · rw [gnew_self]; show (e0 :: r0).length ≤ 0 + cap * 1; rw [← hn]; omega
                    · simp [addrOf, gnew_self])
                  simp only [Result.ok.injEq] at s1
                  obtain ⟨rfl, rfl⟩ := s1
                  exact ⟨v0, g2, he0, s2, s3, s4⟩
            · cases he
          · cases he
        · cases he
      · cases he
    · cases he
  · cases he
end
end
end Go.FM
