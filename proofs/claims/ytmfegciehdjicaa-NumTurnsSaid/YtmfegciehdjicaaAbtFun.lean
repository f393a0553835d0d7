/-
  The typed machine: loops, jumps, functions by what they answer.
-/
import Derived.Test.YtmfegciehdjicaaAbtSem
import Derived.Test.YtmfegciehdjicaaAbsLaw
set_option linter.unusedVariables false
set_option linter.unusedSimpArgs false
namespace Go.AbsM

section
variable {P : Program} {E : Env} {w : World} {g : Gh} {may : Nat → Prop}

abbrev Post := AExit → TSt → Prop

/-! ### Loops -/
def blockK (id : Nat) (Φ : Post) : Post := fun e s2 => match e with
  | .exit k => match k.beq id with
    | true => Φ .normal s2
    | false => Φ (.exit k) s2
  | .normal => Φ .normal s2
  | .goto l => Φ (.goto l) s2
  | .ret => Φ .ret s2

/-- Behind one round. -/
def stepK {ι : Type} (n : Nat) (ls ks lx kx : List Nat) (id : Nat) (mk : ι → TSt) (μ : ι → Nat) (ψ : ι → Post → Prop) (m : Nat) (Φ : Post) : Post := fun e s1 => match e with
  | .normal => cleanT n ls ks s1 fun s2 => ∃ j, s2 = mk j ∧ μ j < m ∧ ψ j Φ
  | .exit k => cleanT n lx kx s1 fun s2 => match k.beq id with
    | true => Φ .normal s2
    | false => Φ (.exit k) s2
  | .goto l => cleanT n lx kx s1 fun s2 => Φ (.goto l) s2
  | .ret => cleanT n lx kx s1 fun s2 => Φ .ret s2

theorem run_loop0 {ι : Type} {Λ : Known} (hΛ : KnownOk P E Λ) {n : Nat} {ls ks lx kx : List Nat} {id : Nat} {mk : ι → TSt} {μ : ι → Nat} {ψ : ι → Post → Prop} {c : Code} (hL : LamOk P Λ c)
    (step : ∀ i Φ, ψ i Φ → wpT P Λ c (mk i) (stepK n ls ks lx kx id mk μ ψ (μ i) Φ)) : ∀ (m : Nat) (i : ι) (Φ : Post), μ i < m → ψ i Φ → Run P (.code (.loop c)) (mk i) (fun e s2 => e ≠ .normal ∧ blockK id Φ e s2) := by
  intro m
  induction m with
  | zero => intro i Φ h; omega
  | succ m ih =>
    intro i Φ hi hψ R may a w g hs hm b k cs
    have h1 := (wpT_ok hΛ c (mk i) _ hL (step i Φ hψ)).code hs hm
    obtain ⟨ex, a1, w1, ⟨e, s1, hx, hp, hlv⟩, harr⟩ := h1 b (.inLoop c :: k) cs
    subst hx
    unfold stepK at hp
    cases e with
    | normal =>
      obtain ⟨s2, hp, hw⟩ := cleanT_ok (P := P) hp
      have hlv := leaves_to hw hlv
      obtain ⟨j, rfl, hj, hψj⟩ := hp
      obtain ⟨g1, k1, k2, k3⟩ := hlv
      obtain ⟨ex, a2, w2, he, harr2⟩ := ih j Φ (by omega) hψj R may a1 w1 g1 k1 (fun b hb => hm b (Nat.le_trans k2.size hb)) b k cs
      exact ⟨ex, a2, w2, he.trans k2 k3, .of_steps (Steps.trans harr (.one step_inLoop)) harr2⟩
    | exit id' =>
      obtain ⟨s2, hp, hw⟩ := cleanT_ok (P := P) hp
      exact ⟨_, a1, w1, ⟨.exit id', s2, rfl, ⟨(fun h => by cases h), hp⟩, leaves_to hw hlv⟩, .pass (x := .inLoop c) rfl (fun _ _ => .inl (by simp [AExit.toExit])) harr⟩
    | goto l =>
      obtain ⟨s2, hp, hw⟩ := cleanT_ok (P := P) hp
      exact ⟨_, a1, w1, ⟨.goto l, s2, rfl, ⟨(fun h => by cases h), hp⟩, leaves_to hw hlv⟩, .pass (x := .inLoop c) rfl (fun _ _ => .inl (by simp [AExit.toExit])) harr⟩
    | ret =>
      obtain ⟨s2, hp, hw⟩ := cleanT_ok (P := P) hp
      exact ⟨_, a1, w1, ⟨.ret, s2, rfl, ⟨(fun h => by cases h), hp⟩, leaves_to hw hlv⟩, .pass (x := .inLoop c) rfl (fun _ _ => .inl (by simp [AExit.toExit])) harr⟩

theorem run_block {id : Nat} {c : Code} {s : TSt} {Φ : Post} (h : Run P (.code c) s (blockK id Φ)) : Run P (.code (.block id c)) s Φ := by
  intro R may a w g hs hm
  refine wp_block (wp_mono (h.code hs hm) fun ex a1 w1 ⟨e, s1, hx, hp, hlv⟩ => ?_)
  subst hx
  cases e with
  | normal => exact ⟨.normal, s1, rfl, hp, hlv⟩
  | goto l => exact ⟨.goto l, s1, rfl, hp, hlv⟩
  | ret => exact ⟨.ret, s1, rfl, hp, hlv⟩
  | exit i =>
    simp only [AExit.toExit, Exit.inBlock]
    simp only [blockK] at hp
    split at hp
    · rename_i hi
      rw [if_pos (Nat.eq_of_beq_eq_true hi)]
      exact ⟨.normal, s1, rfl, hp, hlv⟩
    · rename_i hi
      rw [if_neg (Nat.ne_of_beq_eq_false hi)]
      exact ⟨.exit i, s1, rfl, hp, hlv⟩

theorem sim_id (s' : TSt) : ∀ (R : List Store) (may : Nat → Prop) (a : Act) (w : World) (g : Gh), Sim P may (s'.emb R) a w g → Sim P may (s'.emb R) a w g := fun _ _ _ _ _ h => h

/-- What is known of a loop: its state at each round is some mk i. -/
def loopP {ι : Type} (n : Nat) (ls ks : List Nat) (mk : ι → TSt) (ψ : ι → Post → Prop) : Piece := fun s Φ => cleanT n ls ks s fun s2 => ∃ i, s2 = mk i ∧ ψ i Φ

theorem run_loop {ι : Type} {Λ : Known} (hΛ : KnownOk P E Λ) {n : Nat} {ls ks lx kx : List Nat} {id : Nat} {mk : ι → TSt} {ψ : ι → Post → Prop} {c : Code} (μ : ι → Nat) (hL : LamOk P Λ c)
    (step : ∀ i Φ, ψ i Φ → wpT P Λ c (mk i) (stepK n ls ks lx kx id mk μ ψ (μ i) Φ)) (s : TSt) (Φ : Post) (h : loopP n ls ks mk ψ s Φ) : Run P (.code (.block id (.loop c))) s Φ := by
  refine Run.of_clean h fun s2 ⟨i, he, hψ⟩ => ?_
  subst he
  exact run_block (Run.mono (run_loop0 hΛ hL step _ i Φ (Nat.lt_succ_self _) hψ) fun e s' h => ⟨s', h.2, sim_id s'⟩)

/-! ### Jumps -/
def jumpK {ι : Type} (Λ : Known) (n : Nat) (ls ks lx kx : List Nat) (c : Code) (l : Nat) (mk : ι → TSt) (μ : ι → Nat) (ψ : ι → Post → Prop) (m : Nat) (Φ : Post) : Post := fun e s1 => match e with
  | .goto l' => match l'.beq l with
    | true => cleanT n ls ks s1 fun s2 => ∃ j, s2 = mk j ∧ μ j < m ∧ ψ j Φ
    | false => match findLabel c l' with
      | none => cleanT n lx kx s1 fun s2 => Φ (.goto l') s2
      | some _ => need (Λ.lab l') fun ψ' => ψ' s1 fun e s2 => cleanT n lx kx s2 fun s3 => Φ e s3
  | .normal => cleanT n lx kx s1 fun s2 => Φ .normal s2
  | .exit i => cleanT n lx kx s1 fun s2 => Φ (.exit i) s2
  | .ret => cleanT n lx kx s1 fun s2 => Φ .ret s2

theorem run_jump0 {ι : Type} {Λ : Known} (hΛ : KnownOk P E Λ) {n : Nat} {ls ks lx kx : List Nat} {mk : ι → TSt} {μ : ι → Nat} {ψ : ι → Post → Prop} {c rest : Code} {l : Nat} (hL : LamOk P Λ rest) (hf : findLabel c l = some rest)
    (hlab : ∀ l' rest' ψ', l' ≠ l → findLabel c l' = some rest' → Λ.lab l' = some ψ' → ∀ s Φ, ψ' s Φ → Run P (.within c rest') s Φ)
    (step : ∀ i Φ, ψ i Φ → wpT P Λ rest (mk i) (jumpK Λ n ls ks lx kx c l mk μ ψ (μ i) Φ)) : ∀ (m : Nat) (i : ι) (Φ : Post), μ i < m → ψ i Φ → Run P (.within c rest) (mk i) Φ := by
  intro m
  induction m with
  | zero => intro i Φ h; omega
  | succ m ih =>
    intro i Φ hi hψ R may a w g hs hm b k cs
    have h1 := (wpT_ok hΛ rest (mk i) _ hL (step i Φ hψ)).code hs hm
    obtain ⟨ex, a1, w1, ⟨e, s1, hx, hp, hlv⟩, harr⟩ := h1 b (.inScope c :: k) cs
    subst hx
    cases e with
    | normal =>
      obtain ⟨s2, hp, hw⟩ := cleanT_ok (P := P) hp
      exact ⟨_, a1, w1, ⟨.normal, s2, rfl, hp, leaves_to hw hlv⟩, Steps.trans harr (.one step_inScope)⟩
    | exit id =>
      obtain ⟨s2, hp, hw⟩ := cleanT_ok (P := P) hp
      exact ⟨_, a1, w1, ⟨.exit id, s2, rfl, hp, leaves_to hw hlv⟩, fun k' hk => harr k' (by simp [exitTo, hk])⟩
    | ret =>
      obtain ⟨s2, hp, hw⟩ := cleanT_ok (P := P) hp
      exact ⟨_, a1, w1, ⟨.ret, s2, rfl, hp, leaves_to hw hlv⟩, harr⟩
    | goto l' =>
      simp only [jumpK] at hp
      split at hp
      · rename_i he
        have he := Nat.eq_of_beq_eq_true he
        subst he
        obtain ⟨s2, hp, hw⟩ := cleanT_ok (P := P) hp
        have hlv := leaves_to hw hlv
        obtain ⟨j, rfl, hj, hψj⟩ := hp
        obtain ⟨g1, k1, k2, k3⟩ := hlv
        obtain ⟨ex, a2, w2, he, harr2⟩ := ih j Φ (by omega) hψj R may a1 w1 g1 k1 (fun b hb => hm b (Nat.le_trans k2.size hb)) b k cs
        exact ⟨ex, a2, w2, he.trans k2 k3, .of_steps (harr _ (gotoIn_scope hf)) harr2⟩
      · rename_i hne
        have hne := Nat.ne_of_beq_eq_false hne
        split at hp
        · rename_i hf'
          obtain ⟨s2, hp, hw⟩ := cleanT_ok (P := P) hp
          exact ⟨_, a1, w1, ⟨.goto l', s2, rfl, hp, leaves_to hw hlv⟩, fun k' hk => harr k' (by simp [gotoIn, hf', hk])⟩
        · rename_i rest' hf'
          obtain ⟨ψ', hψ', hp⟩ := need_some hp
          obtain ⟨g1, k1, k2, k3⟩ := hlv
          have hr := (hlab l' rest' ψ' hne hf' hψ' s1 _ hp).mono fun e s' h => cleanT_ok (P := P) h
          obtain ⟨ex, a2, w2, he, harr2⟩ := hr R may a1 w1 g1 k1 (fun b hb => hm b (Nat.le_trans k2.size hb)) b k cs
          exact ⟨ex, a2, w2, he.trans k2 k3, .of_steps (harr _ (gotoIn_scope hf')) harr2⟩

theorem run_jump {ι : Type} {Λ : Known} (hΛ : KnownOk P E Λ) {n : Nat} {ls ks lx kx : List Nat} {mk : ι → TSt} {ψ : ι → Post → Prop} {c rest : Code} {l : Nat} (μ : ι → Nat) (hL : LamOk P Λ rest) (hf : findLabel c l = some rest)
    (hlab : ∀ l' rest' ψ', l' ≠ l → findLabel c l' = some rest' → Λ.lab l' = some ψ' → ∀ s Φ, ψ' s Φ → Run P (.within c rest') s Φ)
    (step : ∀ i Φ, ψ i Φ → wpT P Λ rest (mk i) (jumpK Λ n ls ks lx kx c l mk μ ψ (μ i) Φ)) (s : TSt) (Φ : Post) (h : loopP n ls ks mk ψ s Φ) : Run P (.within c rest) s Φ := by
  refine Run.of_clean h fun s2 ⟨i, he, hψ⟩ => ?_
  subst he
  exact run_jump0 hΛ hL hf hlab step _ i Φ (Nat.lt_succ_self _) hψ

/-! ### Which loops there are -/
def blocksOf : Code → List (Nat × Code)
  | .seq a b => blocksOf a ++ blocksOf b
  | .cond _ a b => blocksOf a ++ blocksOf b
  | .block id c => (id, c) :: blocksOf c
  | .loop c => blocksOf c
  | .scope c => blocksOf c
  | _ => []
def scopesOf : Code → List Code
  | .seq a b => scopesOf a ++ scopesOf b
  | .cond _ a b => scopesOf a ++ scopesOf b
  | .block _ c => scopesOf c
  | .loop c => scopesOf c
  | .scope c => c :: scopesOf c
  | _ => []

theorem lamOk_of {Λ : Known} {c : Code} (hb : ∀ id c', (id, c') ∈ blocksOf c → ∀ ψ, Λ.blk id = some ψ → ∀ s Φ, ψ s Φ → Run P (.code (.block id c')) s Φ)
    (hs : ∀ c', c' ∈ scopesOf c → ∀ l rest ψ, findLabel c' l = some rest → Λ.lab l = some ψ → ∀ s Φ, ψ s Φ → Run P (.within c' rest) s Φ) : LamOk P Λ c := by
  induction c with
  | seq a b iha ihb =>
    exact ⟨iha (fun id c' h => hb id c' (List.mem_append_left _ h)) (fun c' h => hs c' (List.mem_append_left _ h)), ihb (fun id c' h => hb id c' (List.mem_append_right _ h)) (fun c' h => hs c' (List.mem_append_right _ h))⟩
  | cond o a b iha ihb =>
    exact ⟨iha (fun id c' h => hb id c' (List.mem_append_left _ h)) (fun c' h => hs c' (List.mem_append_left _ h)), ihb (fun id c' h => hb id c' (List.mem_append_right _ h)) (fun c' h => hs c' (List.mem_append_right _ h))⟩
  | block id c ih =>
    simp only [LamOk]
    split
    · rename_i ψ hψ; exact hb id c List.mem_cons_self ψ hψ
    · exact ih (fun id c' h => hb id c' (List.mem_cons_of_mem _ h)) hs
  | scope c ih =>
    exact ⟨ih hb (fun c' h => hs c' (List.mem_cons_of_mem _ h)), hs c List.mem_cons_self⟩
  | _ => trivial

def nodupB : List Nat → Bool
  | [] => true
  | a :: r => !r.contains a && nodupB r
def findB : List (Nat × Code) → Nat → Code
  | [], _ => .skip
  | (k, c) :: r, n => if k = n then c else findB r n
theorem findB_mem {l : List (Nat × Code)} (hn : nodupB (l.map (·.1)) = true) {id : Nat} {c : Code} (h : (id, c) ∈ l) : c = findB l id := by
  induction l with
  | nil => cases h
  | cons p r ih =>
    obtain ⟨k, c'⟩ := p
    simp only [List.map_cons, nodupB, Bool.and_eq_true, Bool.not_eq_true'] at hn
    simp only [findB]
    rcases List.mem_cons.1 h with h | h
    · cases h; rw [if_pos rfl]
    · have hne : k ≠ id := by
        intro e; subst e
        have : k ∈ r.map (·.1) := List.mem_map.2 ⟨_, h, rfl⟩
        have h2 := hn.1
        simp at h2
        simp at this
        obtain ⟨x, hx⟩ := this
        exact h2 x hx
      rw [if_neg hne]; exact ih hn.2 h

/-- The block id of a body. -/
def blkC (c : Code) (id : Nat) : Code := findB (blocksOf c) id
def scC (c : Code) : Code := (scopesOf c).headD .skip

theorem lamOk_body {Λ : Known} {c : Code} (hn : nodupB ((blocksOf c).map (·.1)) = true) (h1 : decide ((scopesOf c).length ≤ 1) = true)
    (hb : ∀ id ψ, Λ.blk id = some ψ → ∀ s Φ, ψ s Φ → Run P (.code (.block id (blkC c id))) s Φ)
    (hs : ∀ l rest ψ, findLabel (scC c) l = some rest → Λ.lab l = some ψ → ∀ s Φ, ψ s Φ → Run P (.within (scC c) rest) s Φ) : LamOk P Λ c := by
  refine lamOk_of (fun id c' h ψ hψ => ?_) fun c' h => ?_
  · rw [findB_mem hn h]; exact hb id ψ hψ
  · have h1 := of_decide_eq_true h1
    have : c' = scC c := by
      unfold scC
      cases hl : scopesOf c with
      | nil => rw [hl] at h; cases h
      | cons x r =>
        rw [hl] at h h1
        cases r with
        | nil => simp at h; simp [h]
        | cons y r => simp at h1
    rw [this]; exact hs

/-! ### Functions -/
theorem body_sound2 {f : FuncId} {fn : Func} {c : Code} {args : List AV} {S : List Store} {r : AV} (hf : P.funcs[f]? = some fn) (hb : fn.body = some c)
    (hc : ∀ (may : Nat → Prop) (a : Act) (w : World) (g : Gh), Sim P may (enterA fn args S) a w g → (∀ b, w.heap.size ≤ b → may b) → c.wp P (fun x a' w' => ∃ e s1 s2 l l1 ys t, x = AExit.toExit e ∧ (e = .ret ∨ e = .normal) ∧ resultAll P s1 fn.results.toList = some l ∧ settle s1 l = some (s2, l1) ∧ outAll s2 [] l1 = some ys ∧ s2.stores = t :: S ∧ r = oneOf ys ∧ Leaves P may (enterA fn args S) w g s1 a' w') a w) : CallC P f args S S r := by
  intro may w g vs hi hm hlen hargs
  refine calls_of_wp hf hb (wp_mono (hc may _ w _ (enter_sim hi hlen hargs) hm) fun x a' w' ⟨e, s1, s2, l, l1, ys, t, hx, he, hl, hse, ho, hst, hr, g1, h1, h2, h3⟩ => ?_)
  have fin : a'.defers = [] ∧ ∃ v, (results fn a'.tmps).run P w' = .ok v w' ∧ (∃ v' g', Ending.returned v = Ending.returned v' ∧ Fr may w g.M w' g'.M ∧ SInv P w' g' may S ∧ Kp 0 S g S g' ∧ ResRep P may w' g' S r v') := by
    refine ⟨h1.defers, ?_⟩
    obtain ⟨us, hrun, hus⟩ := resultAll_sound (f := (fun | .tmp t => pure (a'.tmps.getD t undef) | .cell c t => do loadVar t (← asAddr (a'.tmps.getD c undef)) : ResultVar → Sem Value)) h1 (fun _ => rfl) (fun _ _ => rfl) hl
    obtain ⟨g2, k1, hus1⟩ := settle_sound h1 hus hse
    obtain ⟨hul, ks, o1, o2, o3⟩ := outAll_sound hst k1.1.inv hus1 ho
    refine ⟨_, results_run (fun _ => rfl) (fun _ _ => rfl) hrun, _, g2.pop, rfl, h2.trans k1.2.1, ?_, ?_, ?_⟩
    · have := k1.1.inv; rw [hst] at this; exact this.pop
    · have := h3.trans (k1.2.2.1.mono (by omega)); rw [hst] at this; exact this.pop
    · subst hr
      have all : OReps P may w' g2.pop S ys us := ⟨hul, fun i => g2.B 0 (ks i), o1, fun i j e xs e' xs' hi' hj' heq => by
        obtain ⟨_, o, ho1, ho2⟩ := o2 i _ _ hi'
        obtain ⟨_, p, hp1, hp2⟩ := o2 j _ _ hj'
        exact o3 i j _ _ _ _ hi' hj' (k1.1.inv.inj 0 (ks i) o 0 (ks j) p ho1 hp1 ho2 hp2 heq).2⟩
      match ys, us, hul, all with
      | [], [], _, all => exact ⟨[], rfl, all⟩
      | [y], [u], _, all =>
        obtain ⟨_, bl, q1, _⟩ := all
        have := q1 0 y u rfl rfl
        show ResRep P may w' g2.pop S y u
        unfold ResRep
        split
        · exact this.elim
        · exact ⟨_, this⟩
      | y :: y' :: ys, u :: u' :: us, _, all => exact ⟨_, rfl, all⟩
  rcases he with rfl | rfl
  · subst hx; exact fin
  · subst hx; exact fin

variable {R : List Store} {s : TSt}

theorem resultAllT_ok {rs : List ResultVar} {K : List T1 → Prop} (h : resultAllT P s rs K) : ∃ l, resultAll P (s.emb R) rs = some (l.map (T1.emb s.st)) ∧ K l := by
  induction rs generalizing K with
  | nil => exact ⟨[], rfl, h⟩
  | cons r rs ih =>
    simp only [resultAllT] at h
    have h1 : ∃ a, resultOne P (s.emb R) r = some (a.emb s.st) ∧ resultAllT P s rs fun b => K (a :: b) := by
      unfold resultOneT at h
      split at h
      · split at h
        · rename_i t x hx
          exact ⟨x, by simp only [resultOne, emb_get, hx]; rfl, h⟩
        · exact h.elim
      · split at h
        · rename_i a t k off ha
          obtain ⟨x, hx, h⟩ := loadT_ok (R := R) h
          exact ⟨x, by simp only [resultOne, emb_get, ha]; exact hx, h⟩
        · exact h.elim
    obtain ⟨a, ha, h⟩ := h1
    obtain ⟨l, hl, h⟩ := ih h
    exact ⟨a :: l, by simp only [resultAll, ha, hl, List.map_cons], h⟩

theorem settleOneT_ok {x : T1} {K : TSt → T1 → Prop} (h : settleOneT s x K) : ∃ s1 y, settleOne (s.emb R) (x.emb s.st) = some (s1.emb R, y.emb s1.st) ∧ Alike s.st s1.st ∧ K s1 y := by
  unfold settleOneT at h
  split at h
  · rename_i cs
    obtain ⟨s1, ds, h1, hv, ha, hl, h⟩ := resCs_ok (R := R) h
    refine ⟨s1, .agg ds, ?_, ha, h⟩
    have : ds.map (TC.emb []) = ds.map (TC.emb s1.st) := List.map_congr_left fun c hc => isVal_emb (hv c hc) _ _
    simp only [T1.emb, settleOne, resolve, h1, this]
  · rename_i k
    split at h
    · rename_i e t xs hl
      refine ⟨s, _, ?_, fun _ => rfl, h⟩
      have hsh : shapeT s.st k = some (e, xs.length) := by simp only [shapeT, hl]
      simp [T1.emb, TC.emb, hsh, settleOne, wholeA, getOb_emb, hl, TOb.emb]
    · rename_i e t xs hl
      refine ⟨_, _, ?_, fz_alike s k, h⟩
      have hsh : shapeT s.st k = some (e, xs.length) := by simp only [shapeT, hl]
      have hlt : List.take xs.length (xs.map t.emb) = xs.map t.emb := List.take_of_length_le (by simp)
      simp [T1.emb, TC.emb, hsh, settleOne, wholeA, getOb_emb, hl, TOb.emb, resolve1, St.elems, emb_fz, hlt, nlAV]
    · exact h.elim
  · rename_i k e lo n tot
    split at h
    · rename_i fz e' t xs hl
      rcases brc_cases h with ⟨hb, hk⟩ | ⟨hb, h⟩
      · simp only [Bool.and_eq_true, Bool.not_eq_true', beq_iff_eq] at hb
        obtain ⟨⟨⟨⟨h1, h2⟩, h3⟩, h4⟩, h5⟩ := hb
        have h2 : xs.length = tot := of_decide_eq_true h2
        have h5 : n = tot := of_decide_eq_true h5
        have h4 : lo = 0 := of_decide_eq_true h4
        subst h1; subst h3; subst h4; subst h5; subst h2
        refine ⟨s, _, ?_, fun _ => rfl, hk⟩
        have hsh : shapeT s.st k = some (e', xs.length) := by simp only [shapeT, hl]
        simp [T1.emb, TC.emb, AV.one, hsh, settleOne, wholeA, getOb_emb, hl, TOb.emb]
      · obtain ⟨s1, d, h1, hv, ha, h⟩ := resC_ok (R := R) h
        refine ⟨s1, _, ?_, ha, h⟩
        have hw : wholeA (s.emb R) k e lo n tot = false := by
          simp only [wholeA, getOb_emb, hl, Option.map_some, TOb.emb, List.length_map]
          simp only [W.neq, W.len] at hb
          rw [← hb]
          simp [Nat.beq_eq_true_eq, BEq.beq]
          rfl
        show settleOne (s.emb R) (.arr 0 k e lo n tot) = _
        simp only [settleOne, hw, Bool.false_eq_true, if_false]
        rw [show (T1.c d).emb s1.st = d.emb [] from isVal_emb hv _ _]
        exact h1
    · exact h.elim
  · exact h.elim
  · exact h.elim
  · rename_i n1 n2 n3 n4 n5
    refine ⟨s, x, ?_, fun _ => rfl, h⟩
    cases x with
    | agg cs => exact (n1 _ rfl).elim
    | own e t xs => exact (n5 _ _ _ rfl).elim
    | c c =>
      cases c with
      | h k => exact (n2 _ rfl).elim
      | eh k j off => exact (n4 _ _ _ rfl).elim
      | sl e t y => cases y <;> rfl
      | a y =>
        cases y with
        | arr i k e lo n tot =>
          cases i with
          | zero => exact (n3 _ _ _ _ _ rfl).elim
          | succ i => rfl
        | _ => rfl

theorem settleT_ok {l : List T1} {K : TSt → List T1 → Prop} (h : settleT s l K) : ∃ s1 ys, settle (s.emb R) (l.map (T1.emb s.st)) = some (s1.emb R, ys.map (T1.emb s1.st)) ∧ Alike s.st s1.st ∧ K s1 ys := by
  induction l generalizing s K with
  | nil => exact ⟨s, [], rfl, fun _ => rfl, h⟩
  | cons x r ih =>
    obtain ⟨s1, y, h1, ha, h⟩ := settleOneT_ok (R := R) h
    obtain ⟨s2, ys, h2, ha2, h⟩ := ih h
    refine ⟨s2, y :: ys, ?_, fun k => (ha k).trans (ha2 k), h⟩
    rw [← ha.t1s r] at h2
    simp only [List.map_cons, settle, h1, h2, ha2.t1 y]

theorem outOneT_ok {used : List Nat} {x : T1} {K : List Nat → T1 → Prop} (h : outOneT s used x K) : ∃ u1 y, outOne (s.emb R) used (x.emb s.st) = some (u1, y.emb []) ∧ y.outOk = true ∧ K u1 y := by
  unfold outOneT at h
  split at h
  · rename_i k
    split at h
    · rename_i e t xs hl
      split at h
      · rename_i hu
        refine ⟨_, _, ?_, rfl, h⟩
        have hsh : shapeT s.st k = some (e, xs.length) := by simp only [shapeT, hl]
        have ha : (T1.c (.h k)).emb s.st = .arr 0 k e 0 xs.length xs.length := by simp only [T1.emb, TC.emb, hsh]
        have hw : wholeA (s.emb R) k e 0 xs.length xs.length = true := by simp [wholeA, getOb_emb, hl, TOb.emb]
        rw [ha]
        simp only [outOne]
        rw [if_pos ⟨hw, hu⟩]
        simp only [getOb_emb, hl, Option.map_some, TOb.emb, T1.emb]
      · exact h.elim
    · exact h.elim
  · exact ⟨_, _, rfl, rfl, h⟩
  · exact ⟨_, _, rfl, rfl, h⟩
  · exact ⟨_, _, rfl, rfl, h⟩
  · exact ⟨_, _, rfl, rfl, h⟩
  · rename_i e t y
    refine ⟨_, _, ?_, rfl, h⟩
    cases y <;> rfl
  · rename_i cs
    split at h
    · rename_i hv
      refine ⟨_, .agg cs, ?_, hv, h⟩
      have hv' := List.all_eq_true.1 hv
      have : cs.map (TC.emb s.st) = cs.map (TC.emb []) := List.map_congr_left fun c hc => isVal_emb (hv' c hc) _ _
      simp only [T1.emb, outOne]
      rw [if_pos (isVals_emb _ hv), this]
    · exact h.elim
  · exact h.elim

theorem outAllT_ok {used : List Nat} {l : List T1} {K : List T1 → Prop} (h : outAllT s used l K) : ∃ ys, outAll (s.emb R) used (l.map (T1.emb s.st)) = some (ys.map (T1.emb [])) ∧ (∀ y, y ∈ ys → y.outOk = true) ∧ K ys := by
  induction l generalizing used K with
  | nil => exact ⟨[], rfl, (fun y hy => by cases hy), h⟩
  | cons x r ih =>
    obtain ⟨u1, y, h1, ho, h⟩ := outOneT_ok (R := R) h
    obtain ⟨ys, h2, hos, h⟩ := ih h
    refine ⟨y :: ys, ?_, fun z hz => ?_, h⟩
    · simp only [List.map_cons, outAll, h1, h2]
    · rcases List.mem_cons.1 hz with rfl | hz
      · exact ho
      · exact hos z hz

theorem oneOfT_ok {ys : List T1} (h : ∀ y, y ∈ ys → y.outOk = true) : (oneOfT ys).emb [] = oneOf (ys.map (T1.emb [])) ∧ (oneOfT ys).outOk = true := by
  match ys, h with
  | [], _ => exact ⟨rfl, rfl⟩
  | [y], h => exact ⟨rfl, h y List.mem_cons_self⟩
  | y :: z :: r, h => exact ⟨rfl, List.all_eq_true.2 h⟩

theorem outT_ok {rs : List ResultVar} {K : TV → Prop} (h : outT P s rs K) : ∃ (l : List AV) (s1 : TSt) (l1 ys : List AV) (v : TV), resultAll P (s.emb R) rs = some l ∧ settle (s.emb R) l = some (s1.emb R, l1) ∧ outAll (s1.emb R) [] l1 = some ys ∧ v.emb [] = oneOf ys ∧ v.outOk = true ∧ K v := by
  unfold outT at h
  obtain ⟨l, h1, h⟩ := resultAllT_ok (R := R) h
  obtain ⟨s1, l1, h2, ha, h⟩ := settleT_ok (R := R) h
  obtain ⟨ys, h3, ho, h⟩ := outAllT_ok (R := R) h
  obtain ⟨q1, q2⟩ := oneOfT_ok ho
  exact ⟨_, s1, _, _, _, h1, h2, h3, q1, q2, h⟩

theorem endT_ok {fn : Func} {K : TV → Prop} {e : AExit} (h : endT P fn K e s) : (e = .ret ∨ e = .normal) ∧ outT P s fn.results.toList K := by
  unfold endT at h
  cases e with
  | ret => exact ⟨.inl rfl, h⟩
  | normal => exact ⟨.inr rfl, h⟩
  | exit i => exact h.elim
  | goto l => exact h.elim

theorem enterT_emb {fn : Func} {args : List T1} (hn : ∀ a, a ∈ args → a.noH = true) (S : List Store) : (enterT fn args).emb S = enterA fn (args.map (T1.emb [])) S := by
  simp only [enterT, TSt.emb, enterA, List.map_append, List.map_map, List.map_replicate, List.length_map]
  rfl

/-- **A function** answers what its run says. -/
theorem fn_call {Λ : Known} (hΛ : KnownOk P E Λ) {f : FuncId} {fn : Func} {c : Code} (hf : P.funcs[f]? = some fn) (hb : fn.body = some c) (hL : LamOk P Λ c) {args : List T1} (hn : ∀ a, a ∈ args → a.noH = true) {r : TV}
    (h : wpFn P Λ fn args (fun x => x = r)) (S : List Store) : CallC P f (args.map (T1.emb [])) S S (r.emb []) := by
  unfold wpFn at h
  rw [hb] at h
  have hr := wpT_ok hΛ c _ _ hL h
  refine body_sound2 hf hb fun may a w g hs hm => ?_
  rw [← enterT_emb hn S] at hs ⊢
  refine wp_mono (hr.code hs hm) fun x a' w' ⟨e, s', hx, hp, hl⟩ => ?_
  obtain ⟨he, ho⟩ := endT_ok hp
  obtain ⟨l, s1, l1, ys, v, h1, h2, h3, h4, _, rfl⟩ := outT_ok (R := S) ho
  exact ⟨e, _, _, l, l1, ys, embStore s1.st, hx, he, h1, h2, h3, rfl, h4, hl⟩

end
end Go.AbsM
