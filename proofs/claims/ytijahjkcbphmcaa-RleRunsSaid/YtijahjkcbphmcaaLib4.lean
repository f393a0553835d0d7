/-
  The abstract machine and the typed machine over it: deterministic evaluators of translated code over plain values, each proved sound. Part 4 of 4.
-/
import Derived.Test.YtijahjkcbphmcaaLib3
/-! ## AbtFun -/
/-
  The typed machine: loops, jumps, functions by what they answer.
-/
set_option linter.unusedVariables false
set_option linter.unusedSimpArgs false
namespace Go.AbsM

section
variable {P : Program} {E : Env} {w : World} {g : Gh} {may : Nat → Prop}

abbrev Post := AExit → TSt → Prop

/-! ### Loops -/
def blockK (id : Nat) (Φ : Post) : Post := fun e s2 => match e with
  | .exit k => match k.beq id with
    | true => Φ .normal s2
    | false => Φ (.exit k) s2
  | .normal => Φ .normal s2
  | .goto l => Φ (.goto l) s2
  | .ret => Φ .ret s2

/-- Behind one round. -/
def stepK {ι : Type} (n : Nat) (ls ks lx kx : List Nat) (id : Nat) (mk : ι → TSt) (μ : ι → Nat) (ψ : ι → Post → Prop) (m : Nat) (Φ : Post) : Post := fun e s1 => match e with
  | .normal => cleanT n ls ks s1 fun s2 => ∃ j, s2 = mk j ∧ μ j < m ∧ ψ j Φ
  | .exit k => cleanT n lx kx s1 fun s2 => match k.beq id with
    | true => Φ .normal s2
    | false => Φ (.exit k) s2
  | .goto l => cleanT n lx kx s1 fun s2 => Φ (.goto l) s2
  | .ret => cleanT n lx kx s1 fun s2 => Φ .ret s2

theorem run_loop0 {ι : Type} {Λ : Known} (hΛ : KnownOk P E Λ) {n : Nat} {ls ks lx kx : List Nat} {id : Nat} {mk : ι → TSt} {μ : ι → Nat} {ψ : ι → Post → Prop} {c : Code} (hL : LamOk P Λ c)
    (step : ∀ i Φ, ψ i Φ → wpT P Λ c (mk i) (stepK n ls ks lx kx id mk μ ψ (μ i) Φ)) : ∀ (m : Nat) (i : ι) (Φ : Post), μ i < m → ψ i Φ → Run P (.code (.loop c)) (mk i) (fun e s2 => e ≠ .normal ∧ blockK id Φ e s2) := by
  intro m
  induction m with
  | zero => intro i Φ h; omega
  | succ m ih =>
    intro i Φ hi hψ R may a w g hs hm b k cs
    have h1 := (wpT_ok hΛ c (mk i) _ hL (step i Φ hψ)).code hs hm
    obtain ⟨ex, a1, w1, ⟨e, s1, hx, hp, hlv⟩, harr⟩ := h1 b (.inLoop c :: k) cs
    subst hx
    unfold stepK at hp
    cases e with
    | normal =>
      obtain ⟨s2, hp, hw⟩ := cleanT_ok (P := P) hp
      have hlv := leaves_to hw hlv
      obtain ⟨j, rfl, hj, hψj⟩ := hp
      obtain ⟨g1, k1, k2, k3⟩ := hlv
      obtain ⟨ex, a2, w2, he, harr2⟩ := ih j Φ (by omega) hψj R may a1 w1 g1 k1 (fun b hb => hm b (Nat.le_trans k2.size hb)) b k cs
      exact ⟨ex, a2, w2, he.trans k2 k3, .of_steps (Steps.trans harr (.one step_inLoop)) harr2⟩
    | exit id' =>
      obtain ⟨s2, hp, hw⟩ := cleanT_ok (P := P) hp
      exact ⟨_, a1, w1, ⟨.exit id', s2, rfl, ⟨(fun h => by cases h), hp⟩, leaves_to hw hlv⟩, .pass (x := .inLoop c) rfl (fun _ _ => .inl (by simp [AExit.toExit])) harr⟩
    | goto l =>
      obtain ⟨s2, hp, hw⟩ := cleanT_ok (P := P) hp
      exact ⟨_, a1, w1, ⟨.goto l, s2, rfl, ⟨(fun h => by cases h), hp⟩, leaves_to hw hlv⟩, .pass (x := .inLoop c) rfl (fun _ _ => .inl (by simp [AExit.toExit])) harr⟩
    | ret =>
      obtain ⟨s2, hp, hw⟩ := cleanT_ok (P := P) hp
      exact ⟨_, a1, w1, ⟨.ret, s2, rfl, ⟨(fun h => by cases h), hp⟩, leaves_to hw hlv⟩, .pass (x := .inLoop c) rfl (fun _ _ => .inl (by simp [AExit.toExit])) harr⟩

theorem run_block {id : Nat} {c : Code} {s : TSt} {Φ : Post} (h : Run P (.code c) s (blockK id Φ)) : Run P (.code (.block id c)) s Φ := by
  intro R may a w g hs hm
  refine wp_block (wp_mono (h.code hs hm) fun ex a1 w1 ⟨e, s1, hx, hp, hlv⟩ => ?_)
  subst hx
  cases e with
  | normal => exact ⟨.normal, s1, rfl, hp, hlv⟩
  | goto l => exact ⟨.goto l, s1, rfl, hp, hlv⟩
  | ret => exact ⟨.ret, s1, rfl, hp, hlv⟩
  | exit i =>
    simp only [AExit.toExit, Exit.inBlock]
    simp only [blockK] at hp
    split at hp
    · rename_i hi
      rw [if_pos (Nat.eq_of_beq_eq_true hi)]
      exact ⟨.normal, s1, rfl, hp, hlv⟩
    · rename_i hi
      rw [if_neg (Nat.ne_of_beq_eq_false hi)]
      exact ⟨.exit i, s1, rfl, hp, hlv⟩

theorem sim_id (s' : TSt) : ∀ (R : List Store) (may : Nat → Prop) (a : Act) (w : World) (g : Gh), Sim P may (s'.emb R) a w g → Sim P may (s'.emb R) a w g := fun _ _ _ _ _ h => h

/-- What is known of a loop: its state at each round is some mk i. -/
def loopP {ι : Type} (n : Nat) (ls ks : List Nat) (mk : ι → TSt) (ψ : ι → Post → Prop) : Piece := fun s Φ => cleanT n ls ks s fun s2 => ∃ i, s2 = mk i ∧ ψ i Φ

theorem run_loop {ι : Type} {Λ : Known} (hΛ : KnownOk P E Λ) {n : Nat} {ls ks lx kx : List Nat} {id : Nat} {mk : ι → TSt} {ψ : ι → Post → Prop} {c : Code} (μ : ι → Nat) (hL : LamOk P Λ c)
    (step : ∀ i Φ, ψ i Φ → wpT P Λ c (mk i) (stepK n ls ks lx kx id mk μ ψ (μ i) Φ)) (s : TSt) (Φ : Post) (h : loopP n ls ks mk ψ s Φ) : Run P (.code (.block id (.loop c))) s Φ := by
  refine Run.of_clean h fun s2 ⟨i, he, hψ⟩ => ?_
  subst he
  exact run_block (Run.mono (run_loop0 hΛ hL step _ i Φ (Nat.lt_succ_self _) hψ) fun e s' h => ⟨s', h.2, sim_id s'⟩)

/-! ### Jumps -/
def jumpK {ι : Type} (Λ : Known) (n : Nat) (ls ks lx kx : List Nat) (c : Code) (l : Nat) (mk : ι → TSt) (μ : ι → Nat) (ψ : ι → Post → Prop) (m : Nat) (Φ : Post) : Post := fun e s1 => match e with
  | .goto l' => match l'.beq l with
    | true => cleanT n ls ks s1 fun s2 => ∃ j, s2 = mk j ∧ μ j < m ∧ ψ j Φ
    | false => match findLabel c l' with
      | none => cleanT n lx kx s1 fun s2 => Φ (.goto l') s2
      | some _ => need (Λ.lab l') fun ψ' => ψ' s1 fun e s2 => cleanT n lx kx s2 fun s3 => Φ e s3
  | .normal => cleanT n lx kx s1 fun s2 => Φ .normal s2
  | .exit i => cleanT n lx kx s1 fun s2 => Φ (.exit i) s2
  | .ret => cleanT n lx kx s1 fun s2 => Φ .ret s2

theorem run_jump0 {ι : Type} {Λ : Known} (hΛ : KnownOk P E Λ) {n : Nat} {ls ks lx kx : List Nat} {mk : ι → TSt} {μ : ι → Nat} {ψ : ι → Post → Prop} {c rest : Code} {l : Nat} (hL : LamOk P Λ rest) (hf : findLabel c l = some rest)
    (hlab : ∀ l' rest' ψ', l' ≠ l → findLabel c l' = some rest' → Λ.lab l' = some ψ' → ∀ s Φ, ψ' s Φ → Run P (.within c rest') s Φ)
    (step : ∀ i Φ, ψ i Φ → wpT P Λ rest (mk i) (jumpK Λ n ls ks lx kx c l mk μ ψ (μ i) Φ)) : ∀ (m : Nat) (i : ι) (Φ : Post), μ i < m → ψ i Φ → Run P (.within c rest) (mk i) Φ := by
  intro m
  induction m with
  | zero => intro i Φ h; omega
  | succ m ih =>
    intro i Φ hi hψ R may a w g hs hm b k cs
    have h1 := (wpT_ok hΛ rest (mk i) _ hL (step i Φ hψ)).code hs hm
    obtain ⟨ex, a1, w1, ⟨e, s1, hx, hp, hlv⟩, harr⟩ := h1 b (.inScope c :: k) cs
    subst hx
    cases e with
    | normal =>
      obtain ⟨s2, hp, hw⟩ := cleanT_ok (P := P) hp
      exact ⟨_, a1, w1, ⟨.normal, s2, rfl, hp, leaves_to hw hlv⟩, Steps.trans harr (.one step_inScope)⟩
    | exit id =>
      obtain ⟨s2, hp, hw⟩ := cleanT_ok (P := P) hp
      exact ⟨_, a1, w1, ⟨.exit id, s2, rfl, hp, leaves_to hw hlv⟩, fun k' hk => harr k' (by simp [exitTo, hk])⟩
    | ret =>
      obtain ⟨s2, hp, hw⟩ := cleanT_ok (P := P) hp
      exact ⟨_, a1, w1, ⟨.ret, s2, rfl, hp, leaves_to hw hlv⟩, harr⟩
    | goto l' =>
      simp only [jumpK] at hp
      split at hp
      · rename_i he
        have he := Nat.eq_of_beq_eq_true he
        subst he
        obtain ⟨s2, hp, hw⟩ := cleanT_ok (P := P) hp
        have hlv := leaves_to hw hlv
        obtain ⟨j, rfl, hj, hψj⟩ := hp
        obtain ⟨g1, k1, k2, k3⟩ := hlv
        obtain ⟨ex, a2, w2, he, harr2⟩ := ih j Φ (by omega) hψj R may a1 w1 g1 k1 (fun b hb => hm b (Nat.le_trans k2.size hb)) b k cs
        exact ⟨ex, a2, w2, he.trans k2 k3, .of_steps (harr _ (gotoIn_scope hf)) harr2⟩
      · rename_i hne
        have hne := Nat.ne_of_beq_eq_false hne
        split at hp
        · rename_i hf'
          obtain ⟨s2, hp, hw⟩ := cleanT_ok (P := P) hp
          exact ⟨_, a1, w1, ⟨.goto l', s2, rfl, hp, leaves_to hw hlv⟩, fun k' hk => harr k' (by simp [gotoIn, hf', hk])⟩
        · rename_i rest' hf'
          obtain ⟨ψ', hψ', hp⟩ := need_some hp
          obtain ⟨g1, k1, k2, k3⟩ := hlv
          have hr := (hlab l' rest' ψ' hne hf' hψ' s1 _ hp).mono fun e s' h => cleanT_ok (P := P) h
          obtain ⟨ex, a2, w2, he, harr2⟩ := hr R may a1 w1 g1 k1 (fun b hb => hm b (Nat.le_trans k2.size hb)) b k cs
          exact ⟨ex, a2, w2, he.trans k2 k3, .of_steps (harr _ (gotoIn_scope hf')) harr2⟩

theorem run_jump {ι : Type} {Λ : Known} (hΛ : KnownOk P E Λ) {n : Nat} {ls ks lx kx : List Nat} {mk : ι → TSt} {ψ : ι → Post → Prop} {c rest : Code} {l : Nat} (μ : ι → Nat) (hL : LamOk P Λ rest) (hf : findLabel c l = some rest)
    (hlab : ∀ l' rest' ψ', l' ≠ l → findLabel c l' = some rest' → Λ.lab l' = some ψ' → ∀ s Φ, ψ' s Φ → Run P (.within c rest') s Φ)
    (step : ∀ i Φ, ψ i Φ → wpT P Λ rest (mk i) (jumpK Λ n ls ks lx kx c l mk μ ψ (μ i) Φ)) (s : TSt) (Φ : Post) (h : loopP n ls ks mk ψ s Φ) : Run P (.within c rest) s Φ := by
  refine Run.of_clean h fun s2 ⟨i, he, hψ⟩ => ?_
  subst he
  exact run_jump0 hΛ hL hf hlab step _ i Φ (Nat.lt_succ_self _) hψ

/-! ### Which loops there are -/
def blocksOf : Code → List (Nat × Code)
  | .seq a b => blocksOf a ++ blocksOf b
  | .cond _ a b => blocksOf a ++ blocksOf b
  | .block id c => (id, c) :: blocksOf c
  | .loop c => blocksOf c
  | .scope c => blocksOf c
  | _ => []
def scopesOf : Code → List Code
  | .seq a b => scopesOf a ++ scopesOf b
  | .cond _ a b => scopesOf a ++ scopesOf b
  | .block _ c => scopesOf c
  | .loop c => scopesOf c
  | .scope c => c :: scopesOf c
  | _ => []

theorem lamOk_of {Λ : Known} {c : Code} (hb : ∀ id c', (id, c') ∈ blocksOf c → ∀ ψ, Λ.blk id = some ψ → ∀ s Φ, ψ s Φ → Run P (.code (.block id c')) s Φ)
    (hs : ∀ c', c' ∈ scopesOf c → ∀ l rest ψ, findLabel c' l = some rest → Λ.lab l = some ψ → ∀ s Φ, ψ s Φ → Run P (.within c' rest) s Φ) : LamOk P Λ c := by
  induction c with
  | seq a b iha ihb =>
    exact ⟨iha (fun id c' h => hb id c' (List.mem_append_left _ h)) (fun c' h => hs c' (List.mem_append_left _ h)), ihb (fun id c' h => hb id c' (List.mem_append_right _ h)) (fun c' h => hs c' (List.mem_append_right _ h))⟩
  | cond o a b iha ihb =>
    exact ⟨iha (fun id c' h => hb id c' (List.mem_append_left _ h)) (fun c' h => hs c' (List.mem_append_left _ h)), ihb (fun id c' h => hb id c' (List.mem_append_right _ h)) (fun c' h => hs c' (List.mem_append_right _ h))⟩
  | block id c ih =>
    simp only [LamOk]
    split
    · rename_i ψ hψ; exact hb id c List.mem_cons_self ψ hψ
    · exact ih (fun id c' h => hb id c' (List.mem_cons_of_mem _ h)) hs
  | scope c ih =>
    exact ⟨ih hb (fun c' h => hs c' (List.mem_cons_of_mem _ h)), hs c List.mem_cons_self⟩
  | _ => trivial

def nodupB : List Nat → Bool
  | [] => true
  | a :: r => !r.contains a && nodupB r
def findB : List (Nat × Code) → Nat → Code
  | [], _ => .skip
  | (k, c) :: r, n => if k = n then c else findB r n
theorem findB_mem {l : List (Nat × Code)} (hn : nodupB (l.map (·.1)) = true) {id : Nat} {c : Code} (h : (id, c) ∈ l) : c = findB l id := by
  induction l with
  | nil => cases h
  | cons p r ih =>
    obtain ⟨k, c'⟩ := p
    simp only [List.map_cons, nodupB, Bool.and_eq_true, Bool.not_eq_true'] at hn
    simp only [findB]
    rcases List.mem_cons.1 h with h | h
    · cases h; rw [if_pos rfl]
    · have hne : k ≠ id := by
        intro e; subst e
        have : k ∈ r.map (·.1) := List.mem_map.2 ⟨_, h, rfl⟩
        have h2 := hn.1
        simp at h2
        simp at this
        obtain ⟨x, hx⟩ := this
        exact h2 x hx
      rw [if_neg hne]; exact ih hn.2 h

/-- The block id of a body. -/
def blkC (c : Code) (id : Nat) : Code := findB (blocksOf c) id
def scC (c : Code) : Code := (scopesOf c).headD .skip

theorem lamOk_body {Λ : Known} {c : Code} (hn : nodupB ((blocksOf c).map (·.1)) = true) (h1 : decide ((scopesOf c).length ≤ 1) = true)
    (hb : ∀ id ψ, Λ.blk id = some ψ → ∀ s Φ, ψ s Φ → Run P (.code (.block id (blkC c id))) s Φ)
    (hs : ∀ l rest ψ, findLabel (scC c) l = some rest → Λ.lab l = some ψ → ∀ s Φ, ψ s Φ → Run P (.within (scC c) rest) s Φ) : LamOk P Λ c := by
  refine lamOk_of (fun id c' h ψ hψ => ?_) fun c' h => ?_
  · rw [findB_mem hn h]; exact hb id ψ hψ
  · have h1 := of_decide_eq_true h1
    have : c' = scC c := by
      unfold scC
      cases hl : scopesOf c with
      | nil => rw [hl] at h; cases h
      | cons x r =>
        rw [hl] at h h1
        cases r with
        | nil => simp at h; simp [h]
        | cons y r => simp at h1
    rw [this]; exact hs

/-! ### Functions -/
theorem body_sound2 {f : FuncId} {fn : Func} {c : Code} {args : List AV} {S : List Store} {r : AV} (hf : P.funcs[f]? = some fn) (hb : fn.body = some c)
    (hc : ∀ (may : Nat → Prop) (a : Act) (w : World) (g : Gh), Sim P may (enterA fn args S) a w g → (∀ b, w.heap.size ≤ b → may b) → c.wp P (fun x a' w' => ∃ e s1 s2 l l1 ys t, x = AExit.toExit e ∧ (e = .ret ∨ e = .normal) ∧ resultAll P s1 fn.results.toList = some l ∧ settle s1 l = some (s2, l1) ∧ outAll s2 [] l1 = some ys ∧ s2.stores = t :: S ∧ r = oneOf ys ∧ Leaves P may (enterA fn args S) w g s1 a' w') a w) : CallC P f args S S r := by
  intro may w g vs hi hm hlen hargs
  refine calls_of_wp hf hb (wp_mono (hc may _ w _ (enter_sim hi hlen hargs) hm) fun x a' w' ⟨e, s1, s2, l, l1, ys, t, hx, he, hl, hse, ho, hst, hr, g1, h1, h2, h3⟩ => ?_)
  have fin : a'.defers = [] ∧ ∃ v, (results fn a'.tmps).run P w' = .ok v w' ∧ (∃ v' g', Ending.returned v = Ending.returned v' ∧ Fr may w g.M w' g'.M ∧ SInv P w' g' may S ∧ Kp 0 S g S g' ∧ ResRep P may w' g' S r v') := by
    refine ⟨h1.defers, ?_⟩
    obtain ⟨us, hrun, hus⟩ := resultAll_sound (f := (fun | .tmp t => pure (a'.tmps.getD t undef) | .cell c t => do loadVar t (← asAddr (a'.tmps.getD c undef)) : ResultVar → Sem Value)) h1 (fun _ => rfl) (fun _ _ => rfl) hl
    obtain ⟨g2, k1, hus1⟩ := settle_sound h1 hus hse
    obtain ⟨hul, ks, o1, o2, o3⟩ := outAll_sound hst k1.1.inv hus1 ho
    refine ⟨_, results_run (fun _ => rfl) (fun _ _ => rfl) hrun, _, g2.pop, rfl, h2.trans k1.2.1, ?_, ?_, ?_⟩
    · have := k1.1.inv; rw [hst] at this; exact this.pop
    · have := h3.trans (k1.2.2.1.mono (by omega)); rw [hst] at this; exact this.pop
    · subst hr
      have all : OReps P may w' g2.pop S ys us := ⟨hul, fun i => g2.B 0 (ks i), o1, fun i j e xs e' xs' hi' hj' heq => by
        obtain ⟨_, o, ho1, ho2⟩ := o2 i _ _ hi'
        obtain ⟨_, p, hp1, hp2⟩ := o2 j _ _ hj'
        exact o3 i j _ _ _ _ hi' hj' (k1.1.inv.inj 0 (ks i) o 0 (ks j) p ho1 hp1 ho2 hp2 heq).2⟩
      match ys, us, hul, all with
      | [], [], _, all => exact ⟨[], rfl, all⟩
      | [y], [u], _, all =>
        obtain ⟨_, bl, q1, _⟩ := all
        have := q1 0 y u rfl rfl
        show ResRep P may w' g2.pop S y u
        unfold ResRep
        split
        · exact this.elim
        · exact ⟨_, this⟩
      | y :: y' :: ys, u :: u' :: us, _, all => exact ⟨_, rfl, all⟩
  rcases he with rfl | rfl
  · subst hx; exact fin
  · subst hx; exact fin

variable {R : List Store} {s : TSt}

theorem resultAllT_ok {rs : List ResultVar} {K : List T1 → Prop} (h : resultAllT P s rs K) : ∃ l, resultAll P (s.emb R) rs = some (l.map (T1.emb s.st)) ∧ K l := by
  induction rs generalizing K with
  | nil => exact ⟨[], rfl, h⟩
  | cons r rs ih =>
    simp only [resultAllT] at h
    have h1 : ∃ a, resultOne P (s.emb R) r = some (a.emb s.st) ∧ resultAllT P s rs fun b => K (a :: b) := by
      unfold resultOneT at h
      split at h
      · split at h
        · rename_i t x hx
          exact ⟨x, by simp only [resultOne, emb_get, hx]; rfl, h⟩
        · exact h.elim
      · split at h
        · rename_i a t k off ha
          obtain ⟨x, hx, h⟩ := loadT_ok (R := R) h
          exact ⟨x, by simp only [resultOne, emb_get, ha]; exact hx, h⟩
        · exact h.elim
    obtain ⟨a, ha, h⟩ := h1
    obtain ⟨l, hl, h⟩ := ih h
    exact ⟨a :: l, by simp only [resultAll, ha, hl, List.map_cons], h⟩

theorem settleOneT_ok {x : T1} {K : TSt → T1 → Prop} (h : settleOneT s x K) : ∃ s1 y, settleOne (s.emb R) (x.emb s.st) = some (s1.emb R, y.emb s1.st) ∧ Alike s.st s1.st ∧ K s1 y := by
  unfold settleOneT at h
  split at h
  · rename_i cs
    obtain ⟨s1, ds, h1, hv, ha, hl, h⟩ := resCs_ok (R := R) h
    refine ⟨s1, .agg ds, ?_, ha, h⟩
    have : ds.map (TC.emb []) = ds.map (TC.emb s1.st) := List.map_congr_left fun c hc => isVal_emb (hv c hc) _ _
    simp only [T1.emb, settleOne, resolve, h1, this]
  · rename_i k
    split at h
    · rename_i e t xs hl
      refine ⟨s, _, ?_, fun _ => rfl, h⟩
      have hsh : shapeT s.st k = some (e, xs.length) := by simp only [shapeT, hl]
      simp [T1.emb, TC.emb, hsh, settleOne, wholeA, getOb_emb, hl, TOb.emb]
    · rename_i e t xs hl
      refine ⟨_, _, ?_, fz_alike s k, h⟩
      have hsh : shapeT s.st k = some (e, xs.length) := by simp only [shapeT, hl]
      have hlt : List.take xs.length (xs.map t.emb) = xs.map t.emb := List.take_of_length_le (by simp)
      simp [T1.emb, TC.emb, hsh, settleOne, wholeA, getOb_emb, hl, TOb.emb, resolve1, St.elems, emb_fz, hlt, nlAV]
    · exact h.elim
  · rename_i k e lo n tot
    split at h
    · rename_i fz e' t xs hl
      rcases brc_cases h with ⟨hb, hk⟩ | ⟨hb, h⟩
      · simp only [Bool.and_eq_true, Bool.not_eq_true', beq_iff_eq] at hb
        obtain ⟨⟨⟨⟨h1, h2⟩, h3⟩, h4⟩, h5⟩ := hb
        have h2 : xs.length = tot := of_decide_eq_true h2
        have h5 : n = tot := of_decide_eq_true h5
        have h4 : lo = 0 := of_decide_eq_true h4
        subst h1; subst h3; subst h4; subst h5; subst h2
        refine ⟨s, _, ?_, fun _ => rfl, hk⟩
        have hsh : shapeT s.st k = some (e', xs.length) := by simp only [shapeT, hl]
        simp [T1.emb, TC.emb, AV.one, hsh, settleOne, wholeA, getOb_emb, hl, TOb.emb]
      · obtain ⟨s1, d, h1, hv, ha, h⟩ := resC_ok (R := R) h
        refine ⟨s1, _, ?_, ha, h⟩
        have hw : wholeA (s.emb R) k e lo n tot = false := by
          simp only [wholeA, getOb_emb, hl, Option.map_some, TOb.emb, List.length_map]
          simp only [W.neq, W.len] at hb
          rw [← hb]
          simp [Nat.beq_eq_true_eq, BEq.beq]
          rfl
        show settleOne (s.emb R) (.arr 0 k e lo n tot) = _
        simp only [settleOne, hw, Bool.false_eq_true, if_false]
        rw [show (T1.c d).emb s1.st = d.emb [] from isVal_emb hv _ _]
        exact h1
    · exact h.elim
  · exact h.elim
  · exact h.elim
  · rename_i n1 n2 n3 n4 n5
    refine ⟨s, x, ?_, fun _ => rfl, h⟩
    cases x with
    | agg cs => exact (n1 _ rfl).elim
    | own e t xs => exact (n5 _ _ _ rfl).elim
    | c c =>
      cases c with
      | h k => exact (n2 _ rfl).elim
      | eh k j off => exact (n4 _ _ _ rfl).elim
      | sl e t y => cases y <;> rfl
      | a y =>
        cases y with
        | arr i k e lo n tot =>
          cases i with
          | zero => exact (n3 _ _ _ _ _ rfl).elim
          | succ i => rfl
        | _ => rfl

theorem settleT_ok {l : List T1} {K : TSt → List T1 → Prop} (h : settleT s l K) : ∃ s1 ys, settle (s.emb R) (l.map (T1.emb s.st)) = some (s1.emb R, ys.map (T1.emb s1.st)) ∧ Alike s.st s1.st ∧ K s1 ys := by
  induction l generalizing s K with
  | nil => exact ⟨s, [], rfl, fun _ => rfl, h⟩
  | cons x r ih =>
    obtain ⟨s1, y, h1, ha, h⟩ := settleOneT_ok (R := R) h
    obtain ⟨s2, ys, h2, ha2, h⟩ := ih h
    refine ⟨s2, y :: ys, ?_, fun k => (ha k).trans (ha2 k), h⟩
    rw [← ha.t1s r] at h2
    simp only [List.map_cons, settle, h1, h2, ha2.t1 y]

theorem outOneT_ok {used : List Nat} {x : T1} {K : List Nat → T1 → Prop} (h : outOneT s used x K) : ∃ u1 y, outOne (s.emb R) used (x.emb s.st) = some (u1, y.emb []) ∧ y.outOk = true ∧ K u1 y := by
  unfold outOneT at h
  split at h
  · rename_i k
    split at h
    · rename_i e t xs hl
      split at h
      · rename_i hu
        refine ⟨_, _, ?_, rfl, h⟩
        have hsh : shapeT s.st k = some (e, xs.length) := by simp only [shapeT, hl]
        have ha : (T1.c (.h k)).emb s.st = .arr 0 k e 0 xs.length xs.length := by simp only [T1.emb, TC.emb, hsh]
        have hw : wholeA (s.emb R) k e 0 xs.length xs.length = true := by simp [wholeA, getOb_emb, hl, TOb.emb]
        rw [ha]
        simp only [outOne]
        rw [if_pos ⟨hw, hu⟩]
        simp only [getOb_emb, hl, Option.map_some, TOb.emb, T1.emb]
      · exact h.elim
    · exact h.elim
  · exact ⟨_, _, rfl, rfl, h⟩
  · exact ⟨_, _, rfl, rfl, h⟩
  · exact ⟨_, _, rfl, rfl, h⟩
  · exact ⟨_, _, rfl, rfl, h⟩
  · rename_i e t y
    refine ⟨_, _, ?_, rfl, h⟩
    cases y <;> rfl
  · rename_i cs
    split at h
    · rename_i hv
      refine ⟨_, .agg cs, ?_, hv, h⟩
      have hv' := List.all_eq_true.1 hv
      have : cs.map (TC.emb s.st) = cs.map (TC.emb []) := List.map_congr_left fun c hc => isVal_emb (hv' c hc) _ _
      simp only [T1.emb, outOne]
      rw [if_pos (isVals_emb _ hv), this]
    · exact h.elim
  · exact h.elim

theorem outAllT_ok {used : List Nat} {l : List T1} {K : List T1 → Prop} (h : outAllT s used l K) : ∃ ys, outAll (s.emb R) used (l.map (T1.emb s.st)) = some (ys.map (T1.emb [])) ∧ (∀ y, y ∈ ys → y.outOk = true) ∧ K ys := by
  induction l generalizing used K with
  | nil => exact ⟨[], rfl, (fun y hy => by cases hy), h⟩
  | cons x r ih =>
    obtain ⟨u1, y, h1, ho, h⟩ := outOneT_ok (R := R) h
    obtain ⟨ys, h2, hos, h⟩ := ih h
    refine ⟨y :: ys, ?_, fun z hz => ?_, h⟩
    · simp only [List.map_cons, outAll, h1, h2]
    · rcases List.mem_cons.1 hz with rfl | hz
      · exact ho
      · exact hos z hz

theorem oneOfT_ok {ys : List T1} (h : ∀ y, y ∈ ys → y.outOk = true) : (oneOfT ys).emb [] = oneOf (ys.map (T1.emb [])) ∧ (oneOfT ys).outOk = true := by
  match ys, h with
  | [], _ => exact ⟨rfl, rfl⟩
  | [y], h => exact ⟨rfl, h y List.mem_cons_self⟩
  | y :: z :: r, h => exact ⟨rfl, List.all_eq_true.2 h⟩

theorem outT_ok {rs : List ResultVar} {K : TV → Prop} (h : outT P s rs K) : ∃ (l : List AV) (s1 : TSt) (l1 ys : List AV) (v : TV), resultAll P (s.emb R) rs = some l ∧ settle (s.emb R) l = some (s1.emb R, l1) ∧ outAll (s1.emb R) [] l1 = some ys ∧ v.emb [] = oneOf ys ∧ v.outOk = true ∧ K v := by
  unfold outT at h
  obtain ⟨l, h1, h⟩ := resultAllT_ok (R := R) h
  obtain ⟨s1, l1, h2, ha, h⟩ := settleT_ok (R := R) h
  obtain ⟨ys, h3, ho, h⟩ := outAllT_ok (R := R) h
  obtain ⟨q1, q2⟩ := oneOfT_ok ho
  exact ⟨_, s1, _, _, _, h1, h2, h3, q1, q2, h⟩

theorem endT_ok {fn : Func} {K : TV → Prop} {e : AExit} (h : endT P fn K e s) : (e = .ret ∨ e = .normal) ∧ outT P s fn.results.toList K := by
  unfold endT at h
  cases e with
  | ret => exact ⟨.inl rfl, h⟩
  | normal => exact ⟨.inr rfl, h⟩
  | exit i => exact h.elim
  | goto l => exact h.elim

theorem enterT_emb {fn : Func} {args : List T1} (hn : ∀ a, a ∈ args → a.noH = true) (S : List Store) : (enterT fn args).emb S = enterA fn (args.map (T1.emb [])) S := by
  simp only [enterT, TSt.emb, enterA, List.map_append, List.map_map, List.map_replicate, List.length_map]
  rfl

/-- **A function** answers what its run says. -/
theorem fn_call {Λ : Known} (hΛ : KnownOk P E Λ) {f : FuncId} {fn : Func} {c : Code} (hf : P.funcs[f]? = some fn) (hb : fn.body = some c) (hL : LamOk P Λ c) {args : List T1} (hn : ∀ a, a ∈ args → a.noH = true) {r : TV}
    (h : wpFn P Λ fn args (fun x => x = r)) (S : List Store) : CallC P f (args.map (T1.emb [])) S S (r.emb []) := by
  unfold wpFn at h
  rw [hb] at h
  have hr := wpT_ok hΛ c _ _ hL h
  refine body_sound2 hf hb fun may a w g hs hm => ?_
  rw [← enterT_emb hn S] at hs ⊢
  refine wp_mono (hr.code hs hm) fun x a' w' ⟨e, s', hx, hp, hl⟩ => ?_
  obtain ⟨he, ho⟩ := endT_ok hp
  obtain ⟨l, s1, l1, ys, v, h1, h2, h3, h4, _, rfl⟩ := outT_ok (R := S) ho
  exact ⟨e, _, _, l, l1, ys, embStore s1.st, hx, he, h1, h2, h3, rfl, h4, hl⟩

end
end Go.AbsM

/-! ## AbtCtr -/
/-
  The typed machine: contracts of functions; what a law's run says of the law.
-/
set_option linter.unusedVariables false
set_option linter.unusedSimpArgs false
namespace Go.AbsM

/-- An argument: a value by itself, or a slice (nil is an empty one). -/
inductive AT where
  | v (t : VT)
  | l (e : TypeId) (t : VT)
@[reducible] def AT.den : AT → Type
  | .v t => t.den
  | .l _ t => List t.den
def dens : List AT → Type
  | [] => Unit
  | a :: r => a.den × dens r
def AT.t1 : (a : AT) → a.den → T1
  | .v t, x => t.t1 x
  | .l e t, xs => .c (.sl e t (.mk xs))
def t1s : (l : List AT) → dens l → List T1
  | [], _ => []
  | a :: r, d => a.t1 (Prod.fst d) :: t1s r (Prod.snd d)
def AT.dec : (a : AT) → T1 → Option a.den
  | .v t, x => t.ofT1 x
  | .l e t, x => match x with
    | .c (.a .nils) => some []
    | .c (.a .cap0) => some []
    | .c (.sl e' t' x) => if e' = e then if h : t' = t then some (h ▸ x.list) else none else none
    | _ => none
def decs : (l : List AT) → List T1 → Option (dens l)
  | [], [] => some ()
  | a :: r, x :: xs => match a.dec x, decs r xs with
    | some d, some ds => some (d, ds)
    | _, _ => none
  | _, _ => none

/-- The same of what stands below. -/
def mapA {α : Type} (f : AV → Option α) : List AV → Option (List α)
  | [] => some []
  | x :: r => match f x, mapA f r with
    | some a, some l => some (a :: l)
    | _, _ => none
def headA {α : Type} (f : AV → Option α) : List AV → Option (α × List AV)
  | [] => none
  | x :: r => match f x with
    | some a => some (a, r)
    | none => none
def oneA (agg : Bool) {α : Type} (f : List AV → Option (α × List AV)) (x : AV) : Option α := match agg, x with
  | true, .agg cs => match f cs with
    | some (a, []) => some a
    | _ => none
  | true, _ => none
  | false, x => match f [x] with
    | some (a, []) => some a
    | _ => none
def VT.ofAs : (t : VT) → List AV → Option (t.den × List AV)
  | .int k => headA fun x => match x with
    | .x (.int k' n) => if k' = k then some n else none
    | _ => none
  | .bool => headA fun x => match x with
    | .x (.bool b) => some b
    | _ => none
  | .str => headA fun x => match x with
    | .str l => some l
    | _ => none
  | .flt k => headA fun x => match x with
    | .x (.float k' n) => if k' = k then some n else none
    | _ => none
  | .cx k => headA fun x => match x with
    | .x (.complex k' a b) => if k' = k then some ((a, b) : Nat × Nat) else none
    | _ => none
  | .slc e t => headA fun x => match x with
    | .nils => some NL.nil
    | .cap0 => some NL.cap0
    | .sl e' xs => if e' = e then (mapA (oneA t.isAgg t.ofAs) xs).map NL.mk else none
    | _ => none
  | .unit => fun r => some ((), r)
  | .pair a b => fun cs => match a.ofAs cs with
    | some (x, r) => match b.ofAs r with
      | some (y, r') => some ((x, y), r')
      | none => none
    | none => none
def VT.ofA (t : VT) (x : AV) : Option t.den := oneA t.isAgg t.ofAs x
def AT.decA : (a : AT) → AV → Option a.den
  | .v t, x => t.ofA x
  | .l e t, x => match x with
    | .nils => some []
    | .cap0 => some []
    | .sl e' xs => if e' = e then mapA t.ofA xs else none
    | _ => none
def decsA : (l : List AT) → List AV → Option (dens l)
  | [], [] => some ()
  | a :: r, x :: xs => match a.decA x, decsA r xs with
    | some d, some ds => some (d, ds)
    | _, _ => none
  | _, _ => none

theorem ofAs_cells (t : VT) : ∀ (x : t.den) (r : List AV), t.ofAs (t.cells x ++ r) = some (x, r) := by
  induction t with
  | pair a b ha hb =>
    intro x r
    simp only [VT.cells, List.append_assoc, VT.ofAs, ha, hb]; rfl
  | unit => intro x r; rfl
  | slc e t ih =>
    intro x r
    have one : ∀ y, oneA t.isAgg t.ofAs (t.emb y) = some y := by
      intro y
      have := ih y []
      rw [List.append_nil] at this
      unfold VT.emb embOf
      cases h : t.isAgg with
      | true => simp only [oneA, this]
      | false =>
        obtain ⟨c, hc, _⟩ := cells_one h y
        rw [hc] at this ⊢
        simp only [oneA, List.headD_cons, this]
    have all : ∀ l : List t.den, mapA (oneA t.isAgg t.ofAs) (l.map t.emb) = some l := by
      intro l
      induction l with
      | nil => rfl
      | cons y l ihl => simp only [List.map_cons, mapA, one, ihl]
    cases x with
    | nil => rfl
    | cap0 => rfl
    | mk l =>
      have e1 : (VT.slc e t).cells (.mk l) = [.sl e (l.map t.emb)] := rfl
      rw [e1]
      simp only [List.cons_append, List.nil_append, VT.ofAs, headA, if_true, all]
      rfl
  | cx k => intro x r; obtain ⟨a, b⟩ := x; simp [VT.ofAs, VT.cells, headA]
  | _ => intro x r; first | rfl | simp [VT.ofAs, VT.cells, headA]
theorem ofA_emb (t : VT) (x : t.den) : t.ofA (t.emb x) = some x := by
  have := ofAs_cells t x []
  rw [List.append_nil] at this
  unfold VT.ofA VT.emb embOf
  cases h : t.isAgg with
  | true => simp only [oneA, this]
  | false =>
    obtain ⟨c, hc, _⟩ := cells_one h x
    rw [hc] at this ⊢
    simp only [oneA, List.headD_cons, this]
theorem mapA_emb (t : VT) (l : List t.den) : mapA t.ofA (l.map t.emb) = some l := by
  induction l with
  | nil => rfl
  | cons y l ihl => simp only [List.map_cons, mapA, ofA_emb, ihl]

theorem dec_decA {a : AT} {x : T1} {d : a.den} (h : a.dec x = some d) : a.decA (x.emb []) = some d := by
  cases a with
  | v t =>
    have := ofT1_emb [] h
    show t.ofA (x.emb []) = some (show t.den from d)
    rw [← this]; exact ofA_emb t d
  | l e t =>
    simp only [AT.dec] at h
    split at h
    · cases h; rfl
    · cases h; rfl
    · rename_i e' t' y
      split at h
      · rename_i he
        split at h
        · rename_i ht
          subst he; subst ht
          cases h
          cases y with
          | nil => rfl
          | cap0 => rfl
          | mk l =>
            show AT.decA (.l e' t') (.sl e' (l.map t'.emb)) = some l
            simp only [AT.decA, if_true, mapA_emb]
        · cases h
      · cases h
    · cases h
theorem decs_decsA : ∀ {l : List AT} {xs : List T1} {d : dens l}, decs l xs = some d → decsA l (xs.map (T1.emb [])) = some d
  | [], [], d, h => h
  | a :: r, x :: xs, d, h => by
    simp only [decs] at h
    split at h
    · rename_i d1 ds h1 h2
      simp only [List.map_cons, decsA, dec_decA h1, decs_decsA h2]; exact h
    · cases h

theorem headA_inv {α : Type} {f : AV → Option α} {l r : List AV} {x : α} (h : headA f l = some (x, r)) : ∃ c, l = c :: r ∧ f c = some x := by
  cases l with
  | nil => cases h
  | cons c l =>
    simp only [headA] at h
    split at h
    · rename_i a ha
      simp only [Option.some.injEq, Prod.mk.injEq] at h
      obtain ⟨rfl, rfl⟩ := h
      exact ⟨c, rfl, ha⟩
    · cases h

theorem ofAs_inv (t : VT) : ∀ (l r : List AV) (x : t.den), t.ofAs l = some (x, r) → l = t.cells x ++ r := by
  induction t with
  | pair a b ha hb =>
    intro l r x h
    simp only [VT.ofAs] at h
    split at h
    · rename_i x1 r1 h1
      split at h
      · rename_i y r2 h2
        simp only [Option.some.injEq, Prod.mk.injEq] at h
        obtain ⟨rfl, rfl⟩ := h
        rw [ha _ _ _ h1, hb _ _ _ h2]
        simp [VT.cells]
      · cases h
    · cases h
  | unit =>
    intro l r x h
    simp only [VT.ofAs, Option.some.injEq, Prod.mk.injEq] at h
    obtain ⟨rfl, rfl⟩ := h; rfl
  | slc e t ih =>
    intro l r x h
    obtain ⟨c, rfl, hc⟩ := headA_inv h
    have one : ∀ y d, oneA t.isAgg t.ofAs y = some d → y = t.emb d := by
      intro y d hy
      unfold VT.emb embOf
      unfold oneA at hy
      split at hy
      · rename_i cs hag
        split at hy
        · rename_i a ha
          simp only [Option.some.injEq] at hy; subst hy
          have := ih _ _ _ ha
          rw [List.append_nil] at this
          rw [this, hag]
        · cases hy
      · cases hy
      · rename_i hag
        split at hy
        · rename_i a ha
          simp only [Option.some.injEq] at hy; subst hy
          have := ih _ _ _ ha
          rw [List.append_nil] at this
          rw [hag, ← this]; rfl
        · cases hy
    have all : ∀ (xs : List AV) (l : List t.den), mapA (oneA t.isAgg t.ofAs) xs = some l → xs = l.map t.emb := by
      intro xs
      induction xs with
      | nil => intro l h; simp only [mapA, Option.some.injEq] at h; subst h; rfl
      | cons y xs ihx =>
        intro l h
        simp only [mapA] at h
        split at h
        · rename_i d ds h1 h2
          simp only [Option.some.injEq] at h; subst h
          rw [one _ _ h1, ihx _ h2]; rfl
        · cases h
    split at hc
    · cases hc; rfl
    · cases hc; rfl
    · split at hc
      · rename_i he
        subst he
        obtain ⟨l', hl, rfl⟩ := Option.map_eq_some_iff.1 hc
        rw [all _ _ hl]; rfl
      · cases hc
    · cases hc
  | _ =>
    intro l r x h
    obtain ⟨c, rfl, hc⟩ := headA_inv h
    split at hc
    · first
      | (split at hc
         · rename_i hk; subst hk; cases hc; rfl
         · cases hc)
      | (cases hc; rfl)
    · cases hc
theorem ofA_inv {t : VT} {x : AV} {d : t.den} (h : t.ofA x = some d) : x = t.emb d := by
  unfold VT.ofA oneA at h
  unfold VT.emb embOf
  split at h
  · rename_i cs hag
    split at h
    · rename_i a ha
      simp only [Option.some.injEq] at h; subst h
      have := ofAs_inv _ _ _ _ ha
      rw [List.append_nil] at this
      rw [this, hag]
    · cases h
  · cases h
  · rename_i hag
    split at h
    · rename_i a ha
      simp only [Option.some.injEq] at h; subst h
      have := ofAs_inv _ _ _ _ ha
      rw [List.append_nil] at this
      rw [hag, ← this]; rfl
    · cases h
theorem mapA_inv {t : VT} : ∀ {xs : List AV} {l : List t.den}, mapA t.ofA xs = some l → xs = l.map t.emb
  | [], l, h => by simp only [mapA, Option.some.injEq] at h; subst h; rfl
  | y :: xs, l, h => by
    simp only [mapA] at h
    split at h
    · rename_i d ds h1 h2
      simp only [Option.some.injEq] at h; subst h
      rw [ofA_inv h1, mapA_inv h2]; rfl
    · cases h

section
variable {P : Program} {w : World} {g : Gh}

/-- An argument stands for what it is told to be. -/
theorem decA_rep {a : AT} {x : AV} {d : a.den} {v : Value} {S : List Store} (hc : ∀ e t, a = .l e t → 0 < P.cellsOf e) (h : a.decA x = some d) (hv : HRep P w g S x v) : HRep P w g S ((a.t1 d).emb []) v := by
  cases a with
  | v t =>
    have := ofA_inv h
    show HRep P w g S ((t.t1 d).emb []) v
    have h2 : (t.t1 d).emb [] = x := (t1_emb t d []).trans this.symm
    rw [h2]; exact hv
  | l e t =>
    have hc := hc e t rfl
    simp only [AT.decA] at h
    split at h
    · cases h
      have hv : Rep P w g.M .nils v := hv
      show Rep P w g.M (.sl e []) v
      cases hv
      exact .sl (us := []) rfl rfl (Nat.le_refl _) (by unfold maxLen; omega) hc (fun i x u h => by simp at h) (fun u h => by simp at h) (fun h => absurd rfl h)
    · cases h
      have hv : Rep P w g.M .cap0 v := hv
      show Rep P w g.M (.sl e []) v
      cases hv
      exact .sl (us := []) rfl rfl (Nat.le_refl _) (by unfold maxLen; omega) hc (fun i x u h => by simp at h) (fun u h => by simp at h) (fun h => absurd rfl h)
    · split at h
      · rename_i he
        subst he
        have := mapA_inv h
        show HRep P w g S (.sl _ (List.map t.emb d)) v
        rw [← this]; exact hv
      · cases h
    · cases h

theorem decsA_rep {S : List Store} : ∀ {l : List AT} {as : List AV} {d : dens l}, (∀ e t, AT.l e t ∈ l → 0 < P.cellsOf e) → decsA l as = some d → ((t1s l d).map (T1.emb [])).length = as.length ∧ ∀ (i : Nat) (x y : AV) (v : Value), as[i]? = some x → ((t1s l d).map (T1.emb []))[i]? = some y → HRep P w g S x v → HRep P w g S y v
  | [], [], d, _, h => ⟨rfl, fun i x y v hx => by simp at hx⟩
  | a :: r, z :: zs, d, hc, h => by
    simp only [decsA] at h
    split at h
    · rename_i d1 ds h1 h2
      cases h
      obtain ⟨q1, q2⟩ := decsA_rep (fun e t hm => hc e t (List.mem_cons_of_mem _ hm)) h2
      refine ⟨by simpa [t1s] using q1, fun i x y v hx hy hv => ?_⟩
      cases i with
      | zero =>
        simp only [List.getElem?_cons_zero, Option.some.injEq] at hx
        subst hx
        simp only [t1s, List.map_cons, List.getElem?_cons_zero, Option.some.injEq] at hy
        subst hy
        exact decA_rep (fun e t he => hc e t (by rw [he]; exact List.mem_cons_self)) h1 hv
      | succ i =>
        simp only [t1s, List.map_cons, List.getElem?_cons_succ] at hx hy
        exact q2 i x y v hx hy hv
    · cases h
end

theorem t1_noH (t : VT) (x : t.den) : (t.t1 x).noH = true := by
  unfold VT.t1
  cases h : t.isAgg with
  | true => exact List.all_eq_true.2 fun c hc => tc_val t x c hc
  | false =>
    show TC.isVal _ = true
    cases hl : t.tc x with
    | nil =>
      have := cells_length t x
      obtain ⟨c, hc, _⟩ := cells_one h x
      rw [hc, hl] at this; simp at this
    | cons a r => exact tc_val t x a (by rw [hl]; exact List.mem_cons_self)
theorem t1s_noH : ∀ (l : List AT) (d : dens l) (a : T1), a ∈ t1s l d → a.noH = true
  | [], d, a, h => by cases h
  | x :: r, d, a, h => by
    rcases List.mem_cons.1 h with rfl | h
    · cases x with
      | v t => exact t1_noH t _
      | l e t => rfl
    · exact t1s_noH r _ a h

/-- **A contract**: what a function answers, where that may be asked. -/
structure TCtr where
  f : FuncId
  sig : List AT
  pre : dens sig → Prop
  out : dens sig → TV
  /-- by cases, where the answer's form hangs on the argument -/
  outK : dens sig → (TV → Prop) → Prop
  outK_ok : ∀ d K, outK d K → K (out d)
  outOk : ∀ d, (out d).outOk = true

def TCtr.det (f : FuncId) (sig : List AT) (pre : dens sig → Prop) (out : dens sig → TV) (h : ∀ d, (out d).outOk = true) : TCtr :=
  { f, sig, pre, out, outK := fun d K => K (out d), outK_ok := fun _ _ h => h, outOk := h }

def findC : List TCtr → FuncId → Option TCtr
  | [], _ => none
  | c :: r, f => if c.f = f then some c else findC r f
theorem findC_mem {L : List TCtr} {f : FuncId} {c : TCtr} (h : findC L f = some c) : c ∈ L ∧ c.f = f := by
  induction L with
  | nil => cases h
  | cons a r ih =>
    simp only [findC] at h
    split at h
    · rename_i he
      simp only [Option.some.injEq] at h; subst h
      exact ⟨List.mem_cons_self, he⟩
    · exact ⟨List.mem_cons_of_mem _ (ih h).1, (ih h).2⟩

def soloK (o : Oper) : Bool :=
  match o.op with
  | .store .. | .alloc .. | .box .. | .buildSlice .. | .makeSlice .. => true
  | .call c => match c.callee with
    | .builtin .append | .builtin .copy | .builtin .clear => true
    | _ => false
  | _ => false

open Classical in
noncomputable def envL (L : List TCtr) : Env where
  Φ := fun _ => none
  Γ := fun f as => match findC L f with
    | some c => match decsA c.sig as with
      | some d => if c.pre d then some ((c.out d).emb []) else none
      | none => none
    | none => none
  lend := fun _ _ => false
  solo := soloK
  ok := fun ops => drawM soloK ops

def knownL (L : List TCtr) (blk lab : Nat → Option Piece) : Known where
  solo := soloK
  ok := fun ops => drawM soloK ops
  G := fun f as K => match findC L f with
    | some c => match decs c.sig as with
      | some d => c.pre d ∧ c.outK d K
      | none => False
    | none => False
  blk := blk
  lab := lab

/-- A contract that holds. -/
structure GoodC (P : Program) (c : TCtr) : Prop where
  there : ∃ fn cd, P.funcs[c.f]? = some fn ∧ fn.body = some cd ∧ (fn.name == "runtime.NumGoroutine") = false
  cells : ∀ e t, AT.l e t ∈ c.sig → 0 < P.cellsOf e
  call : ∀ d, c.pre d → ∀ S, CallC P c.f ((t1s c.sig d).map (T1.emb [])) S S ((c.out d).emb [])
def Goods (P : Program) (L : List TCtr) : Prop := ∀ c, c ∈ L → GoodC P c
theorem Goods.nil {P : Program} : Goods P [] := fun c h => by cases h
theorem Goods.cons {P : Program} {c : TCtr} {L : List TCtr} (h : GoodC P c) (k : Goods P L) : Goods P (c :: L) := fun x hx => by
  rcases List.mem_cons.1 hx with rfl | hx
  · exact h
  · exact k x hx

theorem CallC.args {P : Program} {f : FuncId} {as bs : List AV} {S : List Store} {r : AV} (h : CallC P f bs S S r) (hl : bs.length = as.length)
    (hr : ∀ (w : World) (g : Gh) (S : List Store) (i : Nat) (x y : AV) (v : Value), as[i]? = some x → bs[i]? = some y → HRep P w g S x v → HRep P w g S y v) : CallC P f as S S r := by
  intro may w g vs hi hm hlen hargs
  refine h may w g vs hi hm (by omega) fun i y v hy hv => ?_
  have hlt : i < as.length := by
    have := (List.getElem?_eq_some_iff.1 hy).1; omega
  exact hr w g.push ([] :: S) i as[i] y v (List.getElem?_eq_getElem hlt) hy (hargs i as[i] v (List.getElem?_eq_getElem hlt) hv)

theorem knownL_ok {P : Program} {L : List TCtr} (hw : P.follows .mixedOrders = true) (hL : Goods P L) (blk lab : Nat → Option Piece) : KnownOk P (envL L) (knownL L blk lab) where
  env := {
    fn := fun f fn h => by cases h
    ga := fun f as r h => by
      simp only [envL] at h
      split at h
      · rename_i c hc
        split at h
        · rename_i d hd
          split at h
          · rename_i hp
            simp only [Option.some.injEq] at h; subst h
            obtain ⟨hm, rfl⟩ := findC_mem hc
            have hg := hL c hm
            refine ⟨hg.there, fun S => ?_⟩
            exact (hg.call d hp S).args (decsA_rep (P := P) (w := default) (g := ⟨fun _ _ => False, fun _ _ => 0, fun _ _ => 0⟩) (S := []) hg.cells hd).1 fun w g S' i x y v hx hy hv => (decsA_rep (P := P) (w := w) (g := g) (S := S') hg.cells hd).2 i x y v hx hy hv
          · cases h
        · cases h
      · cases h
    wide := hw
    draw := fun ops h rec s s1 t hr => draw_okM (E := envL L) h rec s s1 t hr }
  lend := fun _ _ => rfl
  ctr := fun f args K h hn => by
    simp only [knownL] at h
    split at h
    · rename_i c hc
      split at h
      · rename_i d hd
        refine ⟨c.out d, ?_, c.outOk d, c.outK_ok d K h.2⟩
        simp only [envL, hc, decs_decsA hd, if_pos h.1]
      · exact h.elim
    · exact h.elim
  solo := rfl
  draw := fun ops h => h

/-- **The way to a good contract**: the body's run, with what is known of its loops and callees. -/
theorem good_of {P : Program} {L : List TCtr} {blk lab : Nat → Option Piece} (hw : P.follows .mixedOrders = true) (hL : Goods P L) {c : TCtr} {fn : Func} {cd : Code} (hf : P.funcs[c.f]? = some fn) (hb : fn.body = some cd) (hname : (fn.name == "runtime.NumGoroutine") = false)
    (hc : ∀ e t, AT.l e t ∈ c.sig → 0 < P.cellsOf e) (hLam : LamOk P (knownL L blk lab) cd) (run : ∀ d, c.pre d → wpFn P (knownL L blk lab) fn (t1s c.sig d) (fun x => x = c.out d)) : GoodC P c where
  there := ⟨fn, cd, hf, hb, hname⟩
  cells := hc
  call := fun d hp S => fn_call (knownL_ok hw hL blk lab) hf hb hLam (fun a ha => t1s_noH c.sig d a ha) (run d hp) S
end Go.AbsM

/-! ## AbtW -/
/-
  The typed machine: its words reckoned.
-/
set_option linter.unusedVariables false
set_option linter.unusedSimpArgs false
namespace Go.AbsM

section
variable {a b : Int} {m n : Nat} {A B : Prop}
theorem grd_ile (h : a ≤ b) (k : A) : grd (W.ile a b) A := grd_iff.2 ⟨decide_eq_true h, k⟩
theorem grd_ilt (h : a < b) (k : A) : grd (W.ilt a b) A := grd_iff.2 ⟨decide_eq_true h, k⟩
theorem grd_nlt (h : m < n) (k : A) : grd (W.nlt m n) A := grd_iff.2 ⟨decide_eq_true h, k⟩
theorem grd_nle (h : m ≤ n) (k : A) : grd (W.nle m n) A := grd_iff.2 ⟨decide_eq_true h, k⟩
theorem grd_neq (h : m = n) (k : A) : grd (W.neq m n) A := grd_iff.2 ⟨decide_eq_true h, k⟩
theorem grd_true {t : Bool} (h : t = true) (k : A) : grd t A := grd_iff.2 ⟨h, k⟩
theorem brc_of {t : Bool} (h : t = true → A) (k : t = false → B) : brc t A B := brc_iff.2 ⟨h, k⟩
theorem brc_yes {t : Bool} (h : t = true) (k : A) : brc t A B := brc_iff.2 ⟨fun _ => k, fun e => (by rw [h] at e; cases e)⟩
theorem brc_no {t : Bool} (h : t = false) (k : B) : brc t A B := brc_iff.2 ⟨fun e => (by rw [h] at e; cases e), fun _ => k⟩
theorem brc_ilt (h : a < b → A) (k : b ≤ a → B) : brc (W.ilt a b) A B := brc_of (fun t => h (of_decide_eq_true t)) (fun t => k (by have := of_decide_eq_false t; omega))
theorem brc_ile (h : a ≤ b → A) (k : b < a → B) : brc (W.ile a b) A B := brc_of (fun t => h (of_decide_eq_true t)) (fun t => k (by have := of_decide_eq_false t; omega))
theorem brc_igt (h : b < a → A) (k : a ≤ b → B) : brc (W.igt a b) A B := brc_of (fun t => h (of_decide_eq_true t)) (fun t => k (by have := of_decide_eq_false t; omega))
theorem brc_ige (h : b ≤ a → A) (k : a < b → B) : brc (W.ige a b) A B := brc_of (fun t => h (of_decide_eq_true t)) (fun t => k (by have := of_decide_eq_false t; omega))
theorem brc_ieq (h : a = b → A) (k : a ≠ b → B) : brc (W.ieq a b) A B := brc_of (fun t => h (by simpa [W.ieq] using t)) (fun t => k (by simpa [W.ieq] using t))
theorem brc_ine (h : a ≠ b → A) (k : a = b → B) : brc (W.ine a b) A B := brc_of (fun t => h (by simpa [W.ine] using t)) (fun t => k (by simpa [W.ine] using t))
theorem brc_none {α : Type} {l : List α} (h : l = [] → A) (k : l ≠ [] → B) : brc (W.none l) A B := brc_of (fun t => h (by simpa [W.none] using t)) (fun t => k (by intro e; subst e; simp [W.none] at t))
theorem brc_bnot {t : Bool} (h : t = false → A) (k : t = true → B) : brc (W.bnot t) A B := by
  cases t
  · exact brc_yes rfl (h rfl)
  · exact brc_no rfl (k rfl)
end

/-! ### Kinds -/
theorem wrap_u8 (n : Int) : IntKind.u8.wrap n = n % 256 := by simp [IntKind.wrap, IntKind.bits, IntKind.signed]
theorem wrap_u16 (n : Int) : IntKind.u16.wrap n = n % 65536 := by simp [IntKind.wrap, IntKind.bits, IntKind.signed]
theorem wrap_u32 (n : Int) : IntKind.u32.wrap n = n % 4294967296 := by simp [IntKind.wrap, IntKind.bits, IntKind.signed]
theorem wrap_u64 (n : Int) : IntKind.u64.wrap n = n % 18446744073709551616 := by simp [IntKind.wrap, IntKind.bits, IntKind.signed]
theorem wrap_i64 (n : Int) : IntKind.i64.wrap n = (n + 9223372036854775808) % 18446744073709551616 - 9223372036854775808 := by
  simp [IntKind.wrap, IntKind.bits, IntKind.signed]
  split <;> omega

namespace W
variable {a b : Int}
theorem wu8 : W.wrap .u8 a = a % 256 := wrap_u8 a
theorem wu16 : W.wrap .u16 a = a % 65536 := wrap_u16 a
theorem wu32 : W.wrap .u32 a = a % 4294967296 := wrap_u32 a
theorem wu64 : W.wrap .u64 a = a % 18446744073709551616 := wrap_u64 a
theorem wi64 : W.wrap .i64 a = (a + 9223372036854775808) % 18446744073709551616 - 9223372036854775808 := wrap_i64 a
theorem wu8_in (h : 0 ≤ a) (k : a < 256) : W.wrap .u8 a = a := by rw [wu8]; omega
theorem wu32_in (h : 0 ≤ a) (k : a < 4294967296) : W.wrap .u32 a = a := by rw [wu32]; omega
theorem wu64_in (h : 0 ≤ a) (k : a < 18446744073709551616) : W.wrap .u64 a = a := by rw [wu64]; omega
theorem wi64_in (h : -9223372036854775808 ≤ a) (k : a < 9223372036854775808) : W.wrap .i64 a = a := by rw [wi64]; omega
theorem add_i64 (h : -9223372036854775808 ≤ a + b) (k : a + b < 9223372036854775808) : W.add .i64 a b = a + b := by
  show IntKind.i64.wrap (a + b) = _; rw [wrap_i64]; omega
theorem sub_i64 (h : -9223372036854775808 ≤ a - b) (k : a - b < 9223372036854775808) : W.sub .i64 a b = a - b := by
  show IntKind.i64.wrap (a - b) = _; rw [wrap_i64]; omega
theorem mul_i64 (h : -9223372036854775808 ≤ a * b) (k : a * b < 9223372036854775808) : W.mul .i64 a b = a * b := by
  show IntKind.i64.wrap (a * b) = _; rw [wrap_i64]; omega
theorem quo_i64 (h : 0 ≤ a) (k : 0 < b) (m : a < 9223372036854775808) : W.quo .i64 a b = a / b := by
  show IntKind.i64.wrap (a.tdiv b) = _
  rw [Int.tdiv_eq_ediv_of_nonneg h, wrap_i64]
  have h1 : 0 ≤ a / b := Int.ediv_nonneg h (by omega)
  have h2 : a / b ≤ a := Int.ediv_le_self b h
  omega
theorem rem_pos (h : 0 ≤ a) : W.rem a b = a % b := Int.tmod_eq_emod_of_nonneg h
theorem bit_toNat {n : Nat} (h : 0 ≤ a) (k : a < 2 ^ n) : (BitVec.ofInt n a).toNat = a.toNat := by
  rw [BitVec.toNat_ofInt]
  rw [Int.emod_eq_of_lt h (by exact_mod_cast k)]
theorem toNat_lt2 {n : Nat} (h : 0 ≤ a) (k : a < 2 ^ n) : a.toNat < 2 ^ n := by
  have h1 : (a.toNat : Int) = a := Int.toNat_of_nonneg h
  have h2 : (a.toNat : Int) < ((2 ^ n : Nat) : Int) := by rw [h1]; push_cast; exact k
  exact_mod_cast h2
theorem or_pos {k : IntKind} (hk : k.signed = false) (h1 : 0 ≤ a) (h2 : a < 2 ^ k.bits) (h3 : 0 ≤ b) (h4 : b < 2 ^ k.bits) : W.or k a b = ((a.toNat ||| b.toNat : Nat) : Int) := by
  unfold W.or
  rw [BitVec.toNat_or, bit_toNat h1 h2, bit_toNat h3 h4]
  have hlt : a.toNat ||| b.toNat < 2 ^ k.bits := Nat.or_lt_two_pow (toNat_lt2 h1 h2) (toNat_lt2 h3 h4)
  simp only [IntKind.wrap, hk]
  rw [Int.emod_eq_of_lt (by omega) (by exact_mod_cast hlt)]
  simp
theorem and_pos {k : IntKind} (hk : k.signed = false) (h1 : 0 ≤ a) (h2 : a < 2 ^ k.bits) (h3 : 0 ≤ b) (h4 : b < 2 ^ k.bits) : W.and k a b = ((a.toNat &&& b.toNat : Nat) : Int) := by
  unfold W.and
  rw [BitVec.toNat_and, bit_toNat h1 h2, bit_toNat h3 h4]
  have hlt : a.toNat &&& b.toNat < 2 ^ k.bits := Nat.lt_of_le_of_lt Nat.and_le_left (toNat_lt2 h1 h2)
  simp only [IntKind.wrap, hk]
  rw [Int.emod_eq_of_lt (by omega) (by exact_mod_cast hlt)]
  simp
theorem xor_pos {k : IntKind} (hk : k.signed = false) (h1 : 0 ≤ a) (h2 : a < 2 ^ k.bits) (h3 : 0 ≤ b) (h4 : b < 2 ^ k.bits) : W.xor k a b = ((a.toNat ^^^ b.toNat : Nat) : Int) := by
  unfold W.xor
  rw [BitVec.toNat_xor, bit_toNat h1 h2, bit_toNat h3 h4]
  have hlt : a.toNat ^^^ b.toNat < 2 ^ k.bits := Nat.xor_lt_two_pow (toNat_lt2 h1 h2) (toNat_lt2 h3 h4)
  simp only [IntKind.wrap, hk]
  rw [Int.emod_eq_of_lt (by omega) (by exact_mod_cast hlt)]
  simp
theorem shr_lit {k : IntKind} (n : Nat) (hn : n ≤ k.bits) : W.shr k a n = a / 2 ^ n := by
  unfold W.shr
  have : min ((n : Int).toNat) k.bits = n := by simp; omega
  rw [this, Int.fdiv_eq_ediv_of_nonneg _ (by exact Int.le_of_lt (Int.pow_pos (by decide)))]
/-- A copy into as much room. -/
theorem copied {α : Type} (l : List α) (x : α) : W.app (W.take (W.nmin (W.len l) (W.len (W.rep (W.toNat (W.ofNat (W.len l))) x))) l) (W.drop (W.nmin (W.len l) (W.len (W.rep (W.toNat (W.ofNat (W.len l))) x))) (W.rep (W.toNat (W.ofNat (W.len l))) x)) = l := by
  simp [W.app, W.take, W.nmin, W.len, W.rep, W.toNat, W.ofNat, W.drop]
end W
end Go.AbsM

/-! ## AbtGood -/
/-
  The typed machine: good contracts, the usual ways.
-/
set_option linter.unusedVariables false
set_option linter.unusedSimpArgs false
namespace Go.AbsM

def bodyOf (f : Func) : Code := match f.body with
  | some c => c
  | none => .skip
def hasBody (f : Func) : Bool := f.body.isSome
theorem body_some {f : Func} (h : hasBody f = true) : f.body = some (bodyOf f) := by
  unfold hasBody at h; unfold bodyOf
  cases hb : f.body with
  | none => rw [hb] at h; cases h
  | some c => rfl

def one (k : Nat) (p : Piece) (l : Nat) : Option Piece := match l.beq k with
  | true => some p
  | false => none
theorem one_some {k l : Nat} {p ψ : Piece} (h : one k p l = some ψ) : l = k ∧ ψ = p := by
  unfold one at h
  split at h
  · rename_i hb
    cases h; exact ⟨Nat.eq_of_beq_eq_true hb, rfl⟩
  · cases h
def noneK (_ : Nat) : Option Piece := none

/-- Nothing is asked of loops or places in it. -/
def freeB (blk : Nat → Option Piece) (c : Code) : Bool := (blocksOf c).all (fun p => (blk p.1).isNone) && (scopesOf c).isEmpty
def loopOf : Code → Code
  | .loop c => c
  | _ => .skip
def isLoop : Code → Bool
  | .loop _ => true
  | _ => false
theorem isLoop_eq {c : Code} (h : isLoop c = true) : c = .loop (loopOf c) := by
  cases c <;> first | rfl | cases h

section
variable {P : Program} {E : Env}
theorem lamOk_free {Λ : Known} {c : Code} (h : freeB Λ.blk c = true) : LamOk P Λ c := by
  simp only [freeB, Bool.and_eq_true, List.all_eq_true, List.isEmpty_iff] at h
  refine lamOk_of (fun id c' hm ψ hψ => ?_) fun c' hm => ?_
  · have := h.1 _ hm
    rw [hψ] at this; cases this
  · rw [h.2] at hm; cases hm

def sigB (P : Program) (sig : List AT) : Bool := sig.all fun a => match a with
  | .l e _ => decide (0 < P.cellsOf e)
  | _ => true
theorem sigB_ok {sig : List AT} (h : sigB P sig = true) (e : TypeId) (t : VT) (hm : AT.l e t ∈ sig) : 0 < P.cellsOf e := by
  have := List.all_eq_true.1 h _ hm
  exact of_decide_eq_true this

/-- The checks that each contract asks. -/
structure Fits (P : Program) (f : FuncId) (sig : List AT) (fn : Func) : Prop where
  there : P.funcs[f]? = some fn
  body : hasBody fn = true
  name : (fn.name == "runtime.NumGoroutine") = false
  sig : sigB P sig = true

theorem good_by {L : List TCtr} {blk lab : Nat → Option Piece} {c : TCtr} {fn : Func} (hw : P.follows .mixedOrders = true) (hL : Goods P L) (hf : Fits P c.f c.sig fn) (hLam : LamOk P (knownL L blk lab) (bodyOf fn))
    (run : ∀ d, c.pre d → wpFn P (knownL L blk lab) fn (t1s c.sig d) (fun x => x = c.out d)) : GoodC P c :=
  good_of hw hL hf.there (body_some hf.body) hf.name (sigB_ok hf.sig) hLam run

/-- Straight code. -/
theorem good_plain {L : List TCtr} {c : TCtr} {fn : Func} (hw : P.follows .mixedOrders = true) (hL : Goods P L) (hf : Fits P c.f c.sig fn) (h0 : freeB noneK (bodyOf fn) = true)
    (run : ∀ d, c.pre d → wpFn P (knownL L noneK noneK) fn (t1s c.sig d) (fun x => x = c.out d)) : GoodC P c :=
  good_by hw hL hf (lamOk_free h0) run

def restC (c : Code) (l : Nat) : Code := (findLabel (scC c) l).getD .skip

/-- One place that is jumped to. -/
theorem lam_jump {L : List TCtr} {ι : Type} {n : Nat} {ls ks : List Nat} {mk : ι → TSt} {ψ : ι → Post → Prop} {c : Code} {l : Nat} (lx kx : List Nat) (μ : ι → Nat) (hw : P.follows .mixedOrders = true) (hL : Goods P L)
    (h1 : decide ((scopesOf c).length ≤ 1) = true) (h2 : (blocksOf c).isEmpty = true) (h3 : findLabel (scC c) l = some (restC c l)) (h4 : freeB noneK (restC c l) = true)
    (step : ∀ i Φ, ψ i Φ → wpT P (knownL L noneK (one l (loopP n ls ks mk ψ))) (restC c l) (mk i) (jumpK (knownL L noneK (one l (loopP n ls ks mk ψ))) n ls ks lx kx (scC c) l mk μ ψ (μ i) Φ)) : LamOk P (knownL L noneK (one l (loopP n ls ks mk ψ))) c := by
  refine lamOk_body (by rw [List.isEmpty_iff.1 h2]; rfl) h1 (fun id ψ h => by cases h) fun l' rest ψ' hf hl => ?_
  obtain ⟨rfl, rfl⟩ := one_some hl
  rw [h3] at hf
  simp only [Option.some.injEq] at hf; subst hf
  refine run_jump (lx := lx) (kx := kx) (knownL_ok hw hL _ _) μ (lamOk_free h4) h3 (fun l'' rest' ψ'' hne hf' hl' => ?_) step
  obtain ⟨rfl, _⟩ := one_some hl'
  exact absurd rfl hne

theorem good_jump {L : List TCtr} {c : TCtr} {fn : Func} {ι : Type} {n : Nat} {ls ks : List Nat} {mk : ι → TSt} {ψ : ι → Post → Prop} {l : Nat} (lx kx : List Nat) (μ : ι → Nat) (hw : P.follows .mixedOrders = true) (hL : Goods P L) (hf : Fits P c.f c.sig fn)
    (h1 : decide ((scopesOf (bodyOf fn)).length ≤ 1) = true) (h2 : (blocksOf (bodyOf fn)).isEmpty = true) (h3 : findLabel (scC (bodyOf fn)) l = some (restC (bodyOf fn) l)) (h4 : freeB noneK (restC (bodyOf fn) l) = true)
    (step : ∀ i Φ, ψ i Φ → wpT P (knownL L noneK (one l (loopP n ls ks mk ψ))) (restC (bodyOf fn) l) (mk i) (jumpK (knownL L noneK (one l (loopP n ls ks mk ψ))) n ls ks lx kx (scC (bodyOf fn)) l mk μ ψ (μ i) Φ))
    (run : ∀ d, c.pre d → wpFn P (knownL L noneK (one l (loopP n ls ks mk ψ))) fn (t1s c.sig d) (fun x => x = c.out d)) : GoodC P c :=
  good_by hw hL hf (lam_jump lx kx μ hw hL h1 h2 h3 h4 step) run

/-- One loop (inner blocks are no loops). -/
theorem good_loop {L : List TCtr} {c : TCtr} {fn : Func} {ι : Type} {n : Nat} {ls ks : List Nat} {mk : ι → TSt} {ψ : ι → Post → Prop} {id : Nat} (lx kx : List Nat) (μ : ι → Nat) (hw : P.follows .mixedOrders = true) (hL : Goods P L) (hf : Fits P c.f c.sig fn)
    (h1 : (scopesOf (bodyOf fn)).isEmpty = true) (h2 : nodupB ((blocksOf (bodyOf fn)).map (·.1)) = true) (h3 : isLoop (blkC (bodyOf fn) id) = true) (h4 : freeB (one id (loopP n ls ks mk ψ)) (loopOf (blkC (bodyOf fn) id)) = true)
    (step : ∀ i Φ, ψ i Φ → wpT P (knownL L (one id (loopP n ls ks mk ψ)) noneK) (loopOf (blkC (bodyOf fn) id)) (mk i) (stepK n ls ks lx kx id mk μ ψ (μ i) Φ))
    (run : ∀ d, c.pre d → wpFn P (knownL L (one id (loopP n ls ks mk ψ)) noneK) fn (t1s c.sig d) (fun x => x = c.out d)) : GoodC P c := by
  refine good_by (lab := noneK) hw hL hf (lamOk_body h2 (by rw [List.isEmpty_iff.1 h1]; rfl) (fun id' ψ' h s Φ hs => ?_) (fun l rest ψ' _ hl => by cases hl)) run
  obtain ⟨rfl, rfl⟩ := one_some h
  rw [isLoop_eq h3]
  exact run_loop (knownL_ok hw hL _ _) μ (lamOk_free h4) step s Φ hs
end
end Go.AbsM
namespace Go.AbsM
section
variable {P : Program} {E : Env}
/-- The loop with this id, in a body. -/
theorem run_loopB {ι : Type} {Λ : Known} (hΛ : KnownOk P E Λ) {n : Nat} {ls ks lx kx : List Nat} {id : Nat} {mk : ι → TSt} {ψ : ι → Post → Prop} {c : Code} (μ : ι → Nat) (h3 : isLoop (blkC c id) = true) (hL : LamOk P Λ (loopOf (blkC c id)))
    (step : ∀ i Φ, ψ i Φ → wpT P Λ (loopOf (blkC c id)) (mk i) (stepK n ls ks lx kx id mk μ ψ (μ i) Φ)) (s : TSt) (Φ : Post) (h : loopP n ls ks mk ψ s Φ) : Run P (.code (.block id (blkC c id))) s Φ := by
  rw [isLoop_eq h3]
  exact run_loop hΛ μ hL step s Φ h
end
end Go.AbsM

/-! ## AbtLaw -/
/-
  The typed machine: closed functions by the abstract machine; laws.
-/
set_option linter.unusedVariables false
set_option linter.unusedSimpArgs false
namespace Go.AbsM
open Go.RowKit

def phi (P : Program) (f : FuncId) : Option Func :=
  match P.funcs[f]? with
  | some fn => if fn.name == "runtime.NumGoroutine" then none else some fn
  | none => none
def envN (P : Program) (lend : FuncId → Nat → Bool) : Env := { Φ := phi P, Γ := fun _ _ => none, lend := lend, solo := soloK, ok := fun ops => drawM soloK ops }
theorem envN_ok (P : Program) (lend : FuncId → Nat → Bool) (hw : P.follows .mixedOrders = true) : EnvOk P (envN P lend) where
  fn := fun f fn h => by
    have h : phi P f = some fn := h
    unfold phi at h
    split at h
    · rename_i g hg
      split at h
      · cases h
      · rename_i hn
        simp only [Option.some.injEq] at h; subst h
        exact ⟨hg, by simpa using hn⟩
    · cases h
  ga := fun f args r h => by cases h
  wide := hw
  draw := fun ops h rec s s1 t hr => draw_okM (E := envN P lend) h rec s s1 t hr

/-- A law: it answers true. -/
def lawC (f : FuncId) (sig : List AT) (pre : dens sig → Prop) : TCtr := .det f sig pre (fun _ => TV.bool true) fun _ => rfl
/-- A closed function that answers true. -/
def trueC (f : FuncId) : TCtr := lawC f [] fun _ => True

section
variable {P : Program}
theorem good_closed {f : FuncId} {fn : Func} {lend : FuncId → Nat → Bool} {n : Nat} (hw : P.follows .mixedOrders = true) (hf : Fits P f [] fn) (h : ∀ S, callA P (envN P lend) (Go.AbsM.runN P (envN P lend) n) f [] S = some (S, .x (.bool true))) : GoodC P (trueC f) where
  there := ⟨fn, bodyOf fn, hf.there, body_some hf.body, hf.name⟩
  cells := fun e t hm => by cases hm
  call := fun d _ S => (callA_sound (envN_ok P lend hw) (runN_ok (envN_ok P lend hw) n) (h S)).2

theorem GoodC.law {f : FuncId} {sig : List AT} {pre : dens sig → Prop} (h : GoodC P (lawC f sig pre)) {d : dens sig} (hp : pre d) {w : World} {vs : List Value} (hl : vs.length = (t1s sig d).length)
    (hargs : ∀ (i : Nat) (x : AV) (v : Value), ((t1s sig d).map (T1.emb []))[i]? = some x → vs[i]? = some v → Arg P w x v) : Calls P f vs.toArray w fun e w' => e = .returned (.bool true) ∧ Below w.heap.size w w' :=
  law_calls (h.call d hp []) (by rw [List.length_map]; exact hl) hargs

/-- Integers that came in. -/
def inKind (k : IntKind) (n : Int) : Prop := k.min ≤ n ∧ n ≤ k.max
theorem inKind_of {k : IntKind} {n : Int} (h : (Lit.int k n).wf = true) : inKind k n := by
  simpa [Lit.wf, inKind] using h

/-- Each argument stands for its value. -/
def ArgsOk (P : Program) (w : World) : List AV → List Value → Prop
  | [], [] => True
  | x :: xs, v :: vs => Arg P w x v ∧ ArgsOk P w xs vs
  | _, _ => False
theorem ArgsOk.get {w : World} : ∀ {xs : List AV} {vs : List Value}, ArgsOk P w xs vs → vs.length = xs.length ∧ ∀ (i : Nat) (x : AV) (v : Value), xs[i]? = some x → vs[i]? = some v → Arg P w x v
  | [], [], _ => ⟨rfl, fun i x v h => by simp at h⟩
  | x :: xs, v :: vs, h => by
    obtain ⟨q1, q2⟩ := ArgsOk.get h.2
    refine ⟨by simp [q1], fun i y u hy hu => ?_⟩
    cases i with
    | zero => simp at hy hu; subst hy; subst hu; exact h.1
    | succ i => simp at hy hu; exact q2 i y u hy hu
  | [], _ :: _, h => h.elim
  | _ :: _, [], h => h.elim

theorem GoodC.law2 {f : FuncId} {sig : List AT} {pre : dens sig → Prop} (h : GoodC P (lawC f sig pre)) (d : dens sig) (hp : pre d) {w : World} (vs : List Value) (hargs : ArgsOk P w ((t1s sig d).map (T1.emb [])) vs) :
    Calls P f vs.toArray w fun e w' => e = .returned (.bool true) ∧ Below w.heap.size w w' := by
  obtain ⟨q1, q2⟩ := hargs.get
  exact h.law hp (by rw [q1, List.length_map]) q2

/-- A slice of integers that came in. -/
theorem arg_row {w : World} {k : IntKind} {e : TypeId} (he : P.cellsOf e = 1) {a : Option Addr} {len cap : Nat} {zs : List Int}
    (h : (a = none ∧ len = 0 ∧ cap = 0 ∧ zs = []) ∨ ∃ x, a = some x ∧ len ≤ cap ∧ cap ≤ maxLen ∧ zs.length = cap ∧ (∀ i, i < zs.length → w.cell? (x.add i) = some (.int k (zs.getD i 0))) ∧ ∀ n ∈ zs, (Lit.int k n).wf = true) :
    Arg P w (.sl e ((zs.take len).map (VT.int k).emb)) (.slice a len cap) ∧ (zs.take len).length = len ∧ len ≤ maxLen ∧ ∀ n, n ∈ zs.take len → inKind k n := by
  have hrep : ∀ {A : Option Addr} {c : Nat}, c ≤ maxLen → Arg P w (.sl e []) (.slice A 0 c) := by
    intro A c hc
    exact .sl (us := []) rfl rfl (by simp) hc (by omega) (fun i x u h => by simp at h) (fun u h => by simp at h) (fun h => absurd rfl h)
  rcases h with ⟨rfl, rfl, rfl, rfl⟩ | ⟨x, rfl, hl, hm, hz, hcell, hwz⟩
  · exact ⟨hrep (by omega), rfl, by omega, fun n h => by simp at h⟩
  · have hlen : (zs.take len).length = len := by simp; omega
    refine ⟨?_, hlen, by omega, fun n hn => inKind_of (hwz n (List.mem_of_mem_take hn))⟩
    by_cases h0 : zs = []
    · subst h0
      have : len = 0 := by simp at hz; omega
      subst this
      exact hrep hm
    · have hpos : 0 < zs.length := by
        cases zs with
        | nil => exact absurd rfl h0
        | cons _ _ => simp
      obtain ⟨b, off, spot⟩ := x
      have hc := hcell 0 hpos
      have hspot : spot = none := by simpa [Addr.add] using World.cell?_spot hc
      subst hspot
      refine Arg.ints he hl hm hz fun i hi => ?_
      have hadd : Addr.add ⟨b, off, none⟩ i = ⟨b, off + i, none⟩ := by
        simp [Addr.add]
      rw [← hadd]; exact hcell i hi

theorem in_i64 {n : Int} (h : inKind .i64 n) : -9223372036854775808 ≤ n ∧ n < 9223372036854775808 := by
  simp [inKind, IntKind.min, IntKind.max, IntKind.bits, IntKind.signed] at h; omega
theorem in_u64 {n : Int} (h : inKind .u64 n) : 0 ≤ n ∧ n < 18446744073709551616 := by
  simp [inKind, IntKind.min, IntKind.max, IntKind.bits, IntKind.signed] at h; omega
theorem in_u32 {n : Int} (h : inKind .u32 n) : 0 ≤ n ∧ n < 4294967296 := by
  simp [inKind, IntKind.min, IntKind.max, IntKind.bits, IntKind.signed] at h; omega
theorem in_u16 {n : Int} (h : inKind .u16 n) : 0 ≤ n ∧ n < 65536 := by
  simp [inKind, IntKind.min, IntKind.max, IntKind.bits, IntKind.signed] at h; omega
theorem in_u8 {n : Int} (h : inKind .u8 n) : 0 ≤ n ∧ n < 256 := by
  simp [inKind, IntKind.min, IntKind.max, IntKind.bits, IntKind.signed] at h; omega
end
end Go.AbsM
