/-
  The typed machine: every operation, calls, regions.
-/
import Derived.Test.YtmfegciehdjicaaAbtOp3
set_option linter.unusedVariables false
set_option linter.unusedSimpArgs false
namespace Go.AbsM

section
variable {P : Program} {R : List Store} {s : TSt}

/-- The slot alone changes. -/
theorem pureT_ok {o : Oper} {K : TV → Prop} (h : pureT P s o.op K) : ∃ v : TV, opA P (s.emb R) o = some ((s.emb R).put o.dst (v.emb s.st)) ∧ K v := by
  unfold pureT at h
  split at h
  · rename_i x ho
    obtain ⟨v, hv, h⟩ := need_some h
    exact ⟨v, by simp only [opA, ho, evalT_ok hv, Option.map_some], h⟩
  · rename_i x ho
    obtain ⟨v, hv, h⟩ := need_some h
    exact ⟨v, by simp only [opA, ho, evalT_ok hv, Option.map_some], h⟩
  · rename_i c a b ho
    split at h
    · rename_i t ht
      have hc : evalO (s.emb R) c = some (.x (.bool t)) := evalT_ok ht
      rcases brc_cases h with ⟨rfl, h'⟩ | ⟨rfl, h'⟩
      · obtain ⟨v, hv, h⟩ := need_some h'
        exact ⟨v, by simp only [opA, ho, hc, if_true, evalT_ok hv, Option.map_some], h⟩
      · obtain ⟨v, hv, h⟩ := need_some h'
        exact ⟨v, by simp only [opA, ho, hc, Bool.false_eq_true, if_false, evalT_ok hv, Option.map_some], h⟩
    · exact h.elim
  · rename_i x ho
    split at h
    · rename_i i k off hx
      have hx : evalO (s.emb R) x = some (.ref i k off) := evalT_ok hx
      exact ⟨_, by simp only [opA, ho, hx]; rfl, h⟩
    · exact h.elim
  · rename_i t x ho
    obtain ⟨p, hp, h⟩ := need_some h
    obtain ⟨v, hv, h⟩ := loadT_ok (R := R) h
    exact ⟨_, by simp only [opA, ho, evalT_ok hp, hv, Option.map_some]; rfl, h⟩
  · rename_i t x f ho
    split at h
    · rename_i fields hu
      split at h
      · rename_i fd hf
        split at h
        · rename_i m hm
          obtain ⟨p, hp, h⟩ := need_some h
          obtain ⟨v, hv, h⟩ := fwdT_ok (R := R) h
          exact ⟨v, by simp only [opA, ho, hu, evalT_ok hp, hf, hm, hv, Option.map_some], h⟩
        · exact h.elim
      · exact h.elim
    · exact h.elim
  · rename_i t x y ho
    obtain ⟨p, hp, h⟩ := need_some h
    obtain ⟨k, i, hi, h⟩ := evalI_ok (R := R) h
    obtain ⟨v, hv, h⟩ := indexAddrT_ok (R := R) h
    exact ⟨v, by simp only [opA, ho, evalT_ok hp, hi, hv, Option.map_some], h⟩
  · rename_i t x f ho
    split at h
    · rename_i fields cs hu hx
      have hx : evalO (s.emb R) x = some (.agg (cs.map (TC.emb s.st))) := evalT_ok hx
      split at h
      · rename_i fd hf
        obtain ⟨v, hv, h⟩ := partT_ok s.st h
        exact ⟨_, by simp only [opA, ho, hu, hx, hf, hv, Option.map_some]; rfl, h⟩
      · exact h.elim
    · exact h.elim
  · rename_i t x y ho
    split at h
    · rename_i a ha
      have ha : evalO (s.emb R) x = some (a.emb s.st) := evalT_ok ha
      obtain ⟨k, i, hi, h⟩ := evalI_ok (R := R) h
      split at h
      · rename_i len e hu
        split at h
        · rename_i cs n hn _ _
          obtain ⟨g1, h⟩ := grd_iff.1 h
          obtain ⟨g2, h⟩ := grd_iff.1 h
          obtain ⟨v, hv, h⟩ := partT_ok s.st h
          refine ⟨_, ?_, h⟩
          simp only [opA, ho, ha, hi, hu, T1.emb, hn]
          rw [if_pos ⟨of_decide_eq_true g1, of_decide_eq_true g2⟩, hv]; rfl
        · exact h.elim
      · rename_i hu
        split at h
        · rename_i l _ _
          obtain ⟨g1, h⟩ := grd_iff.1 h
          obtain ⟨g2, h⟩ := grd_iff.1 h
          have g2 : i.toNat < l.length := of_decide_eq_true g2
          refine ⟨_, ?_, h⟩
          simp only [opA, ho, ha, hi, hu, T1.emb, TC.emb, AV.one]
          rw [if_pos (of_decide_eq_true g1), List.getElem?_eq_getElem g2]
          simp only [TV.emb, T1.emb, TC.emb, AV.one, W.u8, W.nth, W.toNat, List.getD_eq_getElem?_getD, List.getElem?_eq_getElem g2, Option.getD_some]
        · exact h.elim
      · exact h.elim
    · exact h.elim
  · rename_i t x lo hi ho
    obtain ⟨a, _, ha, h⟩ := eval1_ok (R := R) h
    obtain ⟨v, hv, h⟩ := sliceT_ok (R := R) h
    exact ⟨v, by simp only [opA, ho, ha, hv, Option.map_some], h⟩
  · rename_i op t x y q ho
    obtain ⟨a, ha, h⟩ := evalA_ok (R := R) h
    obtain ⟨b, hb, h⟩ := evalA_ok (R := R) h
    obtain ⟨v, hv, h1, h⟩ := binK_ok (s.emb R) h
    refine ⟨_, ?_, h⟩
    show _ = some ((s.emb R).put o.dst v.one)
    rw [h1]
    simp only [opA, ho, ha, hb, hv, Option.map_some]
  · rename_i op t x ho
    obtain ⟨a, ha, h⟩ := evalA_ok (R := R) h
    obtain ⟨v, hv, h1, h⟩ := unK_ok h
    refine ⟨_, ?_, h⟩
    show _ = some ((s.emb R).put o.dst v.one)
    rw [h1]
    simp only [opA, ho, ha, hv, Option.map_some]
  · rename_i x i ho
    split at h
    · rename_i vs hx
      have hx : evalO (s.emb R) x = some (.tup (vs.map (T1.emb s.st))) := evalT_ok hx
      obtain ⟨v, hv, h⟩ := need_some h
      exact ⟨_, by simp only [opA, ho, hx, List.getElem?_map, hv, Option.map_some]; rfl, h⟩
    · exact h.elim
  · exact h.elim

theorem opT_ok {o : Oper} {K : TSt → Prop} (h : opT P s o K) : ∃ s1, opA P (s.emb R) o = some (s1.emb R) ∧ K s1 := by
  unfold opT at h
  split at h
  · rename_i e ho
    split at h
    · rename_i z hz
      split at h
      · rename_i x hx
        obtain ⟨s1, h1, h⟩ := boxT_ok (R := R) h
        refine ⟨s1, ?_, h⟩
        have : ∃ v, constAV v = some z := by
          unfold zeroT at hz
          cases hi : (P.info? e).bind (·.zero) with
          | none => rw [hi] at hz; cases hz
          | some v => rw [hi] at hz; exact ⟨v, hz⟩
        obtain ⟨v, hv⟩ := this
        have := constT_emb hv s.st
        rw [hx] at this
        have this : x.emb s.st = z := this
        rw [this] at h1
        simp only [opA, ho, hz]; exact h1
      · exact h.elim
    · exact h.elim
  · rename_i e x ho
    obtain ⟨a, _, ha, h⟩ := eval1_ok (R := R) h
    obtain ⟨s1, h1, h⟩ := boxT_ok (R := R) h
    exact ⟨s1, by simp only [opA, ho, ha]; exact h1, h⟩
  · rename_i t ps ho
    obtain ⟨l, hl, h⟩ := partsT_ok (R := R) h
    obtain ⟨s1, h1, h⟩ := buildT_ok (R := R) h
    exact ⟨s1, by simp only [opA, ho, hl]; exact h1, h⟩
  · rename_i t len ps ho
    obtain ⟨l, hl, h⟩ := partsT_ok (R := R) h
    obtain ⟨s1, h1, h⟩ := buildSliceT_ok (R := R) h
    exact ⟨s1, by simp only [opA, ho, hl]; exact h1, h⟩
  · rename_i t lo co ho
    obtain ⟨k1, l, hl, h⟩ := evalI_ok (R := R) h
    obtain ⟨k2, c, hc, h⟩ := evalI_ok (R := R) h
    obtain ⟨s1, h1, h⟩ := makeT_ok (R := R) h
    exact ⟨s1, by simp only [opA, ho, hl, hc]; exact h1, h⟩
  · rename_i t x y ho
    obtain ⟨p, hp, h⟩ := need_some h
    obtain ⟨v, _, hv, h⟩ := eval1_ok (R := R) h
    obtain ⟨s1, h1, h⟩ := storeT_ok (R := R) h
    exact ⟨s1, by simp only [opA, ho, evalT_ok hp, hv]; exact h1, h⟩
  · rename_i src dst x ho
    obtain ⟨a, _, ha, h⟩ := eval1_ok (R := R) h
    obtain ⟨s1, h1, h⟩ := convertT_ok (R := R) h
    exact ⟨s1, by simp only [opA, ho, ha]; exact h1, h⟩
  · rename_i c ho
    split at h
    · rename_i b hb
      obtain ⟨as, has, h⟩ := evalOsT_ok (R := R) h
      obtain ⟨s1, h1, h⟩ := builtinT_ok (R := R) h
      exact ⟨s1, by simp only [opA, ho, hb, has]; exact h1, h⟩
    · exact h.elim
  · obtain ⟨v, hv, h⟩ := pureT_ok (R := R) h
    exact ⟨_, by rw [hv, emb_put], h⟩

/-! ### Calls -/

/-- What is known of the callees is what the abstract machine takes for known. -/
def CtrOk (E : Env) (G : Ctr) : Prop := ∀ f args K, G f args K → (∀ a, a ∈ args → a.noH = true) → ∃ r : TV, E.Γ f (args.map (T1.emb [])) = some (r.emb []) ∧ r.outOk = true ∧ K r

theorem out1_emb {x : T1} (h : x.outOk = true) (S S' : TStore) : x.emb S = x.emb S' := by
  cases x with
  | c x => exact isVal_emb h S S'
  | agg cs =>
    simp only [T1.outOk, List.all_eq_true] at h
    simp only [T1.emb]
    congr 1
    exact List.map_congr_left fun c hc => isVal_emb (h c hc) S S'
  | own => rfl
theorem out_emb {r : TV} (h : r.outOk = true) (S S' : TStore) : r.emb S = r.emb S' := by
  cases r with
  | o x => exact out1_emb h S S'
  | tup vs =>
    simp only [TV.outOk, List.all_eq_true] at h
    simp only [TV.emb]
    congr 1
    exact List.map_congr_left fun c hc => out1_emb (h c hc) S S'
  | efz => rfl
theorem out1_shut {x : T1} (h : x.outOk = true) (S : TStore) : (x.emb S).shut1 = true := by
  cases x with
  | c x =>
    have hv := isVal_is h S
    show (x.emb S).shut1 = true
    cases hx : x.emb S <;> rw [hx] at hv <;> first | exact hv | simp [AV.isVal] at hv
  | agg cs =>
    simp only [T1.emb, AV.shut1]
    exact isVals_emb S h
  | own => rfl
theorem out_shut {r : TV} (h : r.outOk = true) (S : TStore) : (r.emb S).shut = true := by
  cases r with
  | o x =>
    have := out1_shut (S := S) h
    have hx : ∀ vs, x.emb S ≠ .tup vs := t1_simple x S
    show (x.emb S).shut = true
    cases hy : x.emb S <;> rw [hy] at this <;> first | exact this | exact absurd hy (hx _)
  | tup vs =>
    simp only [TV.outOk, List.all_eq_true] at h
    simp only [TV.emb, AV.shut, List.all_map, List.all_eq_true]
    exact fun c hc => out1_shut (h c hc) S
  | efz => cases h

theorem val_kill {x : AV} (h : x.isVal = true) (k : Nat) : x.killCell k = x := by
  cases x <;> first | rfl | simp [AV.isVal] at h
theorem tc_kill_val {c : TC} (h : c.isVal = true) (k : Nat) : c.kill k = c := by
  cases c with
  | a x => exact congrArg TC.a (val_kill h k)
  | sl => rfl
  | _ => cases h
theorem out1_kill {x : T1} (h : x.outOk = true) (k : Nat) : x.kill k = x := by
  cases x with
  | c x => exact congrArg T1.c (tc_kill_val h k)
  | agg cs =>
    simp only [T1.outOk, List.all_eq_true] at h
    simp only [T1.kill]
    congr 1
    have : cs.map (TC.kill k) = cs.map id := List.map_congr_left fun c hc => tc_kill_val (h c hc) k
    rw [this, List.map_id]
  | own => rfl
theorem out1_kills {x : T1} (h : x.outOk = true) : ∀ (n k : Nat), x.kills k n = x
  | 0, k => rfl
  | n + 1, k => by simp only [T1.kills, out1_kill h]; exact out1_kills h n (k + 1)
theorem out1_killA {x : T1} (h : x.outOk = true) (S : TStore) (k : Nat) : (x.emb S).kill1 k = x.emb S := by
  rw [← t1_kill (S := S) (S' := S) (fun j _ => rfl), out1_kill h]
theorem out1_killsA {x : T1} (h : x.outOk = true) (S : TStore) : ∀ (n k : Nat), AV.kills k n (x.emb S) = x.emb S
  | 0, k => rfl
  | n + 1, k => by simp only [AV.kills, out1_killA h]; exact out1_killsA h S n (k + 1)

theorem inOneT_ok {x : T1} (h : x.outOk = true) (k : Nat) : ((inOneT s k x).1.emb R, (inOneT s k x).2.emb (inOneT s k x).1.st) = inOne (s.emb R) k (x.emb []) := by
  cases x with
  | own e t xs =>
    simp only [inOneT, inOne, T1.emb, emb_create, TOb.emb, List.length_map]
    congr 1
    simp [TC.emb, shapeT, TSt.create, lookT]
  | c x =>
    have hx := (tc_simple x []).2.2
    show (s.emb R, x.emb s.st) = inOne (s.emb R) k (x.emb [])
    rw [isVal_emb h s.st []]
    unfold inOne
    split
    · rename_i he; exact absurd he (hx _ _)
    · rfl
  | agg cs =>
    rw [show inOneT s k (.agg cs) = (s, .agg cs) from rfl]
    rw [out1_emb h s.st []]; rfl

theorem inAllT_ok {l : List T1} : ∀ (k : Nat), (∀ x, x ∈ l → x.outOk = true) → ((inAllT s k l).1.emb R, (inAllT s k l).2.map (T1.emb (inAllT s k l).1.st)) = inAll (s.emb R) k (l.map (T1.emb [])) := by
  induction l with
  | nil => intro k h; rfl
  | cons a r ih =>
    intro k h
    have ha := h a List.mem_cons_self
    have hr := ih (k + 1) fun x hx => h x (List.mem_cons_of_mem _ hx)
    simp only [inAllT, inAll, List.map_cons, List.length_map]
    rw [out1_kills ha, out1_killsA ha]
    rw [← hr]
    have h1 := inOneT_ok (R := R) (s := (inAllT s (k + 1) r).1) ha k
    rw [← h1]
    simp only [List.map_map]
    congr 2
    refine List.map_congr_left fun x hx => ?_
    simp only [Function.comp]
    cases a with
    | own e t xs => exact t1_kill (shape_create _ k _) x
    | c y => exact t1_kill (fun _ _ => rfl) x
    | agg cs => exact t1_kill (fun _ _ => rfl) x

theorem bindT_ok {d : Option Nat} {r : TV} (h : r.outOk = true) : (bindT s d r).emb R = bindA (s.emb R) d (r.emb []) := by
  cases d with
  | none => rfl
  | some k =>
    cases r with
    | tup vs =>
      simp only [TV.outOk, List.all_eq_true] at h
      have := inAllT_ok (R := R) (s := s) (home k 0) h
      simp only [bindT, bindA, TV.emb, emb_put, ← this]
    | o x =>
      have := inOneT_ok (R := R) (s := s) (x := x) h k
      have hx := t1_simple x []
      show (TSt.put (inOneT s k x).1 (some k) (.o (inOneT s k x).2)).emb R = bindA (s.emb R) (some k) (x.emb [])
      rw [emb_put]
      have hb : bindA (s.emb R) (some k) (x.emb []) = (inOne (s.emb R) k (x.emb [])).1.put (some k) (inOne (s.emb R) k (x.emb [])).2 := by
        cases hy : x.emb [] <;> first | rfl | exact absurd hy (hx _)
      rw [hb, ← this]; rfl
    | efz => cases h

theorem hasSl1 {x : T1} (h : x.outOk = true) : (!(x.emb []).flat2) = x.hasSl := by
  cases x with
  | own e t xs =>
    simp only [T1.emb, AV.flat2, T1.hasSl, List.all_map]; rfl
  | agg cs => simp only [T1.emb, AV.flat2, AV.flat1, T1.hasSl, List.all_map]; rfl
  | c y =>
    have hy := tc_simple y []
    have hf : (y.emb []).flat2 = (y.emb []).flat0 := by
      cases he : y.emb [] <;> first | rfl | exact absurd he (hy.1 _) | exact absurd he (hy.2.2 _ _)
    show (!(y.emb []).flat2) = _
    rw [hf]
    cases y with
    | sl e t z => cases z <;> rfl
    | _ => rfl
theorem hasSl_emb {r : TV} (h : r.outOk = true) : (r.emb []).hasSl = r.hasSl := by
  cases r with
  | o x =>
    rw [show TV.hasSl (.o x) = x.hasSl from rfl, ← hasSl1 h]
    have hx : ∀ vs, x.emb [] ≠ .tup vs := t1_simple x []
    show (x.emb []).hasSl = _
    cases hy : x.emb [] <;> first | rfl | exact absurd hy (hx _)
  | tup vs =>
    simp only [TV.outOk, List.all_eq_true] at h
    simp only [TV.emb, AV.hasSl, TV.hasSl]
    induction vs with
    | nil => rfl
    | cons a r ih =>
      simp only [List.map_cons, List.all_cons, Bool.not_and, List.any_cons]
      rw [ih fun x hx => h x (List.mem_cons_of_mem _ hx), hasSl1 (h a List.mem_cons_self)]
  | efz => cases h

theorem plain_cells {t : VT} (h : t.plainT = true) (x : t.den) : (t.cells x).all AV.flat0 = true := by
  induction t with
  | pair a b ha hb =>
    simp only [VT.plainT, Bool.and_eq_true] at h
    simp only [VT.cells, List.all_append, ha h.1, hb h.2, Bool.and_self]
  | slc => cases h
  | _ => rfl
theorem plain_flat1 {t : VT} (h : t.plainT = true) (x : t.den) : (t.emb x).flat1 = true := by
  have := plain_cells h x
  unfold VT.emb embOf
  cases ha : t.isAgg with
  | true => exact this
  | false =>
    obtain ⟨c, hc, hv⟩ := cells_one ha x
    rw [hc] at this ⊢
    simp only [List.all_cons, List.all_nil, Bool.and_true] at this
    show c.flat1 = true
    cases c <;> first | exact this | simp [AV.isVal] at hv

theorem mayS1 {x : T1} (h : x.outOk = true) (hm : x.mayS = false) : x.hasSl = false := by
  cases x with
  | own e t xs =>
    simp only [T1.mayS, Bool.not_eq_false'] at hm
    simp only [T1.hasSl, Bool.not_eq_false', List.all_eq_true]
    exact fun y _ => plain_flat1 hm y
  | agg cs =>
    simp only [T1.mayS, List.any_eq_false] at hm
    simp only [T1.hasSl, Bool.not_eq_false', List.all_eq_true]
    intro c hc
    have := hm c hc
    simp only [T1.outOk, List.all_eq_true] at h
    have hv := h c hc
    cases c with
    | a x => simp only [TC.mayS, Bool.not_eq_true', Bool.not_eq_false] at this; simp only [TC.isVal] at hv; simp only [TC.emb, one_val hv]; simpa using this
    | sl => simp [TC.mayS] at this
    | _ => cases hv
  | c y =>
    cases y with
    | a x =>
      simp only [T1.mayS, TC.mayS, Bool.not_eq_false'] at hm
      simp only [T1.outOk, TC.isVal] at h
      simp only [T1.hasSl, TC.emb, one_val h, hm]; rfl
    | sl => cases hm
    | _ => cases h
theorem mayS_ok {r : TV} (h : r.outOk = true) (hm : r.mayS = false) : r.hasSl = false := by
  cases r with
  | o x => exact mayS1 h hm
  | tup vs =>
    simp only [TV.outOk, List.all_eq_true] at h
    simp only [TV.mayS, List.any_eq_false] at hm
    simp only [TV.hasSl, List.any_eq_false]
    intro x hx
    rw [mayS1 (h x hx) (by simpa using hm x hx)]; simp
  | efz => cases h

/-- What has no handles is resolved to itself. -/
theorem resC_pin {c : TC} {K : TSt → TC → Prop} (hv : c.isVal = true) (h : resC s c K) : resC s c fun s1 d => s1 = s ∧ d = c ∧ K s1 d := by
  unfold resC at h ⊢
  split at h <;> first | exact ⟨rfl, rfl, h⟩ | cases hv | exact h.elim
theorem resC_mono {c : TC} {K K' : TSt → TC → Prop} (hk : ∀ s d, K s d → K' s d) (h : resC s c K) : resC s c K' := by
  unfold resC at h ⊢
  split at h <;> first | exact hk _ _ h | skip
  · split at h
    · exact hk _ _ h
    · exact h
  · split at h
    · exact grd_iff.2 ⟨(grd_iff.1 h).1, hk _ _ (grd_iff.1 h).2⟩
    · exact h
  · exact h
theorem resCs_mono {l : List TC} {K K' : TSt → List TC → Prop} (hk : ∀ s d, K s d → K' s d) (h : resCs s l K) : resCs s l K' := by
  induction l generalizing s K K' with
  | nil => exact hk _ _ h
  | cons c r ih => exact resC_mono (fun s1 d h => ih (fun s2 l h => hk _ _ h) h) h
theorem resT_mono {c : T1} {K K' : TSt → T1 → Prop} (hk : ∀ s d, K s d → K' s d) (h : resT s c K) : resT s c K' := by
  cases c with
  | c c => exact resC_mono (s := s) (c := c) (K := fun s1 d => K s1 (.c d)) (K' := fun s1 d => K' s1 (.c d)) (fun s1 d h => hk _ _ h) h
  | agg cs => exact resCs_mono (s := s) (l := cs) (K := fun s1 d => K s1 (.agg d)) (K' := fun s1 d => K' s1 (.agg d)) (fun s1 d h => hk _ _ h) h
  | own => exact h
theorem resAllT_mono {l : List T1} {K K' : TSt → List T1 → Prop} (hk : ∀ s d, K s d → K' s d) (h : resAllT s l K) : resAllT s l K' := by
  induction l generalizing s K K' with
  | nil => exact hk _ _ h
  | cons c r ih => exact resT_mono (fun s1 d h => ih (fun s2 l h => hk _ _ h) h) h
theorem resCs_pin {cs : List TC} {K : TSt → List TC → Prop} (hv : ∀ c, c ∈ cs → c.isVal = true) (h : resCs s cs K) : resCs s cs fun s1 d => s1 = s ∧ d = cs ∧ K s1 d := by
  induction cs generalizing K with
  | nil => exact ⟨rfl, rfl, h⟩
  | cons c r ih =>
    refine resC_mono (fun s1 d hh => ?_) (resC_pin (hv c List.mem_cons_self) h)
    obtain ⟨rfl, rfl, h'⟩ := hh
    exact resCs_mono (fun s2 l hh => ⟨hh.1, by rw [hh.2.1], hh.2.2⟩) (ih (fun c hc => hv c (List.mem_cons_of_mem _ hc)) h')
theorem resT_pin {c : T1} {K : TSt → T1 → Prop} (hv : c.noH = true) (h : resT s c K) : resT s c fun s1 d => s1 = s ∧ d = c ∧ K s1 d := by
  cases c with
  | c c => exact resC_mono (s := s) (c := c) (K' := fun s1 d => s1 = s ∧ (T1.c d) = .c c ∧ K s1 (.c d)) (fun s1 d hh => ⟨hh.1, by rw [hh.2.1], hh.2.2⟩) (resC_pin (K := fun s1 d => K s1 (.c d)) hv h)
  | agg cs => exact resCs_mono (s := s) (l := cs) (K' := fun s1 d => s1 = s ∧ (T1.agg d) = .agg cs ∧ K s1 (.agg d)) (fun s1 d hh => ⟨hh.1, by rw [hh.2.1], hh.2.2⟩) (resCs_pin (K := fun s1 d => K s1 (.agg d)) (List.all_eq_true.1 hv) h)
  | own => exact h.elim
theorem resAllT_pin {cs : List T1} {K : TSt → List T1 → Prop} (hv : ∀ c, c ∈ cs → c.noH = true) (h : resAllT s cs K) : resAllT s cs fun s1 d => s1 = s ∧ d = cs ∧ K s1 d := by
  induction cs generalizing K with
  | nil => exact ⟨rfl, rfl, h⟩
  | cons c r ih =>
    refine resT_mono (fun s1 d hh => ?_) (resT_pin (hv c List.mem_cons_self) h)
    obtain ⟨rfl, rfl, h'⟩ := hh
    exact resAllT_mono (fun s2 l hh => ⟨hh.1, by rw [hh.2.1], hh.2.2⟩) (ih (fun c hc => hv c (List.mem_cons_of_mem _ hc)) h')

variable {E : Env} {G : Ctr} {rec : Rec}

theorem openT {lend : Nat → Bool} (hl : ∀ j, lend j = false) (S : TStore) : ∀ (l : List T1) (j : Nat), l.all T1.noRef = true → openA lend j (l.map (T1.emb S)) = false
  | [], j, h => rfl
  | a :: r, j, h => by
    simp only [List.all_cons, Bool.and_eq_true] at h
    simp only [List.map_cons, openA, openT hl S r (j + 1) h.2, Bool.or_false]
    split
    · exact hl j
    · rename_i i k off he
      exfalso
      cases a with
      | c c =>
        cases c with
        | a x =>
          have he : x.one = .ref i k off := he
          cases x <;> simp only [AV.one] at he <;> first | (cases he; done) | (exact absurd h.1 (by simp [T1.noRef]))
        | sl e t x => cases x <;> cases he
        | h m => simp only [T1.emb, TC.emb] at he; split at he <;> cases he
        | eh m j off => simp only [T1.emb, TC.emb] at he; split at he <;> cases he
      | agg cs => cases he
      | own e t xs => cases he
    · rfl

theorem callT_ok (hl : ∀ f j, E.lend f j = false) (hG : CtrOk E G) {d : Option Nat} {f : FuncId} {args : List T1} {K : TSt → Prop} (h : callT G s d f args K) : ∃ s1, callOpA P E rec (s.emb R) d f (args.map (T1.emb s.st)) = some (s1.emb R) ∧ K s1 := by
  unfold callT at h
  split at h
  · rename_i hr
    unfold callOpA
    rw [openT (hl f) s.st args 0 hr, if_neg (by simp)]
    split at h
    · rename_i hn
      have hn := List.all_eq_true.1 hn
      obtain ⟨s1, ds, h1, hds, hal, rfl, rfl, h'⟩ := resAllT_ok (R := R) (resAllT_pin hn h)
      obtain ⟨r, hg, ho, h'⟩ := hG _ _ _ h' hds
      refine ⟨_, ?_, h'⟩
      simp only [h1, callA, hg, out_shut ho, if_true]
      rw [bindT_ok ho]
      split <;> rfl
    · obtain ⟨s1, ds, h1, hds, hal, h⟩ := resAllT_ok (R := R) h
      obtain ⟨r, hg, ho, h⟩ := hG _ _ _ h hds
      have hs := hasSl_emb ho
      split at h
      · rename_i hm
        refine ⟨_, ?_, h⟩
        simp only [h1, callA, hg, out_shut ho, if_true]
        rw [hs, mayS_ok ho hm, bindT_ok ho]; rfl
      · rcases brc_cases h with ⟨hb, h⟩ | ⟨hb, h⟩
        · refine ⟨_, ?_, h⟩
          simp only [h1, callA, hg, out_shut ho, if_true]
          rw [hs, hb, bindT_ok ho]; rfl
        · refine ⟨_, ?_, h⟩
          simp only [h1, callA, hg, out_shut ho, if_true]
          rw [hs, hb, bindT_ok ho]; rfl
  · exact h.elim

theorem stepOpT_ok (hl : ∀ f j, E.lend f j = false) (hG : CtrOk E G) {o : Oper} {K : TSt → Prop} (h : stepOpT P G s o K) : ∃ s1, stepOp P E rec (s.emb R) o = some (s1.emb R) ∧ K s1 := by
  unfold stepOpT at h
  unfold stepOp
  split at h
  · rename_i c ho
    split at h
    · rename_i f hc
      obtain ⟨as, has, h⟩ := evalOsT_ok (R := R) h
      obtain ⟨s1, h1, h⟩ := callT_ok (R := R) (rec := rec) (P := P) hl hG h
      exact ⟨s1, by simp only [ho, hc, has]; exact h1, h⟩
    · rename_i hno
      obtain ⟨s1, h1, h⟩ := opT_ok (R := R) h
      refine ⟨s1, ?_, h⟩
      rw [ho]
      simp only
      exact h1
  · rename_i hno
    obtain ⟨s1, h1, h⟩ := opT_ok (R := R) h
    refine ⟨s1, ?_, h⟩
    split
    · rename_i c ho; exact absurd ho (hno c)
    · exact h1

theorem unown1 {x : T1} (h : x.outOk = true) (S : TStore) : (x.unown).emb S = (x.emb []).unown := by
  cases x with
  | own e t xs => rfl
  | agg cs => rw [show T1.unown (.agg cs) = .agg cs from rfl, out1_emb h S []]; rfl
  | c c =>
    rw [show T1.unown (.c c) = .c c from rfl, out1_emb h S []]
    have := (tc_simple c []).2.2
    show c.emb [] = (c.emb []).unown
    cases hc : c.emb [] <;> first | rfl | exact absurd hc (this _ _)
theorem unowns_ok {r : TV} (h : r.outOk = true) (S : TStore) : (r.unowns).emb S = (r.emb []).unowns := by
  cases r with
  | o x =>
    have hx := t1_simple x []
    show (x.unown).emb S = (x.emb []).unowns
    rw [unown1 h]
    cases hy : x.emb [] <;> first | rfl | exact absurd hy (hx _)
  | tup vs =>
    simp only [TV.outOk, List.all_eq_true] at h
    simp only [TV.unowns, TV.emb, AV.unowns, List.map_map]
    congr 1
    exact List.map_congr_left fun c hc => unown1 (h c hc) S
  | efz => cases h

theorem quietT_ok (hG : CtrOk E G) {o : Oper} {K : TSt → Prop} (h : quietT P G s o K) : ∃ s1, quietA P E rec (s.emb R) o = some (s1.emb R) ∧ K s1 := by
  unfold quietT at h
  unfold quietA
  split at h
  · rename_i c ho
    rw [ho]
    simp only
    split at h
    · rename_i f hc
      obtain ⟨as, has, h⟩ := evalOsT_ok (R := R) h
      obtain ⟨s1, ds, h1, hds, hal, h⟩ := resAllT_ok (R := R) h
      obtain ⟨r, hg, ho', h⟩ := hG _ _ _ h hds
      have hs := hasSl_emb ho'
      have fin : ((r.emb []).hasSl = false ∨ (as.map (T1.emb s.st)).all AV.isVal = true) → K (s.put o.dst r.unowns) → ∃ s1_1, (match c.callee with
          | .value (.func f) => match evalOs (s.emb R) c.args.toList with
            | some as => match resolveAll (s.emb R) as with
              | some (_, bs) => match callA P E rec f bs [] with
                | some (_, r) => if r.shut ∧ (r.hasSl = false ∨ as.all AV.isVal = true) then some ((s.emb R).put o.dst r.unowns) else none
                | none => none
              | none => none
            | none => none
          | .builtin .len | .builtin .min | .builtin .max | .builtin .real | .builtin .imag | .builtin .complex => opA P (s.emb R) o
          | _ => none) = some (TSt.emb R s1_1) ∧ K s1_1 := by
        intro hc' hk
        refine ⟨_, ?_, hk⟩
        simp only [hc, has, h1, callA, hg]
        rw [if_pos ⟨out_shut ho' [], hc'⟩, emb_put, unowns_ok ho']
      split at h
      · rename_i hv
        refine fin (.inr ?_) h
        rw [List.all_map, List.all_eq_true]
        intro x hx
        have := List.all_eq_true.1 hv x hx
        cases x with
        | c y => exact isVal_is this _
        | _ => cases this
      · split at h
        · rename_i hm
          exact fin (.inl (by rw [hs]; exact mayS_ok ho' hm)) h
        · obtain ⟨hb, h⟩ := grd_iff.1 h
          exact fin (.inl (by rw [hs]; simpa using hb)) h
    all_goals first
      | (rename_i hc
         obtain ⟨s1, h1, h⟩ := opT_ok (R := R) h
         exact ⟨s1, by rw [hc]; exact h1, h⟩)
      | exact h.elim
  · rename_i src dst x ho
    rw [ho]
    simp only
    obtain ⟨a, _, ha, h⟩ := eval1_ok (R := R) h
    obtain ⟨v, hv, h⟩ := convK_ok (R := R) h
    exact ⟨_, by simp only [ha, hv, Option.map_some, emb_put], h⟩
  · rename_i t ps ho
    obtain ⟨s1, h1, h⟩ := opT_ok (R := R) h
    exact ⟨s1, by rw [ho]; exact h1, h⟩
  · have h0 := h
    obtain ⟨v, hv, h⟩ := pureT_ok (R := R) (o := o) h
    refine ⟨_, ?_, h⟩
    rw [emb_put, ← hv]
    clear hv h
    revert h0
    cases ho : o.op <;> intro h0 <;> first | rfl | exact (show False from h0).elim

theorem drawT_ok (hl : ∀ f j, E.lend f j = false) (hG : CtrOk E G) {o : Oper} {K : TSt → Prop} (h : drawT P G E.solo s o K) : ∃ s1, drawOp P E rec (s.emb R) o = some (s1.emb R) ∧ K s1 := by
  unfold drawT at h
  unfold drawOp
  split at h
  · rename_i hs
    rw [if_pos hs]
    exact stepOpT_ok hl hG h
  · rename_i hs
    rw [if_neg (by simp [hs])]
    exact quietT_ok hG h

theorem guardT_ok {ops : Array Oper} {g : Option (Nat × Bool)} {K : Bool → TSt → Prop} (h : guardT ops s g K) : ∃ b s1, guardA ops (s.emb R) g = some b ∧ s1.emb R = s.emb R ∧ K b s1 := by
  unfold guardT at h
  unfold guardA
  split at h
  · exact ⟨_, _, rfl, rfl, h⟩
  · rename_i j want
    split at h
    · rename_i t ht
      simp only [ht]
      split at h
      · rename_i b hb
        have hg : (s.emb R).get t = .x (.bool b) := by rw [emb_get, hb]; rfl
        have hself : ∀ c, b = c → (s.put (some t) (TV.bool c)).emb R = s.emb R := by
          intro c hc; subst hc
          rw [emb_put]
          show St.put (s.emb R) (some t) (.x (.bool b)) = s.emb R
          rw [← hg]
          simp only [St.put, St.get]
          congr 1
          have hlt : t < (s.emb R).slots.length := by
            rcases Nat.lt_or_ge t (s.emb R).slots.length with h' | h'
            · exact h'
            · simp only [St.get, List.getD_eq_getElem?_getD, List.getElem?_eq_none h', Option.getD_none] at hg; cases hg
          rw [List.getD_eq_getElem?_getD, List.getElem?_eq_getElem hlt, Option.getD_some, List.set_getElem_self]
          rfl
        simp only [hg]
        rcases brc_cases h with ⟨rfl, h'⟩ | ⟨rfl, h'⟩
        · exact ⟨_, _, rfl, hself true rfl, h'⟩
        · exact ⟨_, _, rfl, hself false rfl, h'⟩
      · rename_i hb
        have hg : (s.emb R).get t = .und := by rw [emb_get, hb]; rfl
        simp only [hg]
        exact ⟨_, _, rfl, rfl, h⟩
      · exact h.elim
    · exact h.elim

theorem opsT_ok {st : TSt → Oper → (TSt → Prop) → Prop} {stA : Oper → St → Option St} (hst : ∀ s o K, st s o K → ∃ s1, stA o (s.emb R) = some (s1.emb R) ∧ K s1) {ops : Array Oper} : ∀ (l : List Nat) (s : TSt) (K : TSt → Prop), opsT st ops l s K → ∃ s1, opsA stA ops l (s.emb R) = some (s1.emb R) ∧ K s1 := by
  intro l
  induction l with
  | nil => intro s K h; exact ⟨s, rfl, h⟩
  | cons i r ih =>
    intro s K h
    simp only [opsT] at h
    simp only [opsA]
    split at h
    · rename_i hi
      simp only [hi]
      exact ih s K h
    · rename_i o hi
      simp only [hi]
      obtain ⟨b, s1, hg, he, h⟩ := guardT_ok (R := R) h
      rw [hg]
      split at h
      · simp only
        obtain ⟨s2, h2, h⟩ := hst _ _ _ h
        rw [← he, h2]
        exact ih s2 K h
      · simp only
        have := ih _ K h
        rw [emb_put, he] at this
        exact this
end
end Go.AbsM
