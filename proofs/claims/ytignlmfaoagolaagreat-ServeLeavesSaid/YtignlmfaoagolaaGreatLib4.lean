/-
  The abstract machine and the typed machine over it: deterministic evaluators of translated code over plain values, each proved sound. Part 4 of 7.
-/
import Derived.Test.YtignlmfaoagolaaGreatLib3
set_option linter.unusedVariables false
set_option linter.unusedSimpArgs false
set_option linter.unusedSectionVars false
/-! ## AbtOp4 -/
namespace Go.AbsM
section
variable {P : Program} {R : List Store} {s : TSt}
theorem nilK_ok {x : T1} {K : Bool → Prop} (h : nilK s x K) : ∃ b, isNilA (s.emb R) (x.emb s.st) = some b ∧ K b := by
  unfold nilK at h
  split at h
  · exact ⟨_, rfl, h⟩
  · exact ⟨_, rfl, h⟩
  · rename_i e t l
    obtain ⟨g1, h⟩ := grd_iff.1 h
    refine ⟨_, ?_, h⟩
    cases l with
    | nil => cases g1
    | cons a r => rfl
  · rename_i k
    split at h
    · rename_i fz e t xs hk
      obtain ⟨g1, h⟩ := grd_iff.1 h
      refine ⟨_, ?_, h⟩
      have hg := getOb_emb R s k
      rw [hk] at hg
      cases xs with
      | nil => cases g1
      | cons a r =>
        simp only [T1.emb, TC.emb, shapeT, hk, List.length_cons, isNilA, St.elems, hg, Option.map_some, TOb.emb, List.length_map, if_true]
    · exact h.elim
  · rename_i k e lo n tot
    split at h
    · rename_i fz e2 t xs hk
      obtain ⟨g1, h⟩ := grd_iff.1 h
      obtain ⟨g2, h⟩ := grd_iff.1 h
      refine ⟨_, ?_, h⟩
      have hg := getOb_emb R s k
      rw [hk] at hg
      have g1 : xs.length = tot := of_decide_eq_true g1
      have g2 : 0 < n := of_decide_eq_true g2
      obtain ⟨m, rfl⟩ : ∃ m, n = m + 1 := ⟨n - 1, by omega⟩
      simp only [T1.emb, TC.emb, AV.one, isNilA, St.elems, hg, Option.map_some, TOb.emb, List.length_map, g1, if_true]
    · exact h.elim
  · exact h.elim
theorem isNilC_ok {y : Operand} (h : isNilC y = true) (s : St) : evalO s y = some .nils := by
  unfold isNilC at h
  split at h
  · rfl
  · cases h
theorem pureT_ok {o : Oper} {K : TV → Prop} (h : pureT P s o.op K) : ∃ v : TV, opA P (s.emb R) o = some ((s.emb R).put o.dst (v.emb s.st)) ∧ K v := by
  unfold pureT at h
  split at h
  · rename_i x ho
    obtain ⟨v, hv, h⟩ := need_some h
    exact ⟨v, by simp only [opA, ho, evalT_ok hv, Option.map_some], h⟩
  · rename_i x ho
    obtain ⟨v, hv, h⟩ := need_some h
    exact ⟨v, by simp only [opA, ho, evalT_ok hv, Option.map_some], h⟩
  · rename_i c a b ho
    split at h
    · rename_i t ht
      have hc : evalO (s.emb R) c = some (.x (.bool t)) := evalT_ok ht
      rcases brc_cases h with ⟨rfl, h'⟩ | ⟨rfl, h'⟩
      · obtain ⟨v, hv, h⟩ := need_some h'
        exact ⟨v, by simp only [opA, ho, hc, if_true, evalT_ok hv, Option.map_some], h⟩
      · obtain ⟨v, hv, h⟩ := need_some h'
        exact ⟨v, by simp only [opA, ho, hc, Bool.false_eq_true, if_false, evalT_ok hv, Option.map_some], h⟩
    · exact h.elim
  · rename_i x ho
    split at h
    · rename_i i k off hx
      have hx : evalO (s.emb R) x = some (.ref i k off) := evalT_ok hx
      exact ⟨_, by simp only [opA, ho, hx]; rfl, h⟩
    · exact h.elim
  · rename_i t x ho
    obtain ⟨p, hp, h⟩ := need_some h
    obtain ⟨v, hv, h⟩ := loadT_ok (R := R) h
    exact ⟨_, by simp only [opA, ho, evalT_ok hp, hv, Option.map_some]; rfl, h⟩
  · rename_i t x f ho
    split at h
    · rename_i fields hu
      split at h
      · rename_i fd hf
        split at h
        · rename_i m hm
          obtain ⟨p, hp, h⟩ := need_some h
          obtain ⟨v, hv, h⟩ := fwdT_ok (R := R) h
          exact ⟨v, by simp only [opA, ho, hu, evalT_ok hp, hf, hm, hv, Option.map_some], h⟩
        · exact h.elim
      · exact h.elim
    · exact h.elim
  · rename_i t x y ho
    obtain ⟨p, hp, h⟩ := need_some h
    obtain ⟨k, i, hi, h⟩ := evalI_ok (R := R) h
    obtain ⟨v, hv, h⟩ := indexAddrT_ok (R := R) h
    exact ⟨v, by simp only [opA, ho, evalT_ok hp, hi, hv, Option.map_some], h⟩
  · rename_i t x f ho
    split at h
    · rename_i fields cs hu hx
      have hx : evalO (s.emb R) x = some (.agg (cs.map (TC.emb s.st))) := evalT_ok hx
      split at h
      · rename_i fd hf
        obtain ⟨v, hv, h⟩ := partT_ok s.st h
        exact ⟨_, by simp only [opA, ho, hu, hx, hf, hv, Option.map_some]; rfl, h⟩
      · exact h.elim
    · exact h.elim
  · rename_i t x y ho
    split at h
    · rename_i a ha
      have ha : evalO (s.emb R) x = some (a.emb s.st) := evalT_ok ha
      obtain ⟨k, i, hi, h⟩ := evalI_ok (R := R) h
      split at h
      · rename_i len e hu
        split at h
        · rename_i cs n hn _ _
          obtain ⟨g1, h⟩ := grd_iff.1 h
          obtain ⟨g2, h⟩ := grd_iff.1 h
          obtain ⟨v, hv, h⟩ := partT_ok s.st h
          refine ⟨_, ?_, h⟩
          simp only [opA, ho, ha, hi, hu, T1.emb, hn]
          rw [if_pos ⟨of_decide_eq_true g1, of_decide_eq_true g2⟩, hv]; rfl
        · exact h.elim
      · rename_i hu
        split at h
        · rename_i l _ _
          obtain ⟨g1, h⟩ := grd_iff.1 h
          obtain ⟨g2, h⟩ := grd_iff.1 h
          have g2 : i.toNat < l.length := of_decide_eq_true g2
          refine ⟨_, ?_, h⟩
          simp only [opA, ho, ha, hi, hu, T1.emb, TC.emb, AV.one]
          rw [if_pos (of_decide_eq_true g1), List.getElem?_eq_getElem g2]
          simp only [TV.emb, T1.emb, TC.emb, AV.one, W.u8, W.nth, W.toNat, List.getD_eq_getElem?_getD, List.getElem?_eq_getElem g2, Option.getD_some]
        · exact h.elim
      · exact h.elim
    · exact h.elim
  · rename_i t x lo hi ho
    obtain ⟨a, _, ha, h⟩ := eval1_ok (R := R) h
    obtain ⟨v, hv, h⟩ := sliceT_ok (R := R) h
    exact ⟨v, by simp only [opA, ho, ha, hv, Option.map_some], h⟩
  · rename_i op t x y q ho
    split at h
    · rename_i e hn hu
      have hy := isNilC_ok hn (s.emb R)
      split at h
      · obtain ⟨a, _, ha, h⟩ := eval1_ok (R := R) h
        obtain ⟨b, hb, h⟩ := nilK_ok (R := R) h
        refine ⟨_, ?_, h⟩
        simp only [opA, ho, ha, hy, binA, hu, isNilT, hb, Option.map_some]; rfl
      · obtain ⟨a, _, ha, h⟩ := eval1_ok (R := R) h
        obtain ⟨b, hb, h⟩ := nilK_ok (R := R) h
        refine ⟨_, ?_, h⟩
        simp only [opA, ho, ha, hy, binA, hu, isNilT, hb, Option.map_some]; rfl
      · exact h.elim
    split at h
    · rename_i xs hx
      split at h
      · rename_i ys hy
        have ha := evalT_ok (R := R) hx
        have hb := evalT_ok (R := R) hy
        obtain ⟨v, hv, h1, h⟩ := aggK_ok (s.emb R) s.st h
        refine ⟨_, ?_, h⟩
        show _ = some ((s.emb R).put o.dst v.one)
        rw [h1]
        simp only [opA, ho, ha, hb, TV.emb, T1.emb, hv, Option.map_some]
      · exact h.elim
    · obtain ⟨a, ha, h⟩ := evalA_ok (R := R) h
      obtain ⟨b, hb, h⟩ := evalA_ok (R := R) h
      obtain ⟨v, hv, h1, h⟩ := binK_ok (s.emb R) h
      refine ⟨_, ?_, h⟩
      show _ = some ((s.emb R).put o.dst v.one)
      rw [h1]
      simp only [opA, ho, ha, hb, hv, Option.map_some]
  · rename_i op t x ho
    obtain ⟨a, ha, h⟩ := evalA_ok (R := R) h
    obtain ⟨v, hv, h1, h⟩ := unK_ok h
    refine ⟨_, ?_, h⟩
    show _ = some ((s.emb R).put o.dst v.one)
    rw [h1]
    simp only [opA, ho, ha, hv, Option.map_some]
  · rename_i x i ho
    split at h
    · rename_i vs hx
      have hx : evalO (s.emb R) x = some (.tup (vs.map (T1.emb s.st))) := evalT_ok hx
      obtain ⟨v, hv, h⟩ := need_some h
      exact ⟨_, by simp only [opA, ho, hx, List.getElem?_map, hv, Option.map_some]; rfl, h⟩
    · exact h.elim
  · exact h.elim
theorem aveq_x {a : AV} {v : Value} (h : aveq a (.x v) = true) : a = .x v := by
  cases a with
  | x u =>
    have h : veq u v = true := h
    cases u <;> cases v <;> simp only [veq, Bool.and_eq_true, decide_eq_true_eq, beq_iff_eq, reduceCtorEq] at h
    all_goals first | (obtain ⟨h1, h2⟩ := h; subst h1; subst h2; rfl) | (subst h; rfl)
  | _ => cases h
theorem leq_rep {v : Value} : ∀ {cs : List AV} {n : Nat}, leq aveq cs (List.replicate n (.x v)) = true → cs = List.replicate n (.x v)
  | [], 0, h => rfl
  | [], n + 1, h => by cases h
  | a :: r, 0, h => by cases h
  | a :: r, n + 1, h => by
    simp only [List.replicate_succ, leq, Bool.and_eq_true] at h
    rw [aveq_x h.1, leq_rep h.2]; rfl
theorem allocT_ok {d : Option Nat} {e : TypeId} {z : AV} {v : Value} {K : TSt → Prop} (hv : constAV v = some z) (h : allocT P s d e z K) : ∃ s1, boxA P (s.emb R) d e z = some (s1.emb R) ∧ K s1 := by
  unfold allocT at h
  split at h
  · rename_i q hq
    split at h
    · rename_i k
      split at h
      · rename_i hk
        refine ⟨_, ?_, h⟩
        unfold rowsOf at hq
        split at hq
        · rename_i n el m hu hm
          split at hq
          · rename_i vt cs hvt
            split at hq
            · rename_i v hc
              split at hq
              · rename_i hcond
                obtain ⟨⟨h64, rfl⟩, hag, hl⟩ := hcond
                simp only [Option.some.injEq] at hq; subst hq
                have hcs := leq_rep hl
                subst hcs
                have he : vt.emb vt.dflt = .x v := by unfold VT.emb embOf; rw [hag, hc]; rfl
                have hall : (List.replicate m (AV.x v)).all AV.isCell = true := by
                  rw [List.all_eq_true]; intro c hc; rw [(List.mem_replicate.1 hc).2]; rfl
                have hkill : (List.replicate m (AV.x v)).map (AV.killCell k) = List.replicate m (AV.x v) := by
                  rw [List.map_replicate]; rfl
                simp only [boxA, hm, AV.cells, hkill]
                rw [if_pos ⟨⟨List.length_replicate, hall⟩, hk⟩, emb_put, emb_create]
                simp only [TOb.emb, W.rep, List.map_replicate, he]; rfl
              · cases hq
            · cases hq
          · cases hq
        · cases hq
      · exact h.elim
    · exact h.elim
  · split at h
    · rename_i x hx
      obtain ⟨s1, h1, h⟩ := boxT_ok (R := R) h
      refine ⟨s1, ?_, h⟩
      have := constT_emb hv s.st
      rw [hx] at this
      have this : x.emb s.st = z := this
      rw [this] at h1
      exact h1
    · exact h.elim
theorem opT_ok {o : Oper} {K : TSt → Prop} (h : opT P s o K) : ∃ s1, opA P (s.emb R) o = some (s1.emb R) ∧ K s1 := by
  unfold opT at h
  split at h
  · rename_i e ho
    split at h
    · rename_i z hz
      have : ∃ v, constAV v = some z := by
        unfold zeroT at hz
        cases hi : (P.info? e).bind (·.zero) with
        | none => rw [hi] at hz; cases hz
        | some v => rw [hi] at hz; exact ⟨v, hz⟩
      obtain ⟨v, hv⟩ := this
      obtain ⟨s1, h1, h⟩ := allocT_ok (R := R) hv h
      refine ⟨s1, ?_, h⟩
      simp only [opA, ho, hz]; exact h1
    · exact h.elim
  · rename_i e x ho
    obtain ⟨a, _, ha, h⟩ := eval1_ok (R := R) h
    obtain ⟨s1, h1, h⟩ := boxT_ok (R := R) h
    exact ⟨s1, by simp only [opA, ho, ha]; exact h1, h⟩
  · rename_i t ps ho
    obtain ⟨l, hl, h⟩ := partsT_ok (R := R) h
    obtain ⟨s1, h1, h⟩ := buildT_ok (R := R) h
    exact ⟨s1, by simp only [opA, ho, hl]; exact h1, h⟩
  · rename_i t len ps ho
    obtain ⟨l, hl, h⟩ := partsT_ok (R := R) h
    obtain ⟨s1, h1, h⟩ := buildSliceT_ok (R := R) h
    exact ⟨s1, by simp only [opA, ho, hl]; exact h1, h⟩
  · rename_i t lo co ho
    obtain ⟨k1, l, hl, h⟩ := evalI_ok (R := R) h
    obtain ⟨k2, c, hc, h⟩ := evalI_ok (R := R) h
    obtain ⟨s1, h1, h⟩ := makeT_ok (R := R) h
    exact ⟨s1, by simp only [opA, ho, hl, hc]; exact h1, h⟩
  · rename_i t x y ho
    obtain ⟨p, hp, h⟩ := need_some h
    obtain ⟨v, _, hv, h⟩ := eval1_ok (R := R) h
    obtain ⟨s1, h1, h⟩ := storeT_ok (R := R) h
    exact ⟨s1, by simp only [opA, ho, evalT_ok hp, hv]; exact h1, h⟩
  · rename_i src dst x ho
    obtain ⟨a, _, ha, h⟩ := eval1_ok (R := R) h
    obtain ⟨s1, h1, h⟩ := convertT_ok (R := R) h
    exact ⟨s1, by simp only [opA, ho, ha]; exact h1, h⟩
  · rename_i c ho
    split at h
    · rename_i b hb
      obtain ⟨as, has, h⟩ := evalOsT_ok (R := R) h
      obtain ⟨s1, h1, h⟩ := builtinT_ok (R := R) h
      exact ⟨s1, by simp only [opA, ho, hb, has]; exact h1, h⟩
    · exact h.elim
  · obtain ⟨v, hv, h⟩ := pureT_ok (R := R) h
    exact ⟨_, by rw [hv, emb_put], h⟩
def CtrOk (E : Env) (G : Ctr) : Prop := ∀ f args K, G f args K → (∀ a, a ∈ args → a.noH = true) → ∃ r : TV, E.Γ f (args.map (T1.emb [])) = some (r.emb []) ∧ r.outOk = true ∧ K r
theorem out1_emb {x : T1} (h : x.outOk = true) (S S' : TStore) : x.emb S = x.emb S' := by
  cases x with
  | c x => exact isVal_emb h S S'
  | agg cs =>
    simp only [T1.outOk, List.all_eq_true] at h
    simp only [T1.emb]
    congr 1
    exact List.map_congr_left fun c hc => isVal_emb (h c hc) S S'
  | own => rfl
theorem out1_shut {x : T1} (h : x.outOk = true) (S : TStore) : (x.emb S).shut1 = true := by
  cases x with
  | c x =>
    have hv := isVal_is h S
    show (x.emb S).shut1 = true
    cases hx : x.emb S <;> rw [hx] at hv <;> first | exact hv | simp [AV.isVal] at hv
  | agg cs =>
    simp only [T1.emb, AV.shut1]
    exact isVals_emb S h
  | own => rfl
theorem out_shut {r : TV} (h : r.outOk = true) (S : TStore) : (r.emb S).shut = true := by
  cases r with
  | o x =>
    have := out1_shut (S := S) h
    have hx : ∀ vs, x.emb S ≠ .tup vs := t1_simple x S
    show (x.emb S).shut = true
    cases hy : x.emb S <;> rw [hy] at this <;> first | exact this | exact absurd hy (hx _)
  | tup vs =>
    simp only [TV.outOk, List.all_eq_true] at h
    simp only [TV.emb, AV.shut, List.all_map, List.all_eq_true]
    exact fun c hc => out1_shut (h c hc) S
  | efz => cases h
theorem val_kill {x : AV} (h : x.isVal = true) (k : Nat) : x.killCell k = x := by
  cases x <;> first | rfl | simp [AV.isVal] at h
theorem tc_kill_val {c : TC} (h : c.isVal = true) (k : Nat) : c.kill k = c := by
  cases c with
  | a x => exact congrArg TC.a (val_kill h k)
  | sl => rfl
  | _ => cases h
theorem out1_kill {x : T1} (h : x.outOk = true) (k : Nat) : x.kill k = x := by
  cases x with
  | c x => exact congrArg T1.c (tc_kill_val h k)
  | agg cs =>
    simp only [T1.outOk, List.all_eq_true] at h
    simp only [T1.kill]
    congr 1
    have : cs.map (TC.kill k) = cs.map id := List.map_congr_left fun c hc => tc_kill_val (h c hc) k
    rw [this, List.map_id]
  | own => rfl
theorem out1_kills {x : T1} (h : x.outOk = true) : ∀ (n k : Nat), x.kills k n = x
  | 0, k => rfl
  | n + 1, k => by simp only [T1.kills, out1_kill h]; exact out1_kills h n (k + 1)
theorem out1_killA {x : T1} (h : x.outOk = true) (S : TStore) (k : Nat) : (x.emb S).kill1 k = x.emb S := by
  rw [← t1_kill (S := S) (S' := S) (fun j _ => rfl), out1_kill h]
theorem out1_killsA {x : T1} (h : x.outOk = true) (S : TStore) : ∀ (n k : Nat), AV.kills k n (x.emb S) = x.emb S
  | 0, k => rfl
  | n + 1, k => by simp only [AV.kills, out1_killA h]; exact out1_killsA h S n (k + 1)
theorem inOneT_ok {x : T1} (h : x.outOk = true) (k : Nat) : ((inOneT s k x).1.emb R, (inOneT s k x).2.emb (inOneT s k x).1.st) = inOne (s.emb R) k (x.emb []) := by
  cases x with
  | own e t xs =>
    cases hbx : Nat.beq e objE with
    | true =>
      simp only [T1.outOk, hbx, Bool.not_true, Bool.false_or, Bool.and_eq_true, beq_iff_eq] at h
      obtain ⟨ha, hl⟩ := h
      match xs, hl with
      | [x], _ =>
        simp only [inOneT, inOne, T1.emb, hbx, List.map_cons, List.map_nil, VT.emb, embOf, ha, emb_create, TOb.emb, tc_emb]
        rfl
    | false =>
    simp only [inOneT, inOne, T1.emb, emb_create, TOb.emb, List.length_map, hbx]
    congr 1
    simp [TC.emb, shapeT, TSt.create, lookT]
  | c x =>
    have hx := (tc_simple x []).2.2
    show (s.emb R, x.emb s.st) = inOne (s.emb R) k (x.emb [])
    rw [isVal_emb h s.st []]
    unfold inOne
    split
    · rename_i he; exact absurd he (hx _ _)
    · rfl
  | agg cs =>
    rw [show inOneT s k (.agg cs) = (s, .agg cs) from rfl]
    rw [out1_emb h s.st []]; rfl
theorem inAllT_ok {l : List T1} : ∀ (k : Nat), (∀ x, x ∈ l → x.outOk = true) → ((inAllT s k l).1.emb R, (inAllT s k l).2.map (T1.emb (inAllT s k l).1.st)) = inAll (s.emb R) k (l.map (T1.emb [])) := by
  induction l with
  | nil => intro k h; rfl
  | cons a r ih =>
    intro k h
    have ha := h a List.mem_cons_self
    have hr := ih (k + 1) fun x hx => h x (List.mem_cons_of_mem _ hx)
    simp only [inAllT, inAll, List.map_cons, List.length_map]
    rw [out1_kills ha, out1_killsA ha]
    rw [← hr]
    have h1 := inOneT_ok (R := R) (s := (inAllT s (k + 1) r).1) ha k
    rw [← h1]
    simp only [List.map_map]
    congr 2
    refine List.map_congr_left fun x hx => ?_
    simp only [Function.comp]
    cases a with
    | own e t xs =>
      cases hbx : Nat.beq e objE with
      | true =>
        match xs with
        | [] => simp only [inOneT, hbx]; exact t1_kill (fun _ _ => rfl) x
        | [y] => simp only [inOneT, hbx]; exact t1_kill (shape_create _ k _) x
        | _ :: _ :: _ => simp only [inOneT, hbx]; exact t1_kill (fun _ _ => rfl) x
      | false => simp only [inOneT, hbx]; exact t1_kill (shape_create _ k _) x
    | c y => exact t1_kill (fun _ _ => rfl) x
    | agg cs => exact t1_kill (fun _ _ => rfl) x
theorem bindT_ok {d : Option Nat} {r : TV} (h : r.outOk = true) : (bindT s d r).emb R = bindA (s.emb R) d (r.emb []) := by
  cases d with
  | none => rfl
  | some k =>
    cases r with
    | tup vs =>
      simp only [TV.outOk, List.all_eq_true] at h
      have := inAllT_ok (R := R) (s := s) (home k 0) h
      by_cases hk : home k 0 + vs.length ≤ 500000
      · simp only [bindT, bindA, TV.emb, List.length_map, if_pos hk, emb_put, ← this]
      · simp only [bindT, bindA, TV.emb, List.length_map, if_neg hk, emb_put]; rfl
    | o x =>
      have := inOneT_ok (R := R) (s := s) (x := x) h k
      have hx := t1_simple x []
      show (bindT s (some k) (.o x)).emb R = bindA (s.emb R) (some k) (x.emb [])
      by_cases hk : k < 500000
      case neg =>
        have hb : bindA (s.emb R) (some k) (x.emb []) = (s.emb R).put (some k) .dead := by
          cases hy : x.emb [] <;> first | exact absurd hy (hx _) | (simp only [bindA, if_neg hk])
        rw [hb]
        simp only [bindT, if_neg hk, emb_put]; rfl
      have ht : bindT s (some k) (.o x) = TSt.put (inOneT s k x).1 (some k) (.o (inOneT s k x).2) := by simp only [bindT, if_pos hk]
      rw [ht, emb_put]
      have hb : bindA (s.emb R) (some k) (x.emb []) = (inOne (s.emb R) k (x.emb [])).1.put (some k) (inOne (s.emb R) k (x.emb [])).2 := by
        cases hy : x.emb [] <;> first | exact absurd hy (hx _) | (simp only [bindA, if_pos hk])
      rw [hb, ← this]; rfl
    | efz => cases h
theorem hasSl1 {x : T1} (h : x.outOk = true) : (!(x.emb []).flat2) = x.hasSl := by
  cases x with
  | own e t xs =>
    simp only [T1.emb, AV.flat2, T1.hasSl, List.all_map]; rfl
  | agg cs => simp only [T1.emb, AV.flat2, AV.flat1, T1.hasSl, List.all_map]; rfl
  | c y =>
    have hy := tc_simple y []
    have hf : (y.emb []).flat2 = (y.emb []).flat0 := by
      cases he : y.emb [] <;> first | rfl | exact absurd he (hy.1 _) | exact absurd he (hy.2.2 _ _)
    show (!(y.emb []).flat2) = _
    rw [hf]
    cases y with
    | sl e t z => cases z <;> rfl
    | _ => rfl
theorem hasSl_emb {r : TV} (h : r.outOk = true) : (r.emb []).hasSl = r.hasSl := by
  cases r with
  | o x =>
    rw [show TV.hasSl (.o x) = x.hasSl from rfl, ← hasSl1 h]
    have hx : ∀ vs, x.emb [] ≠ .tup vs := t1_simple x []
    show (x.emb []).hasSl = _
    cases hy : x.emb [] <;> first | rfl | exact absurd hy (hx _)
  | tup vs =>
    simp only [TV.outOk, List.all_eq_true] at h
    simp only [TV.emb, AV.hasSl, TV.hasSl]
    induction vs with
    | nil => rfl
    | cons a r ih =>
      simp only [List.map_cons, List.all_cons, Bool.not_and, List.any_cons]
      rw [ih fun x hx => h x (List.mem_cons_of_mem _ hx), hasSl1 (h a List.mem_cons_self)]
  | efz => cases h
theorem plain_cells {t : VT} (h : t.plainT = true) (x : t.den) : (t.cells x).all AV.flat0 = true := by
  induction t with
  | pair a b ha hb =>
    simp only [VT.plainT, Bool.and_eq_true] at h
    simp only [VT.cells, List.all_append, ha h.1, hb h.2, Bool.and_self]
  | slc => cases h
  | _ => rfl
theorem plain_flat1 {t : VT} (h : t.plainT = true) (x : t.den) : (t.emb x).flat1 = true := by
  have := plain_cells h x
  unfold VT.emb embOf
  cases ha : t.isAgg with
  | true => exact this
  | false =>
    obtain ⟨c, hc, hv⟩ := cells_one ha x
    rw [hc] at this ⊢
    simp only [List.all_cons, List.all_nil, Bool.and_true] at this
    show c.flat1 = true
    cases c <;> first | exact this | simp [AV.isVal] at hv
theorem mayS1 {x : T1} (h : x.outOk = true) (hm : x.mayS = false) : x.hasSl = false := by
  cases x with
  | own e t xs =>
    simp only [T1.mayS, Bool.not_eq_false'] at hm
    simp only [T1.hasSl, Bool.not_eq_false', List.all_eq_true]
    exact fun y _ => plain_flat1 hm y
  | agg cs =>
    simp only [T1.mayS, List.any_eq_false] at hm
    simp only [T1.hasSl, Bool.not_eq_false', List.all_eq_true]
    intro c hc
    have := hm c hc
    simp only [T1.outOk, List.all_eq_true] at h
    have hv := h c hc
    cases c with
    | a x => simp only [TC.mayS, Bool.not_eq_true', Bool.not_eq_false] at this; simp only [TC.isVal] at hv; simp only [TC.emb, one_val hv]; simpa using this
    | sl => simp [TC.mayS] at this
    | _ => cases hv
  | c y =>
    cases y with
    | a x =>
      simp only [T1.mayS, TC.mayS, Bool.not_eq_false'] at hm
      simp only [T1.outOk, TC.isVal] at h
      simp only [T1.hasSl, TC.emb, one_val h, hm]; rfl
    | sl => cases hm
    | _ => cases h
theorem mayS_ok {r : TV} (h : r.outOk = true) (hm : r.mayS = false) : r.hasSl = false := by
  cases r with
  | o x => exact mayS1 h hm
  | tup vs =>
    simp only [TV.outOk, List.all_eq_true] at h
    simp only [TV.mayS, List.any_eq_false] at hm
    simp only [TV.hasSl, List.any_eq_false]
    intro x hx
    rw [mayS1 (h x hx) (by simpa using hm x hx)]; simp
  | efz => cases h
theorem resC_pin {c : TC} {K : TSt → TC → Prop} (hv : c.isVal = true) (h : resC s c K) : resC s c fun s1 d => s1 = s ∧ d = c ∧ K s1 d := by
  unfold resC at h ⊢
  split at h <;> first | exact ⟨rfl, rfl, h⟩ | cases hv | exact h.elim
theorem resC_mono {c : TC} {K K' : TSt → TC → Prop} (hk : ∀ s d, K s d → K' s d) (h : resC s c K) : resC s c K' := by
  unfold resC at h ⊢
  split at h <;> first | exact hk _ _ h | skip
  · split at h
    · exact hk _ _ h
    · exact h
  · split at h
    · exact grd_iff.2 ⟨(grd_iff.1 h).1, hk _ _ (grd_iff.1 h).2⟩
    · exact h
  · exact h
theorem resCs_mono {l : List TC} {K K' : TSt → List TC → Prop} (hk : ∀ s d, K s d → K' s d) (h : resCs s l K) : resCs s l K' := by
  induction l generalizing s K K' with
  | nil => exact hk _ _ h
  | cons c r ih => exact resC_mono (fun s1 d h => ih (fun s2 l h => hk _ _ h) h) h
theorem resT_mono {c : T1} {K K' : TSt → T1 → Prop} (hk : ∀ s d, K s d → K' s d) (h : resT s c K) : resT s c K' := by
  cases c with
  | c c => exact resC_mono (s := s) (c := c) (K := fun s1 d => K s1 (.c d)) (K' := fun s1 d => K' s1 (.c d)) (fun s1 d h => hk _ _ h) h
  | agg cs => exact resCs_mono (s := s) (l := cs) (K := fun s1 d => K s1 (.agg d)) (K' := fun s1 d => K' s1 (.agg d)) (fun s1 d h => hk _ _ h) h
  | own => exact h
theorem resAllT_mono {l : List T1} {K K' : TSt → List T1 → Prop} (hk : ∀ s d, K s d → K' s d) (h : resAllT s l K) : resAllT s l K' := by
  induction l generalizing s K K' with
  | nil => exact hk _ _ h
  | cons c r ih => exact resT_mono (fun s1 d h => ih (fun s2 l h => hk _ _ h) h) h
theorem resCs_pin {cs : List TC} {K : TSt → List TC → Prop} (hv : ∀ c, c ∈ cs → c.isVal = true) (h : resCs s cs K) : resCs s cs fun s1 d => s1 = s ∧ d = cs ∧ K s1 d := by
  induction cs generalizing K with
  | nil => exact ⟨rfl, rfl, h⟩
  | cons c r ih =>
    refine resC_mono (fun s1 d hh => ?_) (resC_pin (hv c List.mem_cons_self) h)
    obtain ⟨rfl, rfl, h'⟩ := hh
    exact resCs_mono (fun s2 l hh => ⟨hh.1, by rw [hh.2.1], hh.2.2⟩) (ih (fun c hc => hv c (List.mem_cons_of_mem _ hc)) h')
theorem resT_pin {c : T1} {K : TSt → T1 → Prop} (hv : c.noH = true) (h : resT s c K) : resT s c fun s1 d => s1 = s ∧ d = c ∧ K s1 d := by
  cases c with
  | c c => exact resC_mono (s := s) (c := c) (K' := fun s1 d => s1 = s ∧ (T1.c d) = .c c ∧ K s1 (.c d)) (fun s1 d hh => ⟨hh.1, by rw [hh.2.1], hh.2.2⟩) (resC_pin (K := fun s1 d => K s1 (.c d)) hv h)
  | agg cs => exact resCs_mono (s := s) (l := cs) (K' := fun s1 d => s1 = s ∧ (T1.agg d) = .agg cs ∧ K s1 (.agg d)) (fun s1 d hh => ⟨hh.1, by rw [hh.2.1], hh.2.2⟩) (resCs_pin (K := fun s1 d => K s1 (.agg d)) (List.all_eq_true.1 hv) h)
  | own => exact h.elim
theorem resAllT_pin {cs : List T1} {K : TSt → List T1 → Prop} (hv : ∀ c, c ∈ cs → c.noH = true) (h : resAllT s cs K) : resAllT s cs fun s1 d => s1 = s ∧ d = cs ∧ K s1 d := by
  induction cs generalizing K with
  | nil => exact ⟨rfl, rfl, h⟩
  | cons c r ih =>
    refine resT_mono (fun s1 d hh => ?_) (resT_pin (hv c List.mem_cons_self) h)
    obtain ⟨rfl, rfl, h'⟩ := hh
    exact resAllT_mono (fun s2 l hh => ⟨hh.1, by rw [hh.2.1], hh.2.2⟩) (ih (fun c hc => hv c (List.mem_cons_of_mem _ hc)) h')
variable {E : Env} {G : Ctr} {rec : Rec}
theorem openT {lend : Nat → Bool} (hl : ∀ j, lend j = false) (S : TStore) : ∀ (l : List T1) (j : Nat), l.all T1.noRef = true → openA lend j (l.map (T1.emb S)) = false
  | [], j, h => rfl
  | a :: r, j, h => by
    simp only [List.all_cons, Bool.and_eq_true] at h
    simp only [List.map_cons, openA, openT hl S r (j + 1) h.2, Bool.or_false]
    split
    · exact hl j
    · rename_i i k off he
      exfalso
      cases a with
      | c c =>
        cases c with
        | a x =>
          have he : x.one = .ref i k off := he
          cases x <;> simp only [AV.one] at he <;> first | (cases he; done) | (exact absurd h.1 (by simp [T1.noRef]))
        | sl e t x => cases x <;> cases he
        | h m => simp only [T1.emb, TC.emb] at he; split at he <;> cases he
        | eh m j off => simp only [T1.emb, TC.emb] at he; split at he <;> cases he
      | agg cs => cases he
      | own e t xs => cases he
    · rfl
def LendOk (E : Env) (D : Lends) : Prop := ∀ f L, D f = some L → ∀ (s : TSt) (args : List T1) (K : TSt → TV → Prop), L s args K → ∃ (s1 : TSt) (r : TV), r.outOk = true ∧ K s1 r ∧ ∀ R : List Store, openA (E.lend f) 0 (args.map (T1.emb s.st)) = true ∧
  ∃ as, lendAll (s.emb R) (args.map (T1.emb s.st)) = some (s.emb R, as) ∧ E.Γ f as = none ∧ E.Δ f as (s.emb R).stores = some ((s1.emb R).stores, r.emb []) ∧ (s1.emb R).slots = (s.emb R).slots
theorem callT_ok {D : Lends} (hl : ∀ f, D f = none → ∀ j, E.lend f j = false) (hG : CtrOk E G) (hD : LendOk E D) {d : Option Nat} {f : FuncId} {args : List T1} {K : TSt → Prop} (h : callT G D s d f args K) : ∃ s1, callOpA P E rec (s.emb R) d f (args.map (T1.emb s.st)) = some (s1.emb R) ∧ K s1 := by
  unfold callT at h
  split at h
  · rename_i L hL
    obtain ⟨s1, r, ho, hK, hR⟩ := hD f L hL s args _ h
    obtain ⟨q1, as, q2, q3, q4, q5⟩ := hR R
    refine ⟨_, ?_, hK⟩
    unfold callOpA
    rw [if_pos q1, q2]
    simp only [callA, q3, q4]
    show some (bindA _ d (r.emb [])) = _
    rw [bindT_ok ho, ← q5]
    rfl
  rename_i hnone
  have hl := hl f hnone
  split at h
  · rename_i hr
    unfold callOpA
    rw [openT hl s.st args 0 hr, if_neg (by simp)]
    split at h
    · rename_i hn
      have hn := List.all_eq_true.1 hn
      obtain ⟨s1, ds, h1, hds, hal, rfl, rfl, h'⟩ := resAllT_ok (R := R) (resAllT_pin hn h)
      obtain ⟨r, hg, ho, h'⟩ := hG _ _ _ h' hds
      refine ⟨_, ?_, h'⟩
      simp only [h1, callA, hg, out_shut ho, if_true]
      rw [bindT_ok ho]
      split <;> rfl
    · obtain ⟨s1, ds, h1, hds, hal, h⟩ := resAllT_ok (R := R) h
      obtain ⟨r, hg, ho, h⟩ := hG _ _ _ h hds
      have hs := hasSl_emb ho
      split at h
      · rename_i hm
        refine ⟨_, ?_, h⟩
        simp only [h1, callA, hg, out_shut ho, if_true]
        rw [hs, mayS_ok ho hm, bindT_ok ho]; rfl
      · rcases brc_cases h with ⟨hb, h⟩ | ⟨hb, h⟩
        · refine ⟨_, ?_, h⟩
          simp only [h1, callA, hg, out_shut ho, if_true]
          rw [hs, hb, bindT_ok ho]; rfl
        · refine ⟨_, ?_, h⟩
          simp only [h1, callA, hg, out_shut ho, if_true]
          rw [hs, hb, bindT_ok ho]; rfl
  · exact h.elim
theorem calleeT_ok {c : Callee} {f : FuncId} (h : calleeT s c = some f) : calleeA (s.emb R) c = some f := by
  unfold calleeT at h
  unfold calleeA
  split at h
  · exact h
  · rename_i t
    simp only
    split at h
    · rename_i x hx
      rw [emb_get, hx]
      unfold funcOf at h
      split at h
      · exact h
      · cases h
    · cases h
  · cases h
theorem stepOpT_ok {D : Lends} (hl : ∀ f, D f = none → ∀ j, E.lend f j = false) (hG : CtrOk E G) (hD : LendOk E D) {o : Oper} {K : TSt → Prop} (h : stepOpT P G D s o K) : ∃ s1, stepOp P E rec (s.emb R) o = some (s1.emb R) ∧ K s1 := by
  unfold stepOpT at h
  unfold stepOp
  split at h
  · rename_i c ho
    split at h
    · rename_i f hc
      obtain ⟨as, has, h⟩ := evalOsT_ok (R := R) h
      obtain ⟨s1, h1, h⟩ := callT_ok (R := R) (rec := rec) (P := P) hl hG hD h
      exact ⟨s1, by simp only [ho, calleeT_ok hc, has]; exact h1, h⟩
    · rename_i hno
      have hb : calleeA (s.emb R) c.callee = none := by
        unfold opT at h
        rw [ho] at h
        simp only at h
        split at h
        · rename_i b hb; rw [hb]; rfl
        · exact h.elim
      obtain ⟨s1, h1, h⟩ := opT_ok (R := R) h
      refine ⟨s1, ?_, h⟩
      rw [ho]
      simp only [hb]
      exact h1
  · rename_i hno
    obtain ⟨s1, h1, h⟩ := opT_ok (R := R) h
    refine ⟨s1, ?_, h⟩
    split
    · rename_i c ho; exact absurd ho (hno c)
    · exact h1
theorem unown1 {x : T1} (h : x.outOk = true) (S : TStore) : (x.unown).emb S = (x.emb []).unown := by
  cases x with
  | own e t xs =>
    cases hbx : Nat.beq e objE with
    | true => simp only [T1.unown, T1.emb, AV.unown, hbx]; rfl
    | false =>
    have : (T1.emb [] (.own e t xs)).unown = .sl e (xs.map t.emb) := by simp only [T1.emb, AV.unown, hbx]
    have hu : T1.unown (.own e t xs) = .c (.sl e t (.mk xs)) := by simp only [T1.unown, hbx]
    rw [this, hu]; rfl
  | agg cs => rw [show T1.unown (.agg cs) = .agg cs from rfl, out1_emb h S []]; rfl
  | c c =>
    rw [show T1.unown (.c c) = .c c from rfl, out1_emb h S []]
    have := (tc_simple c []).2.2
    show c.emb [] = (c.emb []).unown
    cases hc : c.emb [] <;> first | rfl | exact absurd hc (this _ _)
theorem unowns_ok {r : TV} (h : r.outOk = true) (S : TStore) : (r.unowns).emb S = (r.emb []).unowns := by
  cases r with
  | o x =>
    have hx := t1_simple x []
    show (x.unown).emb S = (x.emb []).unowns
    rw [unown1 h]
    cases hy : x.emb [] <;> first | rfl | exact absurd hy (hx _)
  | tup vs =>
    simp only [TV.outOk, List.all_eq_true] at h
    simp only [TV.unowns, TV.emb, AV.unowns, List.map_map]
    congr 1
    exact List.map_congr_left fun c hc => unown1 (h c hc) S
  | efz => cases h
theorem quietT_ok (hG : CtrOk E G) {o : Oper} {K : TSt → Prop} (h : quietT P G s o K) : ∃ s1, quietA P E rec (s.emb R) o = some (s1.emb R) ∧ K s1 := by
  unfold quietT at h
  unfold quietA
  split at h
  · rename_i c ho
    rw [ho]
    simp only
    split at h
    · rename_i f hc
      obtain ⟨as, has, h⟩ := evalOsT_ok (R := R) h
      obtain ⟨s1, ds, h1, hds, hal, h⟩ := resAllT_ok (R := R) h
      obtain ⟨r, hg, ho', h⟩ := hG _ _ _ h hds
      have hs := hasSl_emb ho'
      have fin : ((r.emb []).hasSl = false ∨ (as.map (T1.emb s.st)).all AV.isVal = true) → K (s.put o.dst r.unowns) → ∃ s1_1, (match calleeA (s.emb R) c.callee with
          | some f => match evalOs (s.emb R) c.args.toList with
            | some as => match resolveAll (s.emb R) as with
              | some (_, bs) => match callA P E rec f bs [] with
                | some (_, r) => if r.shut ∧ (r.hasSl = false ∨ as.all AV.isVal = true) then some ((s.emb R).put o.dst r.unowns) else none
                | none => none
              | none => (readA P E rec f as (s.emb R).stores).map fun r => (s.emb R).put o.dst r
            | none => none
          | none => (match c.callee with
            | .builtin .len | .builtin .min | .builtin .max | .builtin .real | .builtin .imag | .builtin .complex => opA P (s.emb R) o
            | _ => none)) = some (TSt.emb R s1_1) ∧ K s1_1 := by
        intro hc' hk
        refine ⟨_, ?_, hk⟩
        simp only [calleeT_ok hc, has, h1, callA, hg]
        rw [if_pos ⟨out_shut ho' [], hc'⟩, emb_put, unowns_ok ho']
      split at h
      · rename_i hv
        refine fin (.inr ?_) h
        rw [List.all_map, List.all_eq_true]
        intro x hx
        have := List.all_eq_true.1 hv x hx
        cases x with
        | c y => exact isVal_is this _
        | _ => cases this
      · split at h
        · rename_i hm
          exact fin (.inl (by rw [hs]; exact mayS_ok ho' hm)) h
        · obtain ⟨hb, h⟩ := grd_iff.1 h
          exact fin (.inl (by rw [hs]; simpa using hb)) h
    split at h
    all_goals first
      | (rename_i hc
         obtain ⟨s1, h1, h⟩ := opT_ok (R := R) h
         exact ⟨s1, by rw [hc]; exact h1, h⟩)
      | exact h.elim
  · rename_i src dst x ho
    rw [ho]
    simp only
    obtain ⟨a, _, ha, h⟩ := eval1_ok (R := R) h
    obtain ⟨v, hv, h⟩ := convK_ok (R := R) h
    exact ⟨_, by simp only [ha, hv, Option.map_some, emb_put], h⟩
  · rename_i t ps ho
    obtain ⟨s1, h1, h⟩ := opT_ok (R := R) h
    exact ⟨s1, by rw [ho]; exact h1, h⟩
  · have h0 := h
    obtain ⟨v, hv, h⟩ := pureT_ok (R := R) (o := o) h
    refine ⟨_, ?_, h⟩
    rw [emb_put, ← hv]
    clear hv h
    revert h0
    cases ho : o.op <;> intro h0 <;> first | rfl | exact (show False from h0).elim
theorem drawT_ok {D : Lends} (hl : ∀ f, D f = none → ∀ j, E.lend f j = false) (hG : CtrOk E G) (hD : LendOk E D) {o : Oper} {K : TSt → Prop} (h : drawT P G D E.solo s o K) : ∃ s1, drawOp P E rec (s.emb R) o = some (s1.emb R) ∧ K s1 := by
  unfold drawT at h
  unfold drawOp
  split at h
  · rename_i hs
    rw [if_pos hs]
    exact stepOpT_ok hl hG hD h
  · rename_i hs
    rw [if_neg (by simp [hs])]
    exact quietT_ok hG h
theorem guardT_ok {ops : Array Oper} {g : Option (Nat × Bool)} {K : Bool → TSt → Prop} (h : guardT ops s g K) : ∃ b s1, guardA ops (s.emb R) g = some b ∧ s1.emb R = s.emb R ∧ K b s1 := by
  unfold guardT at h
  unfold guardA
  split at h
  · exact ⟨_, _, rfl, rfl, h⟩
  · rename_i j want
    split at h
    · rename_i t ht
      simp only [ht]
      split at h
      · rename_i b hb
        have hg : (s.emb R).get t = .x (.bool b) := by rw [emb_get, hb]; rfl
        have hself : ∀ c, b = c → (s.put (some t) (TV.bool c)).emb R = s.emb R := by
          intro c hc; subst hc
          rw [emb_put]
          show St.put (s.emb R) (some t) (.x (.bool b)) = s.emb R
          rw [← hg]
          simp only [St.put, St.get]
          congr 1
          have hlt : t < (s.emb R).slots.length := by
            rcases Nat.lt_or_ge t (s.emb R).slots.length with h' | h'
            · exact h'
            · simp only [St.get, List.getD_eq_getElem?_getD, List.getElem?_eq_none h', Option.getD_none] at hg; cases hg
          rw [List.getD_eq_getElem?_getD, List.getElem?_eq_getElem hlt, Option.getD_some, List.set_getElem_self]
          rfl
        simp only [hg]
        rcases brc_cases h with ⟨rfl, h'⟩ | ⟨rfl, h'⟩
        · exact ⟨_, _, rfl, hself true rfl, h'⟩
        · exact ⟨_, _, rfl, hself false rfl, h'⟩
      · rename_i hb
        have hg : (s.emb R).get t = .und := by rw [emb_get, hb]; rfl
        simp only [hg]
        exact ⟨_, _, rfl, rfl, h⟩
      · exact h.elim
    · exact h.elim
theorem opsT_ok {st : TSt → Oper → (TSt → Prop) → Prop} {stA : Oper → St → Option St} (hst : ∀ s o K, st s o K → ∃ s1, stA o (s.emb R) = some (s1.emb R) ∧ K s1) {ops : Array Oper} : ∀ (l : List Nat) (s : TSt) (K : TSt → Prop), opsT st ops l s K → ∃ s1, opsA stA ops l (s.emb R) = some (s1.emb R) ∧ K s1 := by
  intro l
  induction l with
  | nil => intro s K h; exact ⟨s, rfl, h⟩
  | cons i r ih =>
    intro s K h
    simp only [opsT] at h
    simp only [opsA]
    split at h
    · rename_i hi
      simp only [hi]
      exact ih s K h
    · rename_i o hi
      simp only [hi]
      obtain ⟨b, s1, hg, he, h⟩ := guardT_ok (R := R) h
      rw [hg]
      split at h
      · simp only
        obtain ⟨s2, h2, h⟩ := hst _ _ _ h
        rw [← he, h2]
        exact ih s2 K h
      · simp only
        have := ih _ K h
        rw [emb_put, he] at this
        exact this
end
end Go.AbsM

/-! ## AbtSem -/
namespace Go.AbsM
section
variable {P : Program} {E : Env} {w : World} {g : Gh} {may : Nat → Prop}
def AV.at : AV → Option (Nat × Nat)
  | .arr i k .. => some (i, k)
  | .ref i k _ => some (i, k)
  | .ear i k .. => some (i, k)
  | _ => none
theorem CRep.weak {S1 S2 : List Store} {a : AV} {v : Value} (h : CRep P w g S1 a v) (hk : ∀ i k, a.at = some (i, k) → getOb S2 i k = getOb S1 i k) : CRep P w g S2 a v := by
  cases a with
  | arr i k e lo n tot =>
    obtain ⟨fz, xs, h1, h2⟩ := h
    exact ⟨fz, xs, by rw [hk i k rfl]; exact h1, h2⟩
  | ref i k off => exact ⟨by rw [hk i k rfl]; exact h.1, h.2⟩
  | ear i k e tot j off =>
    obtain ⟨fz, xs, h1, h2⟩ := h
    exact ⟨fz, xs, by rw [hk i k rfl]; exact h1, h2⟩
  | _ => exact h
theorem lookT_pick (S : TStore) (ks : List Nat) (k : Nat) : lookT (pickT S ks) k = if k ∈ ks then lookT S k else none := by
  induction ks with
  | nil => rfl
  | cons j r ih =>
    simp only [pickT]
    cases hj : lookT S j with
    | none =>
      simp only [ih]
      by_cases hk : k = j
      · subst hk; simp [hj]
      · simp [hk]
    | some o =>
      simp only [lookT, ih]
      by_cases hk : j = k
      · subst hk; simp [hj]
      · simp [hk, Ne.symm hk]
theorem ok_look {S : TStore} {ks : List Nat} {k : Nat} (h : (lookT (pickT S ks) k).isSome = true) : lookT (pickT S ks) k = lookT S k := by
  rw [lookT_pick] at h ⊢
  split
  · rfl
  · rename_i hk; rw [if_neg hk] at h; cases h
theorem ok_shape {S : TStore} {ks : List Nat} {k : Nat} (h : (lookT (pickT S ks) k).isSome = true) : shapeT (pickT S ks) k = shapeT S k := by
  simp only [shapeT, ok_look h]
theorem okc {S : TStore} {ks : List Nat} {c : TC} (h : c.okIn (pickT S ks) = true) : c.emb (pickT S ks) = c.emb S ∧ ∀ i k, (c.emb S).at = some (i, k) → i = 0 ∧ (lookT (pickT S ks) k).isSome = true := by
  cases c with
  | h j =>
    simp only [TC.okIn] at h
    refine ⟨by simp only [TC.emb, ok_shape h], fun i k hk => ?_⟩
    simp only [TC.emb] at hk
    split at hk
    · simp only [AV.at, Option.some.injEq, Prod.mk.injEq] at hk
      obtain ⟨rfl, rfl⟩ := hk; exact ⟨rfl, h⟩
    · cases hk
  | eh j m off =>
    simp only [TC.okIn] at h
    refine ⟨by simp only [TC.emb, ok_shape h], fun i k hk => ?_⟩
    simp only [TC.emb] at hk
    split at hk
    · simp only [AV.at, Option.some.injEq, Prod.mk.injEq] at hk
      obtain ⟨rfl, rfl⟩ := hk; exact ⟨rfl, h⟩
    · cases hk
  | sl e t x => exact ⟨rfl, fun i k hk => by cases x <;> cases hk⟩
  | a x =>
    refine ⟨rfl, fun i k hk => ?_⟩
    cases x with
    | arr i' k' e lo n tot =>
      simp only [TC.emb, AV.one, AV.at, Option.some.injEq, Prod.mk.injEq] at hk
      obtain ⟨rfl, rfl⟩ := hk
      cases i' with
      | zero => exact ⟨rfl, h⟩
      | succ i => cases h
    | ref i' k' off =>
      simp only [TC.emb, AV.one, AV.at, Option.some.injEq, Prod.mk.injEq] at hk
      obtain ⟨rfl, rfl⟩ := hk
      cases i' with
      | zero => exact ⟨rfl, h⟩
      | succ i => cases h
    | ear i' k' e tot j off =>
      simp only [TC.emb, AV.one, AV.at, Option.some.injEq, Prod.mk.injEq] at hk
      obtain ⟨rfl, rfl⟩ := hk
      cases i' with
      | zero => exact ⟨rfl, h⟩
      | succ i => cases h
    | _ => cases hk
def St2 (S : TStore) (R : List Store) : List Store := embStore S :: R
theorem getOb_st2 (S : TStore) (R : List Store) (k : Nat) : getOb (St2 S R) 0 k = (lookT S k).map (TOb.emb S) := look_embAux S S k
theorem okob {S : TStore} {ks : List Nat} (hst : (pickT S ks).all (fun p => p.2.okIn (pickT S ks)) = true) {k : Nat} {o : TOb} (h : lookT (pickT S ks) k = some o) : o.emb (pickT S ks) = o.emb S ∧ o.okIn (pickT S ks) = true := by
  have hmem : ∀ (l : TStore), lookT l k = some o → ∃ j, (j, o) ∈ l := by
    intro l
    induction l with
    | nil => intro h; cases h
    | cons p r ih =>
      obtain ⟨j, q⟩ := p
      intro h
      simp only [lookT] at h
      split at h
      · simp only [Option.some.injEq] at h; subst h; exact ⟨j, List.mem_cons_self⟩
      · obtain ⟨m, hm⟩ := ih h; exact ⟨m, List.mem_cons_of_mem _ hm⟩
  obtain ⟨j, hj⟩ := hmem _ h
  have hok := List.all_eq_true.1 hst _ hj
  refine ⟨?_, hok⟩
  cases o with
  | arr => rfl
  | hb => rfl
  | box cs =>
    simp only [TOb.emb]
    congr 1
    exact List.map_congr_left fun c hc => (okc (List.all_eq_true.1 hok c hc)).1
theorem look_weak {S : TStore} {R : List Store} {ks : List Nat} (hst : (pickT S ks).all (fun p => p.2.okIn (pickT S ks)) = true) {i k : Nat} {o : Ob} (h : getOb (St2 (pickT S ks) R) i k = some o) : getOb (St2 S R) i k = some o := by
  cases i with
  | succ i => exact h
  | zero =>
    rw [getOb_st2] at h ⊢
    cases hl : lookT (pickT S ks) k with
    | none => rw [hl] at h; cases h
    | some q =>
      have h1 := ok_look (S := S) (ks := ks) (k := k) (by rw [hl]; rfl)
      rw [← h1, hl, Option.map_some, ← (okob hst hl).1, ← Option.map_some, ← hl]; exact h
theorem at_weak {S : TStore} {R : List Store} {ks : List Nat} (hst : (pickT S ks).all (fun p => p.2.okIn (pickT S ks)) = true) {c : TC} (h : c.okIn (pickT S ks) = true) (i k : Nat) (hk : (c.emb S).at = some (i, k)) : getOb (St2 (pickT S ks) R) i k = getOb (St2 S R) i k := by
  obtain ⟨rfl, hs⟩ := (okc h).2 i k hk
  rw [getOb_st2, getOb_st2, ← ok_look hs]
  cases hl : lookT (pickT S ks) k with
  | none => rfl
  | some o => simp only [Option.map_some, (okob hst hl).1]
theorem at_shift (c : AV) (n i k : Nat) (h : (c.shift n).at = some (i, k)) : n ≤ i ∧ c.at = some (i - n, k) := by
  cases c <;> simp only [AV.shift, AV.at, Option.some.injEq, Prod.mk.injEq] at h <;> first | (obtain ⟨rfl, rfl⟩ := h; exact ⟨by omega, by simp [AV.at]⟩) | cases h
theorem emb_at (t : VT) (x : t.den) : (t.emb x).at = none := by
  rcases emb_val t x with h | ⟨cs, h⟩
  · cases hy : t.emb x <;> rw [hy] at h <;> first | rfl | cases h
  · rw [h]; rfl
theorem SInv.weak {S : TStore} {R : List Store} {ks : List Nat} (hst : (pickT S ks).all (fun p => p.2.okIn (pickT S ks)) = true) (h : SInv P w g may (St2 S R)) : SInv P w g may (St2 (pickT S ks) R) := by
  refine ⟨fun i k cs hg => ?_, fun i k e xs hg => h.arr i k e xs (look_weak hst hg), fun i k e xs hg => h.fz i k e xs (look_weak hst hg), fun i k o i' k' o' hg hg' => h.inj i k o i' k' o' (look_weak hst hg) (look_weak hst hg'), h.mlt⟩
  obtain ⟨h1, h2, vs, t, h3, h4, h5⟩ := h.box i k cs (look_weak hst hg)
  refine ⟨h1, h2, vs, t, h3, h4, fun j c u hc hu => ⟨(h5 j c u hc hu).1.weak fun i' k' hat => ?_, (h5 j c u hc hu).2⟩⟩
  cases i with
  | succ i =>
    have := (at_shift c (i + 1) i' k' hat).1
    cases i' with
    | zero => omega
    | succ i' => rfl
  | zero =>
    rw [getOb_st2] at hg
    cases hl : lookT (pickT S ks) k with
    | none => rw [hl] at hg; cases hg
    | some q =>
      rw [hl] at hg
      cases q with
      | arr => cases hg
      | hb vt xs =>
        simp only [Option.map_some, TOb.emb, Option.some.injEq, Ob.box.injEq] at hg
        subst hg
        obtain ⟨y, _, rfl⟩ := List.mem_map.1 (List.mem_of_getElem? hc)
        have := (at_shift _ 0 i' k' hat).2
        rw [emb_at] at this; cases this
      | box tcs =>
        simp only [Option.map_some, TOb.emb, Option.some.injEq, Ob.box.injEq] at hg
        subst hg
        have hok := (okob hst hl).2
        simp only [List.getElem?_map, Option.map_eq_some_iff] at hc
        obtain ⟨tc, htc, rfl⟩ := hc
        have htok := List.all_eq_true.1 hok tc (List.mem_of_getElem? htc)
        rw [(okc htok).1] at hat
        have := (at_shift _ 0 i' k' hat).2
        exact at_weak hst htok i' k' (by simpa using this)
theorem hrep1_weak {S : TStore} {R : List Store} {ks : List Nat} (hst : (pickT S ks).all (fun p => p.2.okIn (pickT S ks)) = true) {x : T1} (hx : x.okIn (pickT S ks) = true) {v : Value} (h : HRep1 P w g (St2 S R) (x.emb S) v) : HRep1 P w g (St2 (pickT S ks) R) (x.emb (pickT S ks)) v := by
  cases x with
  | c c =>
    have hs := tc_simple c S
    have e : (T1.c c).emb (pickT S ks) = (T1.c c).emb S := (okc hx).1
    rw [e]
    have h' : CRep P w g (St2 S R) (c.emb S) v := by
      have h : HRep1 P w g (St2 S R) (c.emb S) v := h
      cases hy : c.emb S <;> rw [hy] at h <;> first | exact h | exact absurd hy (hs.1 _)
    have h2 : CRep P w g (St2 (pickT S ks) R) (c.emb S) v := h'.weak fun i k hk => at_weak hst hx i k hk
    show HRep1 P w g (St2 (pickT S ks) R) (c.emb S) v
    cases hy : c.emb S <;> rw [hy] at h2 <;> first | exact h2 | exact absurd hy (hs.1 _)
  | agg cs =>
    have hx := List.all_eq_true.1 hx
    obtain ⟨vs, rfl, hl, hc⟩ := h
    have e : (T1.agg cs).emb (pickT S ks) = (T1.agg cs).emb S := by
      simp only [T1.emb]; congr 1
      exact List.map_congr_left fun c hc => (okc (hx c hc)).1
    rw [e]
    refine ⟨vs, rfl, hl, fun i c u hc' hu => ?_⟩
    obtain ⟨q1, q2⟩ := hc i c u hc' hu
    refine ⟨q1.weak fun i' k' hk => ?_, q2⟩
    simp only [List.getElem?_map, Option.map_eq_some_iff] at hc'
    obtain ⟨tc, htc, rfl⟩ := hc'
    exact at_weak hst (hx tc (List.mem_of_getElem? htc)) i' k' hk
  | own => cases hx
theorem hrep_weak {S : TStore} {R : List Store} {ks : List Nat} (hst : (pickT S ks).all (fun p => p.2.okIn (pickT S ks)) = true) {x : TV} (hx : x.okIn (pickT S ks) = true) {v : Value} (h : HRep P w g (St2 S R) (x.emb S) v) : HRep P w g (St2 (pickT S ks) R) (x.emb (pickT S ks)) v := by
  cases x with
  | o x =>
    have hs := t1_simple x S
    have hs2 := t1_simple x (pickT S ks)
    have h' : HRep1 P w g (St2 S R) (x.emb S) v := by
      have h : HRep P w g (St2 S R) (x.emb S) v := h
      cases hy : x.emb S <;> rw [hy] at h <;> first | exact h | exact absurd hy (hs _)
    have h2 := hrep1_weak hst hx h'
    show HRep P w g (St2 (pickT S ks) R) (x.emb (pickT S ks)) v
    cases hy : x.emb (pickT S ks) <;> rw [hy] at h2 <;> first | exact h2 | exact absurd hy (hs2 _)
  | tup xs =>
    have hx := List.all_eq_true.1 hx
    obtain ⟨vs, rfl, hl, hc⟩ := h
    refine ⟨vs, rfl, by simpa using hl, fun i c u hc' hu => ?_⟩
    simp only [List.getElem?_map, Option.map_eq_some_iff] at hc'
    obtain ⟨y, hy, rfl⟩ := hc'
    exact hrep1_weak hst (hx y (List.mem_of_getElem? hy)) (hc i (y.emb S) u (by rw [List.getElem?_map, hy]; rfl) hu)
  | efz t x off => exact h
theorem findSlot_map (ls : List Nat) (f : Nat → TV) (t : Nat) : findSlot (ls.map fun t => (t, f t)) t = if t ∈ ls then f t else .a .dead := by
  induction ls with
  | nil => rfl
  | cons j r ih =>
    simp only [List.map_cons, findSlot, ih]
    by_cases h : j = t
    · subst h; simp
    · simp [h, Ne.symm h]
def Wk (P : Program) (s s2 : TSt) : Prop := (∀ (R : List Store) (may : Nat → Prop) (a : Act) (w : World) (g : Gh), Sim P may (s.emb R) a w g → Sim P may (s2.emb R) a w g) ∧ ∀ k, 500000 ≤ k → (lookT s2.st k).map (TOb.emb s2.st) = (lookT s.st k).map (TOb.emb s.st)
theorem lookT_mem {S : TStore} {k : Nat} {o : TOb} (h : lookT S k = some o) : (k, o) ∈ S := by
  induction S with
  | nil => cases h
  | cons p r ih =>
    obtain ⟨j, q⟩ := p
    simp only [lookT] at h
    split at h
    · rename_i he
      simp only [Option.some.injEq] at h; subst h; subst he; exact List.mem_cons_self
    · exact List.mem_cons_of_mem _ (ih h)
theorem cleanT_ok {n : Nat} {ls ks : List Nat} {s : TSt} {K : TSt → Prop} (h : cleanT n ls ks s K) :
    ∃ s2, K s2 ∧ Wk P s s2 := by
  unfold cleanT at h
  simp only at h
  split at h
  · rename_i hc
    obtain ⟨hn, hsl, hst, hkp⟩ := hc
    refine ⟨_, h, fun R may a w g hs => ?_, fun k hk => ?_⟩
    case refine_2 =>
      show (lookT (pickT s.st ks) k).map _ = _
      cases hl : lookT s.st k with
      | none =>
        rw [lookT_pick, hl]
        split <;> rfl
      | some o =>
        have hm := List.all_eq_true.1 hkp _ (lookT_mem hl)
        simp only [Bool.or_eq_true] at hm
        have hin : k ∈ ks := by
          rcases hm with hm | hm
          · have : Nat.blt k 500000 = true := hm
            have := Nat.le_of_ble_eq_true this
            omega
          · simpa using hm
        have h1 : lookT (pickT s.st ks) k = some o := by rw [lookT_pick, if_pos hin, hl]
        rw [h1]
        simp only [Option.map_some, Option.some.injEq]
        exact (okob hst h1).1
    refine ⟨SInv.weak hst hs.inv, ?_, fun t x hx => ?_, hs.defers, by simp [TSt.emb]⟩
    · rw [hs.len]; simp [TSt.emb, mkS, hn]
    · simp only [TSt.emb, mkS, List.map_map, List.getElem?_map, Option.map_eq_some_iff] at hx
      obtain ⟨t', ht, rfl⟩ := hx
      have htt : t' = t ∧ t < n := by
        have := List.getElem?_eq_some_iff.1 ht
        obtain ⟨hlt, he⟩ := this
        simp at hlt he
        exact ⟨he.symm, hlt⟩
      obtain ⟨rfl, hlt⟩ := htt
      simp only [Function.comp, findSlot_map]
      split
      · rename_i hm
        have hok := List.all_eq_true.1 hsl _ (List.mem_map.2 ⟨t', hm, rfl⟩)
        have := hs.get t'
        rw [emb_get] at this
        exact hrep_weak hst hok this
      · trivial
  · exact h.elim
theorem Wk.look {s s2 : TSt} (h : Wk P s s2) (R : List Store) {i k : Nat} (hi : 1 ≤ i ∨ 500000 ≤ k) : getOb (s2.emb R).stores i k = getOb (s.emb R).stores i k := by
  cases i with
  | succ i => rfl
  | zero =>
    show getOb (St2 s2.st R) 0 k = getOb (St2 s.st R) 0 k
    rw [getOb_st2, getOb_st2]
    exact h.2 k (by omega)
theorem leaves_from {s s2 : TSt} {R : List Store} {s' : St} {a' : Act} {w' : World} (hw : Wk P s s2) (h : Leaves P may (s2.emb R) w g s' a' w') : Leaves P may (s.emb R) w g s' a' w' := by
  obtain ⟨g', h1, h2, h3⟩ := h
  exact ⟨g', h1, h2, fun i k cs hi hb => h3.box i k cs hi (by rw [hw.look R hi]; exact hb), fun i k fz e xs hi ha => h3.arr i k fz e xs hi (by rw [hw.look R hi]; exact ha)⟩
theorem leaves_to {s2 s1 : TSt} {s0 : St} {R : List Store} {a' : Act} {w' : World} (hw : Wk P s1 s2) (h : Leaves P may s0 w g (s1.emb R) a' w') : Leaves P may s0 w g (s2.emb R) a' w' := by
  obtain ⟨g', h1, h2, h3⟩ := h
  refine ⟨g', hw.1 _ _ _ _ _ h1, h2, fun i k cs hi hb => ?_, fun i k fz e xs hi ha => ?_⟩
  · have := h3.box i k cs hi hb
    rw [hw.look R hi]; exact this
  · have := h3.arr i k fz e xs hi ha
    rw [hw.look R hi]; exact this
def Ends (P : Program) (may : Nat → Prop) (R : List Store) (s : TSt) (w : World) (g : Gh) (Φ : AExit → TSt → Prop) : Exit → Act → World → Prop :=
  fun x a' w' => ∃ e s', x = e.toExit ∧ Φ e s' ∧ Leaves P may (s.emb R) w g (s'.emb R) a' w'
def Run (P : Program) (t : Task) (s : TSt) (Φ : AExit → TSt → Prop) : Prop :=
  ∀ (R : List Store) (may : Nat → Prop) (a : Act) (w : World) (g : Gh), Sim P may (s.emb R) a w g → (∀ b, w.heap.size ≤ b → may b) → Goes P t (Ends P may R s w g Φ) a w
theorem Run.of_clean {t : Task} {s : TSt} {n : Nat} {ls ks : List Nat} {Φ : AExit → TSt → Prop} {K : TSt → Prop} (h : cleanT n ls ks s K) (hK : ∀ s2, K s2 → Run P t s2 Φ) : Run P t s Φ := by
  obtain ⟨s2, hk, hw⟩ := cleanT_ok (P := P) h
  intro R may a w g hs hm
  have h2 := hK s2 hk R may a w g (hw.1 _ _ _ _ _ hs) hm
  have step : ∀ x a' w', Ends P may R s2 w g Φ x a' w' → Ends P may R s w g Φ x a' w' := by
    rintro x a' w' ⟨e, s', hx, hp, hl⟩
    exact ⟨e, s', hx, hp, leaves_from hw hl⟩
  cases t with
  | within c rest =>
    intro b k cs
    obtain ⟨e, a', w', hq, harr⟩ := h2 b k cs
    exact ⟨e, a', w', step _ _ _ hq, harr⟩
  | code c =>
    cases c with
    | loop c =>
      intro b k cs
      obtain ⟨e, a', w', hq, harr⟩ := h2 b k cs
      exact ⟨e, a', w', step _ _ _ hq, harr⟩
    | _ => exact wp_mono h2 step
theorem Run.mono {t : Task} {s : TSt} {Φ Φ' : AExit → TSt → Prop} (h : Run P t s Φ) (hk : ∀ e s', Φ e s' → ∃ s2, Φ' e s2 ∧ Wk P s' s2) : Run P t s Φ' := by
  intro R may a w g hs hm
  have h2 := h R may a w g hs hm
  have step : ∀ x a' w', Ends P may R s w g Φ x a' w' → Ends P may R s w g Φ' x a' w' := by
    rintro x a' w' ⟨e, s', hx, hp, hl⟩
    obtain ⟨s2, hp2, hw⟩ := hk e s' hp
    exact ⟨e, s2, hx, hp2, leaves_to hw hl⟩
  cases t with
  | within c rest =>
    intro b k cs
    obtain ⟨e, a', w', hq, harr⟩ := h2 b k cs
    exact ⟨e, a', w', step _ _ _ hq, harr⟩
  | code c =>
    cases c with
    | loop c =>
      intro b k cs
      obtain ⟨e, a', w', hq, harr⟩ := h2 b k cs
      exact ⟨e, a', w', step _ _ _ hq, harr⟩
    | _ => exact wp_mono h2 step
theorem Run.code {c : Code} {s : TSt} {Φ : AExit → TSt → Prop} (h : Run P (.code c) s Φ) {R : List Store} {a : Act} (hs : Sim P may (s.emb R) a w g) (hm : ∀ b, w.heap.size ≤ b → may b) : c.wp P (Ends P may R s w g Φ) a w :=
  (h R may a w g hs hm).code
theorem Ends.trans {R : List Store} {s s1 : TSt} {Φ : AExit → TSt → Prop} {x : Exit} {a2 : Act} {w1 w2 : World} {g1 : Gh} (k2 : Fr may w g.M w1 g1.M) (k3 : Kp 1 (s.emb R).stores g (s1.emb R).stores g1) (h : Ends P may R s1 w1 g1 Φ x a2 w2) : Ends P may R s w g Φ x a2 w2 := by
  obtain ⟨e, s', hx, hp, g2, q1, q2, q3⟩ := h
  exact ⟨e, s', hx, hp, g2, q1, k2.trans q2, k3.trans q3⟩
def LamOk (P : Program) (Λ : Known) : Code → Prop
  | .seq a b => LamOk P Λ a ∧ LamOk P Λ b
  | .cond _ a b => LamOk P Λ a ∧ LamOk P Λ b
  | .block id c => match Λ.blk id with
    | some ψ => ∀ s Φ, ψ s Φ → Run P (.code (.block id c)) s Φ
    | none => LamOk P Λ c
  | .scope c => LamOk P Λ c ∧ ∀ l rest ψ, findLabel c l = some rest → Λ.lab l = some ψ → ∀ s Φ, ψ s Φ → Run P (.within c rest) s Φ
  | _ => True
structure KnownOk (P : Program) (E : Env) (Λ : Known) : Prop where
  env : EnvOk P E
  lend : ∀ f, Λ.D f = none → ∀ j, E.lend f j = false
  ctr : CtrOk E Λ.G
  del : LendOk E Λ.D
  solo : E.solo = Λ.solo
  draw : ∀ ops, Λ.ok ops = true → drawM E.solo ops = true
theorem wpT_ok {Λ : Known} (hΛ : KnownOk P E Λ) : ∀ (c : Code) (s : TSt) (Φ : AExit → TSt → Prop), LamOk P Λ c → wpT P Λ c s Φ → Run P (.code c) s Φ := by
  intro c
  induction c with
  | skip => intro s Φ _ h R may a w g hs hm; exact wp_skip ⟨.normal, s, rfl, h, .same hs rfl⟩
  | label l => intro s Φ _ h R may a w g hs hm; exact wp_label ⟨.normal, s, rfl, h, .same hs rfl⟩
  | exit id => intro s Φ _ h R may a w g hs hm; exact wp_exit ⟨.exit id, s, rfl, h, .same hs rfl⟩
  | goto l => intro s Φ _ h R may a w g hs hm; exact wp_goto ⟨.goto l, s, rfl, h, .same hs rfl⟩
  | ret => intro s Φ _ h R may a w g hs hm; exact wp_ret ⟨.ret, s, rfl, h, .same hs rfl⟩
  | region id ops d =>
    intro s Φ _ h R may a w g hs hm
    let rec0 : Rec := fun _ _ => none
    have hrec : RecOk P rec0 := fun t s e s' h => by cases h
    cases d with
    | false =>
      obtain ⟨s1, h1, hp⟩ := opsT_ok (R := R) (stA := fun o s => stepOp P E rec0 s o) (fun s o K hk => stepOpT_ok hΛ.lend hΛ.ctr hΛ.del hk) _ s _ h
      exact wp_region (opsA_wp (fun o s s' h => stepOp_wp hΛ.env hrec h) hm (fun a' w' hl => ⟨.normal, s1, rfl, hp, hl⟩) _ _ _ _ h1 (.same hs rfl))
    | true =>
      simp only [wpT] at h
      split at h
      · rename_i hok
        obtain ⟨s1, h1, hp⟩ := opsT_ok (R := R) (stA := fun o s => drawOp P E rec0 s o) (fun s o K hk => by
          rw [← hΛ.solo] at hk; exact drawT_ok hΛ.lend hΛ.ctr hΛ.del hk) _ s _ h
        refine wp_region_draw fun t => ?_
        rw [hΛ.env.wide]
        have h2 := draw_okM (hΛ.draw ops hok) rec0 _ _ t h1
        have hd : Ext w { w with drawn := w.drawn + 1 } := Ext.drew w
        obtain ⟨q1, q2, q3⟩ := hs.grow hm hd (M' := g.M) (fun b o h => h) (fun b o h hn => absurd h hn)
        exact opsA_wp (fun o s s' h => drawOp_wp hΛ.env hrec h) hm (fun a' w' hl => ⟨.normal, s1, rfl, hp, hl⟩) _ _ _ _ h2 ⟨_, q1, q2, q3.mono (by omega)⟩
      · exact h.elim
  | seq x y ihx ihy =>
    intro s Φ hl h R may a w g hs hm
    refine wp_seq (wp_mono ((ihx s _ hl.1 h).code hs hm) fun ex a1 w1 ⟨e, s1, hx, hp, hlv⟩ => ?_)
    subst hx
    cases e with
    | normal =>
      obtain ⟨g1, k1, k2, k3⟩ := hlv
      exact wp_mono ((ihy s1 Φ hl.2 hp).code k1 fun b hb => hm b (Nat.le_trans k2.size hb)) fun ex a2 w2 he => he.trans k2 k3
    | exit id => exact ⟨.exit id, s1, rfl, hp, hlv⟩
    | goto l => exact ⟨.goto l, s1, rfl, hp, hlv⟩
    | ret => exact ⟨.ret, s1, rfl, hp, hlv⟩
  | cond c x y ihx ihy =>
    intro s Φ hl h R may a w g hs hm
    simp only [wpT] at h
    split at h
    · rename_i t ht
      have he : evalO (s.emb R) c = some (.x (.bool t)) := evalT_ok ht
      have := (hs.evalO he).inv_x.1
      rcases brc_cases h with ⟨rfl, h'⟩ | ⟨rfl, h'⟩
      · exact wp_cond this ((ihx s Φ hl.1 h').code hs hm)
      · exact wp_cond this ((ihy s Φ hl.2 h').code hs hm)
    · exact h.elim
  | block id c ih =>
    intro s Φ hl h R may a w g hs hm
    simp only [wpT] at h
    simp only [LamOk] at hl
    split at h
    · rename_i ψ hψ
      rw [hψ] at hl
      exact (hl s Φ h) R may a w g hs hm
    · rename_i hψ
      rw [hψ] at hl
      refine wp_block (wp_mono ((ih s _ hl h).code hs hm) fun ex a1 w1 ⟨e, s1, hx, hp, hlv⟩ => ?_)
      subst hx
      cases e with
      | normal => exact ⟨.normal, s1, rfl, hp, hlv⟩
      | goto l => exact ⟨.goto l, s1, rfl, hp, hlv⟩
      | ret => exact ⟨.ret, s1, rfl, hp, hlv⟩
      | exit i =>
        simp only [AExit.toExit, Exit.inBlock]
        simp only at hp
        split at hp
        · rename_i hi
          rw [if_pos (Nat.eq_of_beq_eq_true hi)]
          exact ⟨.normal, s1, rfl, hp, hlv⟩
        · rename_i hi
          rw [if_neg (Nat.ne_of_beq_eq_false hi)]
          exact ⟨.exit i, s1, rfl, hp, hlv⟩
  | loop c ih => intro s Φ _ h; exact h.elim
  | scope c ih =>
    intro s Φ hl h R may a w g hs hm
    have h1 := (ih s _ hl.1 h).code hs hm
    intro b k cs
    obtain ⟨ex, a1, w1, ⟨e, s1, hx, hp, hlv⟩, harr⟩ := h1 b (.inScope c :: k) cs
    subst hx
    have fin : ∀ {ex a2 w2}, Ends P may R s w g Φ ex a2 w2 → Arrives P (lone (b.at a (.code c :: .inScope c :: k)) cs w) b k cs ex a2 w2 → ∃ e a' w', Ends P may R s w g Φ e a' w' ∧ Arrives P (lone (b.at a (.code (.scope c) :: k)) cs w) b k cs e a' w' :=
      fun h1 h2 => ⟨_, _, _, h1, .of_steps (.one step_scope) h2⟩
    cases e with
    | normal => exact fin ⟨.normal, s1, rfl, hp, hlv⟩ (Steps.trans harr (.one step_inScope))
    | exit id => exact fin ⟨.exit id, s1, rfl, hp, hlv⟩ (fun k' hk => harr k' (by simp [exitTo, hk]))
    | ret => exact fin ⟨.ret, s1, rfl, hp, hlv⟩ harr
    | goto l =>
      simp only at hp
      split at hp
      · rename_i rest hf
        obtain ⟨ψ, hψ, hp⟩ := need_some hp
        obtain ⟨g1, k1, k2, k3⟩ := hlv
        obtain ⟨ex, a2, w2, he, harr2⟩ := hl.2 l rest ψ hf hψ s1 Φ hp R may a1 w1 g1 k1 (fun b hb => hm b (Nat.le_trans k2.size hb)) b k cs
        exact fin (he.trans k2 k3) (.of_steps (harr _ (gotoIn_scope hf)) harr2)
      · rename_i hf
        exact fin ⟨.goto l, s1, rfl, hp, hlv⟩ (fun k' hk => harr k' (by simp [gotoIn, hf, hk]))
  | rangeFunc => intro s Φ _ h; exact h.elim
  | refuse => intro s Φ _ h; exact h.elim
end
end Go.AbsM

/-! ## AbtFun -/
namespace Go.AbsM
section
variable {P : Program} {E : Env} {w : World} {g : Gh} {may : Nat → Prop}
abbrev Post := AExit → TSt → Prop
def blockK (id : Nat) (Φ : Post) : Post := fun e s2 => match e with
  | .exit k => match k.beq id with
    | true => Φ .normal s2
    | false => Φ (.exit k) s2
  | .normal => Φ .normal s2
  | .goto l => Φ (.goto l) s2
  | .ret => Φ .ret s2
def stepK {ι : Type} (n : Nat) (ls ks lx kx : List Nat) (id : Nat) (mk : ι → TSt) (μ : ι → Nat) (ψ : ι → Post → Prop) (m : Nat) (Φ : Post) : Post := fun e s1 => match e with
  | .normal => cleanT n ls ks s1 fun s2 => ∃ j, s2 = mk j ∧ μ j < m ∧ ψ j Φ
  | .exit k => cleanT n lx kx s1 fun s2 => match k.beq id with
    | true => Φ .normal s2
    | false => Φ (.exit k) s2
  | .goto l => cleanT n lx kx s1 fun s2 => Φ (.goto l) s2
  | .ret => cleanT n lx kx s1 fun s2 => Φ .ret s2
theorem run_loop0 {ι : Type} {Λ : Known} (hΛ : KnownOk P E Λ) {n : Nat} {ls ks lx kx : List Nat} {id : Nat} {mk : ι → TSt} {μ : ι → Nat} {ψ : ι → Post → Prop} {c : Code} (hL : LamOk P Λ c)
    (step : ∀ i Φ, ψ i Φ → wpT P Λ c (mk i) (stepK n ls ks lx kx id mk μ ψ (μ i) Φ)) : ∀ (m : Nat) (i : ι) (Φ : Post), μ i < m → ψ i Φ → Run P (.code (.loop c)) (mk i) (fun e s2 => e ≠ .normal ∧ blockK id Φ e s2) := by
  intro m
  induction m with
  | zero => intro i Φ h; omega
  | succ m ih =>
    intro i Φ hi hψ R may a w g hs hm b k cs
    have h1 := (wpT_ok hΛ c (mk i) _ hL (step i Φ hψ)).code hs hm
    obtain ⟨ex, a1, w1, ⟨e, s1, hx, hp, hlv⟩, harr⟩ := h1 b (.inLoop c :: k) cs
    subst hx
    unfold stepK at hp
    cases e with
    | normal =>
      obtain ⟨s2, hp, hw⟩ := cleanT_ok (P := P) hp
      have hlv := leaves_to hw hlv
      obtain ⟨j, rfl, hj, hψj⟩ := hp
      obtain ⟨g1, k1, k2, k3⟩ := hlv
      obtain ⟨ex, a2, w2, he, harr2⟩ := ih j Φ (by omega) hψj R may a1 w1 g1 k1 (fun b hb => hm b (Nat.le_trans k2.size hb)) b k cs
      exact ⟨ex, a2, w2, he.trans k2 k3, .of_steps (Steps.trans harr (.one step_inLoop)) harr2⟩
    | exit id' =>
      obtain ⟨s2, hp, hw⟩ := cleanT_ok (P := P) hp
      exact ⟨_, a1, w1, ⟨.exit id', s2, rfl, ⟨(fun h => by cases h), hp⟩, leaves_to hw hlv⟩, .pass (x := .inLoop c) rfl (fun _ _ => .inl (by simp [AExit.toExit])) harr⟩
    | goto l =>
      obtain ⟨s2, hp, hw⟩ := cleanT_ok (P := P) hp
      exact ⟨_, a1, w1, ⟨.goto l, s2, rfl, ⟨(fun h => by cases h), hp⟩, leaves_to hw hlv⟩, .pass (x := .inLoop c) rfl (fun _ _ => .inl (by simp [AExit.toExit])) harr⟩
    | ret =>
      obtain ⟨s2, hp, hw⟩ := cleanT_ok (P := P) hp
      exact ⟨_, a1, w1, ⟨.ret, s2, rfl, ⟨(fun h => by cases h), hp⟩, leaves_to hw hlv⟩, .pass (x := .inLoop c) rfl (fun _ _ => .inl (by simp [AExit.toExit])) harr⟩
theorem run_block {id : Nat} {c : Code} {s : TSt} {Φ : Post} (h : Run P (.code c) s (blockK id Φ)) : Run P (.code (.block id c)) s Φ := by
  intro R may a w g hs hm
  refine wp_block (wp_mono (h.code hs hm) fun ex a1 w1 ⟨e, s1, hx, hp, hlv⟩ => ?_)
  subst hx
  cases e with
  | normal => exact ⟨.normal, s1, rfl, hp, hlv⟩
  | goto l => exact ⟨.goto l, s1, rfl, hp, hlv⟩
  | ret => exact ⟨.ret, s1, rfl, hp, hlv⟩
  | exit i =>
    simp only [AExit.toExit, Exit.inBlock]
    simp only [blockK] at hp
    split at hp
    · rename_i hi
      rw [if_pos (Nat.eq_of_beq_eq_true hi)]
      exact ⟨.normal, s1, rfl, hp, hlv⟩
    · rename_i hi
      rw [if_neg (Nat.ne_of_beq_eq_false hi)]
      exact ⟨.exit i, s1, rfl, hp, hlv⟩
theorem sim_id (s' : TSt) : Wk P s' s' := ⟨fun _ _ _ _ _ h => h, fun _ _ => rfl⟩
def loopP {ι : Type} (n : Nat) (ls ks : List Nat) (mk : ι → TSt) (ψ : ι → Post → Prop) : Piece := fun s Φ => cleanT n ls ks s fun s2 => ∃ i, s2 = mk i ∧ ψ i Φ
theorem run_loop {ι : Type} {Λ : Known} (hΛ : KnownOk P E Λ) {n : Nat} {ls ks lx kx : List Nat} {id : Nat} {mk : ι → TSt} {ψ : ι → Post → Prop} {c : Code} (μ : ι → Nat) (hL : LamOk P Λ c)
    (step : ∀ i Φ, ψ i Φ → wpT P Λ c (mk i) (stepK n ls ks lx kx id mk μ ψ (μ i) Φ)) (s : TSt) (Φ : Post) (h : loopP n ls ks mk ψ s Φ) : Run P (.code (.block id (.loop c))) s Φ := by
  refine Run.of_clean h fun s2 ⟨i, he, hψ⟩ => ?_
  subst he
  exact run_block (Run.mono (run_loop0 hΛ hL step _ i Φ (Nat.lt_succ_self _) hψ) fun e s' h => ⟨s', h.2, sim_id s'⟩)
def jumpK {ι : Type} (Λ : Known) (n : Nat) (ls ks lx kx : List Nat) (c : Code) (l : Nat) (mk : ι → TSt) (μ : ι → Nat) (ψ : ι → Post → Prop) (m : Nat) (Φ : Post) : Post := fun e s1 => match e with
  | .goto l' => match l'.beq l with
    | true => cleanT n ls ks s1 fun s2 => ∃ j, s2 = mk j ∧ μ j < m ∧ ψ j Φ
    | false => match findLabel c l' with
      | none => cleanT n lx kx s1 fun s2 => Φ (.goto l') s2
      | some _ => need (Λ.lab l') fun ψ' => ψ' s1 fun e s2 => cleanT n lx kx s2 fun s3 => Φ e s3
  | .normal => cleanT n lx kx s1 fun s2 => Φ .normal s2
  | .exit i => cleanT n lx kx s1 fun s2 => Φ (.exit i) s2
  | .ret => cleanT n lx kx s1 fun s2 => Φ .ret s2
theorem run_jump0 {ι : Type} {Λ : Known} (hΛ : KnownOk P E Λ) {n : Nat} {ls ks lx kx : List Nat} {mk : ι → TSt} {μ : ι → Nat} {ψ : ι → Post → Prop} {c rest : Code} {l : Nat} (hL : LamOk P Λ rest) (hf : findLabel c l = some rest)
    (hlab : ∀ l' rest' ψ', l' ≠ l → findLabel c l' = some rest' → Λ.lab l' = some ψ' → ∀ s Φ, ψ' s Φ → Run P (.within c rest') s Φ)
    (step : ∀ i Φ, ψ i Φ → wpT P Λ rest (mk i) (jumpK Λ n ls ks lx kx c l mk μ ψ (μ i) Φ)) : ∀ (m : Nat) (i : ι) (Φ : Post), μ i < m → ψ i Φ → Run P (.within c rest) (mk i) Φ := by
  intro m
  induction m with
  | zero => intro i Φ h; omega
  | succ m ih =>
    intro i Φ hi hψ R may a w g hs hm b k cs
    have h1 := (wpT_ok hΛ rest (mk i) _ hL (step i Φ hψ)).code hs hm
    obtain ⟨ex, a1, w1, ⟨e, s1, hx, hp, hlv⟩, harr⟩ := h1 b (.inScope c :: k) cs
    subst hx
    cases e with
    | normal =>
      obtain ⟨s2, hp, hw⟩ := cleanT_ok (P := P) hp
      exact ⟨_, a1, w1, ⟨.normal, s2, rfl, hp, leaves_to hw hlv⟩, Steps.trans harr (.one step_inScope)⟩
    | exit id =>
      obtain ⟨s2, hp, hw⟩ := cleanT_ok (P := P) hp
      exact ⟨_, a1, w1, ⟨.exit id, s2, rfl, hp, leaves_to hw hlv⟩, fun k' hk => harr k' (by simp [exitTo, hk])⟩
    | ret =>
      obtain ⟨s2, hp, hw⟩ := cleanT_ok (P := P) hp
      exact ⟨_, a1, w1, ⟨.ret, s2, rfl, hp, leaves_to hw hlv⟩, harr⟩
    | goto l' =>
      simp only [jumpK] at hp
      split at hp
      · rename_i he
        have he := Nat.eq_of_beq_eq_true he
        subst he
        obtain ⟨s2, hp, hw⟩ := cleanT_ok (P := P) hp
        have hlv := leaves_to hw hlv
        obtain ⟨j, rfl, hj, hψj⟩ := hp
        obtain ⟨g1, k1, k2, k3⟩ := hlv
        obtain ⟨ex, a2, w2, he, harr2⟩ := ih j Φ (by omega) hψj R may a1 w1 g1 k1 (fun b hb => hm b (Nat.le_trans k2.size hb)) b k cs
        exact ⟨ex, a2, w2, he.trans k2 k3, .of_steps (harr _ (gotoIn_scope hf)) harr2⟩
      · rename_i hne
        have hne := Nat.ne_of_beq_eq_false hne
        split at hp
        · rename_i hf'
          obtain ⟨s2, hp, hw⟩ := cleanT_ok (P := P) hp
          exact ⟨_, a1, w1, ⟨.goto l', s2, rfl, hp, leaves_to hw hlv⟩, fun k' hk => harr k' (by simp [gotoIn, hf', hk])⟩
        · rename_i rest' hf'
          obtain ⟨ψ', hψ', hp⟩ := need_some hp
          obtain ⟨g1, k1, k2, k3⟩ := hlv
          have hr := (hlab l' rest' ψ' hne hf' hψ' s1 _ hp).mono fun e s' h => cleanT_ok (P := P) h
          obtain ⟨ex, a2, w2, he, harr2⟩ := hr R may a1 w1 g1 k1 (fun b hb => hm b (Nat.le_trans k2.size hb)) b k cs
          exact ⟨ex, a2, w2, he.trans k2 k3, .of_steps (harr _ (gotoIn_scope hf')) harr2⟩
theorem run_jump {ι : Type} {Λ : Known} (hΛ : KnownOk P E Λ) {n : Nat} {ls ks lx kx : List Nat} {mk : ι → TSt} {ψ : ι → Post → Prop} {c rest : Code} {l : Nat} (μ : ι → Nat) (hL : LamOk P Λ rest) (hf : findLabel c l = some rest)
    (hlab : ∀ l' rest' ψ', l' ≠ l → findLabel c l' = some rest' → Λ.lab l' = some ψ' → ∀ s Φ, ψ' s Φ → Run P (.within c rest') s Φ)
    (step : ∀ i Φ, ψ i Φ → wpT P Λ rest (mk i) (jumpK Λ n ls ks lx kx c l mk μ ψ (μ i) Φ)) (s : TSt) (Φ : Post) (h : loopP n ls ks mk ψ s Φ) : Run P (.within c rest) s Φ := by
  refine Run.of_clean h fun s2 ⟨i, he, hψ⟩ => ?_
  subst he
  exact run_jump0 hΛ hL hf hlab step _ i Φ (Nat.lt_succ_self _) hψ
def blocksOf : Code → List (Nat × Code)
  | .seq a b => blocksOf a ++ blocksOf b
  | .cond _ a b => blocksOf a ++ blocksOf b
  | .block id c => (id, c) :: blocksOf c
  | .loop c => blocksOf c
  | .scope c => blocksOf c
  | _ => []
def scopesOf : Code → List Code
  | .seq a b => scopesOf a ++ scopesOf b
  | .cond _ a b => scopesOf a ++ scopesOf b
  | .block _ c => scopesOf c
  | .loop c => scopesOf c
  | .scope c => c :: scopesOf c
  | _ => []
theorem lamOk_of {Λ : Known} {c : Code} (hb : ∀ id c', (id, c') ∈ blocksOf c → ∀ ψ, Λ.blk id = some ψ → ∀ s Φ, ψ s Φ → Run P (.code (.block id c')) s Φ)
    (hs : ∀ c', c' ∈ scopesOf c → ∀ l rest ψ, findLabel c' l = some rest → Λ.lab l = some ψ → ∀ s Φ, ψ s Φ → Run P (.within c' rest) s Φ) : LamOk P Λ c := by
  induction c with
  | seq a b iha ihb =>
    exact ⟨iha (fun id c' h => hb id c' (List.mem_append_left _ h)) (fun c' h => hs c' (List.mem_append_left _ h)), ihb (fun id c' h => hb id c' (List.mem_append_right _ h)) (fun c' h => hs c' (List.mem_append_right _ h))⟩
  | cond o a b iha ihb =>
    exact ⟨iha (fun id c' h => hb id c' (List.mem_append_left _ h)) (fun c' h => hs c' (List.mem_append_left _ h)), ihb (fun id c' h => hb id c' (List.mem_append_right _ h)) (fun c' h => hs c' (List.mem_append_right _ h))⟩
  | block id c ih =>
    simp only [LamOk]
    split
    · rename_i ψ hψ; exact hb id c List.mem_cons_self ψ hψ
    · exact ih (fun id c' h => hb id c' (List.mem_cons_of_mem _ h)) hs
  | scope c ih =>
    exact ⟨ih hb (fun c' h => hs c' (List.mem_cons_of_mem _ h)), hs c List.mem_cons_self⟩
  | _ => trivial
def nodupB : List Nat → Bool
  | [] => true
  | a :: r => !r.contains a && nodupB r
def findB : List (Nat × Code) → Nat → Code
  | [], _ => .skip
  | (k, c) :: r, n => if k = n then c else findB r n
theorem findB_mem {l : List (Nat × Code)} (hn : nodupB (l.map (·.1)) = true) {id : Nat} {c : Code} (h : (id, c) ∈ l) : c = findB l id := by
  induction l with
  | nil => cases h
  | cons p r ih =>
    obtain ⟨k, c'⟩ := p
    simp only [List.map_cons, nodupB, Bool.and_eq_true, Bool.not_eq_true'] at hn
    simp only [findB]
    rcases List.mem_cons.1 h with h | h
    · cases h; rw [if_pos rfl]
    · have hne : k ≠ id := by
        intro e; subst e
        have : k ∈ r.map (·.1) := List.mem_map.2 ⟨_, h, rfl⟩
        have h2 := hn.1
        simp at h2
        simp at this
        obtain ⟨x, hx⟩ := this
        exact h2 x hx
      rw [if_neg hne]; exact ih hn.2 h
def blkC (c : Code) (id : Nat) : Code := findB (blocksOf c) id
def scC (c : Code) : Code := (scopesOf c).headD .skip
theorem lamOk_body {Λ : Known} {c : Code} (hn : nodupB ((blocksOf c).map (·.1)) = true) (h1 : decide ((scopesOf c).length ≤ 1) = true)
    (hb : ∀ id ψ, Λ.blk id = some ψ → ∀ s Φ, ψ s Φ → Run P (.code (.block id (blkC c id))) s Φ)
    (hs : ∀ l rest ψ, findLabel (scC c) l = some rest → Λ.lab l = some ψ → ∀ s Φ, ψ s Φ → Run P (.within (scC c) rest) s Φ) : LamOk P Λ c := by
  refine lamOk_of (fun id c' h ψ hψ => ?_) fun c' h => ?_
  · rw [findB_mem hn h]; exact hb id ψ hψ
  · have h1 := of_decide_eq_true h1
    have : c' = scC c := by
      unfold scC
      cases hl : scopesOf c with
      | nil => rw [hl] at h; cases h
      | cons x r =>
        rw [hl] at h h1
        cases r with
        | nil => simp at h; simp [h]
        | cons y r => simp at h1
    rw [this]; exact hs
theorem body_sound2 {f : FuncId} {fn : Func} {c : Code} {args : List AV} {S : List Store} {r : AV} (hf : P.funcs[f]? = some fn) (hb : fn.body = some c)
    (hc : ∀ (may : Nat → Prop) (a : Act) (w : World) (g : Gh), Sim P may (enterA fn args S) a w g → (∀ b, w.heap.size ≤ b → may b) → c.wp P (fun x a' w' => ∃ e s1 s2 l l1 ys t, x = AExit.toExit e ∧ (e = .ret ∨ e = .normal) ∧ resultAll P s1 fn.results.toList = some l ∧ settle s1 l = some (s2, l1) ∧ outAll s2 [] l1 = some ys ∧ s2.stores = t :: S ∧ r = oneOf ys ∧ Leaves P may (enterA fn args S) w g s1 a' w') a w) : CallC P f args S S r := by
  intro may w g vs hi hm hlen hargs
  refine calls_of_wp hf hb (wp_mono (hc may _ w _ (enter_sim hi hlen hargs) hm) fun x a' w' ⟨e, s1, s2, l, l1, ys, t, hx, he, hl, hse, ho, hst, hr, g1, h1, h2, h3⟩ => ?_)
  have fin : a'.defers = [] ∧ ∃ v, (results fn a'.tmps).run P w' = .ok v w' ∧ (∃ v' g', Ending.returned v = Ending.returned v' ∧ Fr may w g.M w' g'.M ∧ SInv P w' g' may S ∧ Kp 0 S g S g' ∧ ResRep P may w' g' S r v') := by
    refine ⟨h1.defers, ?_⟩
    obtain ⟨us, hrun, hus⟩ := resultAll_sound (f := (fun | .tmp t => pure (a'.tmps.getD t undef) | .cell c t => do loadVar t (← asAddr (a'.tmps.getD c undef)) : ResultVar → Sem Value)) h1 (fun _ => rfl) (fun _ _ => rfl) hl
    obtain ⟨g2, k1, hus1⟩ := settle_sound h1 hus hse
    obtain ⟨hul, ks, o1, o2, o3⟩ := outAll_sound hst k1.1.inv hus1 ho
    refine ⟨_, results_run (fun _ => rfl) (fun _ _ => rfl) hrun, _, g2.pop, rfl, h2.trans k1.2.1, ?_, ?_, ?_⟩
    · have := k1.1.inv; rw [hst] at this; exact this.pop
    · have := h3.trans (k1.2.2.1.mono (by omega)); rw [hst] at this; exact this.pop
    · subst hr
      have all : OReps P may w' g2.pop S ys us := ⟨hul, fun i => g2.B 0 (ks i), o1, fun i j e xs e' xs' hi' hj' heq => by
        obtain ⟨_, o, ho1, ho2⟩ := o2 i _ _ hi'
        obtain ⟨_, p, hp1, hp2⟩ := o2 j _ _ hj'
        exact o3 i j _ _ _ _ hi' hj' (k1.1.inv.inj 0 (ks i) o 0 (ks j) p ho1 hp1 ho2 hp2 heq).2⟩
      match ys, us, hul, all with
      | [], [], _, all => exact ⟨[], rfl, all⟩
      | [y], [u], _, all =>
        obtain ⟨_, bl, q1, _⟩ := all
        have := q1 0 y u rfl rfl
        show ResRep P may w' g2.pop S y u
        unfold ResRep
        split
        · exact this.elim
        · exact ⟨_, this⟩
      | y :: y' :: ys, u :: u' :: us, _, all => exact ⟨_, rfl, all⟩
  rcases he with rfl | rfl
  · subst hx; exact fin
  · subst hx; exact fin
variable {R : List Store} {s : TSt}
theorem resultAllT_ok {rs : List ResultVar} {K : List T1 → Prop} (h : resultAllT P s rs K) : ∃ l, resultAll P (s.emb R) rs = some (l.map (T1.emb s.st)) ∧ K l := by
  induction rs generalizing K with
  | nil => exact ⟨[], rfl, h⟩
  | cons r rs ih =>
    simp only [resultAllT] at h
    have h1 : ∃ a, resultOne P (s.emb R) r = some (a.emb s.st) ∧ resultAllT P s rs fun b => K (a :: b) := by
      unfold resultOneT at h
      split at h
      · split at h
        · rename_i t x hx
          exact ⟨x, by simp only [resultOne, emb_get, hx]; rfl, h⟩
        · exact h.elim
      · split at h
        · rename_i a t k off ha
          obtain ⟨x, hx, h⟩ := loadT_ok (R := R) h
          exact ⟨x, by simp only [resultOne, emb_get, ha]; exact hx, h⟩
        · exact h.elim
    obtain ⟨a, ha, h⟩ := h1
    obtain ⟨l, hl, h⟩ := ih h
    exact ⟨a :: l, by simp only [resultAll, ha, hl, List.map_cons], h⟩
theorem settleOneT_ok {x : T1} {K : TSt → T1 → Prop} (h : settleOneT s x K) : ∃ s1 y, settleOne (s.emb R) (x.emb s.st) = some (s1.emb R, y.emb s1.st) ∧ Alike s.st s1.st ∧ K s1 y := by
  unfold settleOneT at h
  split at h
  · rename_i cs
    obtain ⟨s1, ds, h1, hv, ha, hl, h⟩ := resCs_ok (R := R) h
    refine ⟨s1, .agg ds, ?_, ha, h⟩
    have : ds.map (TC.emb []) = ds.map (TC.emb s1.st) := List.map_congr_left fun c hc => isVal_emb (hv c hc) _ _
    simp only [T1.emb, settleOne, resolve, h1, this]
  · rename_i k
    split at h
    · rename_i e t xs hl
      refine ⟨s, _, ?_, fun _ => rfl, h⟩
      have hsh : shapeT s.st k = some (e, xs.length) := by simp only [shapeT, hl]
      simp [T1.emb, TC.emb, hsh, settleOne, wholeA, getOb_emb, hl, TOb.emb]
    · rename_i e t xs hl
      refine ⟨_, _, ?_, fz_alike s k, h⟩
      have hsh : shapeT s.st k = some (e, xs.length) := by simp only [shapeT, hl]
      have hlt : List.take xs.length (xs.map t.emb) = xs.map t.emb := List.take_of_length_le (by simp)
      simp [T1.emb, TC.emb, hsh, settleOne, wholeA, getOb_emb, hl, TOb.emb, resolve1, St.elems, emb_fz, hlt, nlAV]
    · exact h.elim
  · rename_i k e lo n tot
    split at h
    · rename_i fz e' t xs hl
      rcases brc_cases h with ⟨hb, hk⟩ | ⟨hb, h⟩
      · simp only [Bool.and_eq_true, Bool.not_eq_true', beq_iff_eq] at hb
        obtain ⟨⟨⟨⟨h1, h2⟩, h3⟩, h4⟩, h5⟩ := hb
        have h2 : xs.length = tot := of_decide_eq_true h2
        have h5 : n = tot := of_decide_eq_true h5
        have h4 : lo = 0 := of_decide_eq_true h4
        subst h1; subst h3; subst h4; subst h5; subst h2
        refine ⟨s, _, ?_, fun _ => rfl, hk⟩
        have hsh : shapeT s.st k = some (e', xs.length) := by simp only [shapeT, hl]
        simp [T1.emb, TC.emb, AV.one, hsh, settleOne, wholeA, getOb_emb, hl, TOb.emb]
      · obtain ⟨s1, d, h1, hv, ha, h⟩ := resC_ok (R := R) h
        refine ⟨s1, _, ?_, ha, h⟩
        have hw : wholeA (s.emb R) k e lo n tot = false := by
          simp only [wholeA, getOb_emb, hl, Option.map_some, TOb.emb, List.length_map]
          simp only [W.neq, W.len] at hb
          rw [← hb]
          simp [Nat.beq_eq_true_eq, BEq.beq]
          rfl
        show settleOne (s.emb R) (.arr 0 k e lo n tot) = _
        simp only [settleOne, hw, Bool.false_eq_true, if_false]
        rw [show (T1.c d).emb s1.st = d.emb [] from isVal_emb hv _ _]
        exact h1
    · exact h.elim
  · exact h.elim
  · exact h.elim
  · rename_i n1 n2 n3 n4 n5
    refine ⟨s, x, ?_, fun _ => rfl, h⟩
    cases x with
    | agg cs => exact (n1 _ rfl).elim
    | own e t xs => exact (n5 _ _ _ rfl).elim
    | c c =>
      cases c with
      | h k => exact (n2 _ rfl).elim
      | eh k j off => exact (n4 _ _ _ rfl).elim
      | sl e t y => cases y <;> rfl
      | a y =>
        cases y with
        | arr i k e lo n tot =>
          cases i with
          | zero => exact (n3 _ _ _ _ _ rfl).elim
          | succ i => rfl
        | _ => rfl
theorem settleT_ok {l : List T1} {K : TSt → List T1 → Prop} (h : settleT s l K) : ∃ s1 ys, settle (s.emb R) (l.map (T1.emb s.st)) = some (s1.emb R, ys.map (T1.emb s1.st)) ∧ Alike s.st s1.st ∧ K s1 ys := by
  induction l generalizing s K with
  | nil => exact ⟨s, [], rfl, fun _ => rfl, h⟩
  | cons x r ih =>
    obtain ⟨s1, y, h1, ha, h⟩ := settleOneT_ok (R := R) h
    obtain ⟨s2, ys, h2, ha2, h⟩ := ih h
    refine ⟨s2, y :: ys, ?_, fun k => (ha k).trans (ha2 k), h⟩
    rw [← ha.t1s r] at h2
    simp only [List.map_cons, settle, h1, h2, ha2.t1 y]
theorem cellVT_ok {c : TC} {p : Sigma VT.den} (h : cellVT c = some p) : p.1.tc p.2 = [c] := by
  unfold cellVT at h
  split at h <;> first | cases h; rfl | cases h
theorem objVT_ok : ∀ {cs : List TC} {p : Sigma VT.den}, objVT cs = some p → p.1.tc p.2 = cs ∧ p.1.isAgg = true
  | [], p, h => by cases h; exact ⟨rfl, rfl⟩
  | c :: r, p, h => by
    unfold objVT at h
    split at h
    · rename_i a x b y h1 h2
      cases h
      have q1 := cellVT_ok h1
      have q2 := (objVT_ok h2).1
      refine ⟨?_, rfl⟩
      show a.tc x ++ b.tc y = c :: r
      rw [q1, q2]; rfl
    · cases h
theorem outOneT_ok {used : List Nat} {x : T1} {K : List Nat → T1 → Prop} (h : outOneT s used x K) : ∃ u1 y, outOne (s.emb R) used (x.emb s.st) = some (u1, y.emb []) ∧ y.outOk = true ∧ K u1 y := by
  unfold outOneT at h
  split at h
  · rename_i k
    split at h
    · rename_i e t xs hl
      cases hbx : Nat.beq e objE with
      | true => rw [hbx] at h; exact h.elim
      | false =>
      rw [hbx] at h
      simp only at h
      split at h
      · rename_i hu
        refine ⟨_, _, ?_, by simp [T1.outOk, hbx], h⟩
        have hsh : shapeT s.st k = some (e, xs.length) := by simp only [shapeT, hl]
        have ha : (T1.c (.h k)).emb s.st = .arr 0 k e 0 xs.length xs.length := by simp only [T1.emb, TC.emb, hsh]
        have hw : wholeA (s.emb R) k e 0 xs.length xs.length = true := by simp [wholeA, getOb_emb, hl, TOb.emb]
        rw [ha]
        simp only [outOne]
        rw [if_pos ⟨⟨hw, hu⟩, hbx⟩]
        simp only [getOb_emb, hl, Option.map_some, TOb.emb, T1.emb]
      · exact h.elim
    · exact h.elim
  · rename_i k
    split at h
    · rename_i cs hl
      split at h
      · rename_i p hp
        split at h
        · rename_i hu
          obtain ⟨q1, q2⟩ := objVT_ok hp
          refine ⟨_, _, ?_, by simp [T1.outOk, q2], h⟩
          have hv : (cs.map (TC.emb s.st)).all AV.isVal = true := isVals_emb _ (List.all_eq_true.2 fun c hc => tc_val p.1 p.2 c (by rw [q1]; exact hc))
          have he : cs.map (TC.emb s.st) = p.1.cells p.2 := by rw [← q1]; exact tc_emb _ _ _
          show outOne (s.emb R) used (.ref 0 k 0) = _
          simp only [outOne, getOb_emb, hl, Option.map_some, TOb.emb]
          rw [if_pos ⟨hv, hu⟩, he]
          simp only [T1.emb, List.map_cons, List.map_nil, VT.emb, embOf, q2]
        · exact h.elim
      · exact h.elim
    · exact h.elim
  · exact ⟨_, _, rfl, rfl, h⟩
  · exact ⟨_, _, rfl, rfl, h⟩
  · exact ⟨_, _, rfl, rfl, h⟩
  · exact ⟨_, _, rfl, rfl, h⟩
  · rename_i e t y
    refine ⟨_, _, ?_, rfl, h⟩
    cases y <;> rfl
  · rename_i cs
    split at h
    · rename_i hv
      refine ⟨_, .agg cs, ?_, hv, h⟩
      have hv' := List.all_eq_true.1 hv
      have : cs.map (TC.emb s.st) = cs.map (TC.emb []) := List.map_congr_left fun c hc => isVal_emb (hv' c hc) _ _
      simp only [T1.emb, outOne]
      rw [if_pos (isVals_emb _ hv), this]
    · exact h.elim
  · exact h.elim
theorem outAllT_ok {used : List Nat} {l : List T1} {K : List T1 → Prop} (h : outAllT s used l K) : ∃ ys, outAll (s.emb R) used (l.map (T1.emb s.st)) = some (ys.map (T1.emb [])) ∧ (∀ y, y ∈ ys → y.outOk = true) ∧ K ys := by
  induction l generalizing used K with
  | nil => exact ⟨[], rfl, (fun y hy => by cases hy), h⟩
  | cons x r ih =>
    obtain ⟨u1, y, h1, ho, h⟩ := outOneT_ok (R := R) h
    obtain ⟨ys, h2, hos, h⟩ := ih h
    refine ⟨y :: ys, ?_, fun z hz => ?_, h⟩
    · simp only [List.map_cons, outAll, h1, h2]
    · rcases List.mem_cons.1 hz with rfl | hz
      · exact ho
      · exact hos z hz
theorem oneOfT_ok {ys : List T1} (h : ∀ y, y ∈ ys → y.outOk = true) : (oneOfT ys).emb [] = oneOf (ys.map (T1.emb [])) ∧ (oneOfT ys).outOk = true := by
  match ys, h with
  | [], _ => exact ⟨rfl, rfl⟩
  | [y], h => exact ⟨rfl, h y List.mem_cons_self⟩
  | y :: z :: r, h => exact ⟨rfl, List.all_eq_true.2 h⟩
theorem outT_ok {rs : List ResultVar} {K : TV → Prop} (h : outT P s rs K) : ∃ (l : List AV) (s1 : TSt) (l1 ys : List AV) (v : TV), resultAll P (s.emb R) rs = some l ∧ settle (s.emb R) l = some (s1.emb R, l1) ∧ outAll (s1.emb R) [] l1 = some ys ∧ v.emb [] = oneOf ys ∧ v.outOk = true ∧ K v := by
  unfold outT at h
  obtain ⟨l, h1, h⟩ := resultAllT_ok (R := R) h
  obtain ⟨s1, l1, h2, ha, h⟩ := settleT_ok (R := R) h
  obtain ⟨ys, h3, ho, h⟩ := outAllT_ok (R := R) h
  obtain ⟨q1, q2⟩ := oneOfT_ok ho
  exact ⟨_, s1, _, _, _, h1, h2, h3, q1, q2, h⟩
theorem endT_ok {fn : Func} {K : TV → Prop} {e : AExit} (h : endT P fn K e s) : (e = .ret ∨ e = .normal) ∧ outT P s fn.results.toList K := by
  unfold endT at h
  cases e with
  | ret => exact ⟨.inl rfl, h⟩
  | normal => exact ⟨.inr rfl, h⟩
  | exit i => exact h.elim
  | goto l => exact h.elim
theorem enterT_emb {fn : Func} {args : List T1} (hn : ∀ a, a ∈ args → a.noH = true) (S : List Store) : (enterT fn args).emb S = enterA fn (args.map (T1.emb [])) S := by
  simp only [enterT, TSt.emb, enterA, List.map_append, List.map_map, List.map_replicate, List.length_map]
  rfl
theorem fn_call {Λ : Known} (hΛ : KnownOk P E Λ) {f : FuncId} {fn : Func} {c : Code} (hf : P.funcs[f]? = some fn) (hb : fn.body = some c) (hL : LamOk P Λ c) {args : List T1} (hn : ∀ a, a ∈ args → a.noH = true) {r : TV}
    (h : wpFn P Λ fn args (fun x => x = r)) (S : List Store) : CallC P f (args.map (T1.emb [])) S S (r.emb []) := by
  unfold wpFn at h
  rw [hb] at h
  have hr := wpT_ok hΛ c _ _ hL h
  refine body_sound2 hf hb fun may a w g hs hm => ?_
  rw [← enterT_emb hn S] at hs ⊢
  refine wp_mono (hr.code hs hm) fun x a' w' ⟨e, s', hx, hp, hl⟩ => ?_
  obtain ⟨he, ho⟩ := endT_ok hp
  obtain ⟨l, s1, l1, ys, v, h1, h2, h3, h4, _, rfl⟩ := outT_ok (R := S) ho
  exact ⟨e, _, _, l, l1, ys, embStore s1.st, hx, he, h1, h2, h3, rfl, h4, hl⟩
end
end Go.AbsM

/-! ## AbtCtrA -/
namespace Go.AbsM
inductive AT where
  | v (t : VT)
  | l (e : TypeId) (t : VT)
@[reducible] def AT.den : AT → Type
  | .v t => t.den
  | .l _ t => List t.den
def dens : List AT → Type
  | [] => Unit
  | a :: r => a.den × dens r
def AT.t1 : (a : AT) → a.den → T1
  | .v t, x => t.t1 x
  | .l e t, xs => .c (.sl e t (.mk xs))
def t1s : (l : List AT) → dens l → List T1
  | [], _ => []
  | a :: r, d => a.t1 (Prod.fst d) :: t1s r (Prod.snd d)
def AT.dec : (a : AT) → T1 → Option a.den
  | .v t, x => t.ofT1 x
  | .l e t, x => match x with
    | .c (.a .nils) => some []
    | .c (.a .cap0) => some []
    | .c (.sl e' t' x) => if e' = e then if h : t' = t then some (h ▸ x.list) else none else none
    | _ => none
def decs : (l : List AT) → List T1 → Option (dens l)
  | [], [] => some ()
  | a :: r, x :: xs => match a.dec x, decs r xs with
    | some d, some ds => some (d, ds)
    | _, _ => none
  | _, _ => none
def mapA {α : Type} (f : AV → Option α) : List AV → Option (List α)
  | [] => some []
  | x :: r => match f x, mapA f r with
    | some a, some l => some (a :: l)
    | _, _ => none
def headA {α : Type} (f : AV → Option α) : List AV → Option (α × List AV)
  | [] => none
  | x :: r => match f x with
    | some a => some (a, r)
    | none => none
def oneA (agg : Bool) {α : Type} (f : List AV → Option (α × List AV)) (x : AV) : Option α := match agg, x with
  | true, .agg cs => match f cs with
    | some (a, []) => some a
    | _ => none
  | true, _ => none
  | false, x => match f [x] with
    | some (a, []) => some a
    | _ => none
def VT.ofAs : (t : VT) → List AV → Option (t.den × List AV)
  | .int k => headA fun x => match x with
    | .x (.int k' n) => if k' = k then some n else none
    | _ => none
  | .bool => headA fun x => match x with
    | .x (.bool b) => some b
    | _ => none
  | .str => headA fun x => match x with
    | .str l => some l
    | _ => none
  | .flt k => headA fun x => match x with
    | .x (.float k' n) => if k' = k then some n else none
    | _ => none
  | .cx k => headA fun x => match x with
    | .x (.complex k' a b) => if k' = k then some ((a, b) : Nat × Nat) else none
    | _ => none
  | .slc e t => headA fun x => match x with
    | .nils => some NL.nil
    | .cap0 => some NL.cap0
    | .sl e' xs => if e' = e then (mapA (oneA t.isAgg t.ofAs) xs).map NL.mk else none
    | _ => none
  | .unit => fun r => some ((), r)
  | .pair a b => fun cs => match a.ofAs cs with
    | some (x, r) => match b.ofAs r with
      | some (y, r') => some ((x, y), r')
      | none => none
    | none => none
def VT.ofA (t : VT) (x : AV) : Option t.den := oneA t.isAgg t.ofAs x
def AT.decA : (a : AT) → AV → Option a.den
  | .v t, x => t.ofA x
  | .l e t, x => match x with
    | .nils => some []
    | .cap0 => some []
    | .sl e' xs => if e' = e then mapA t.ofA xs else none
    | _ => none
def decsA : (l : List AT) → List AV → Option (dens l)
  | [], [] => some ()
  | a :: r, x :: xs => match a.decA x, decsA r xs with
    | some d, some ds => some (d, ds)
    | _, _ => none
  | _, _ => none
theorem ofAs_cells (t : VT) : ∀ (x : t.den) (r : List AV), t.ofAs (t.cells x ++ r) = some (x, r) := by
  induction t with
  | pair a b ha hb =>
    intro x r
    simp only [VT.cells, List.append_assoc, VT.ofAs, ha, hb]; rfl
  | unit => intro x r; rfl
  | slc e t ih =>
    intro x r
    have one : ∀ y, oneA t.isAgg t.ofAs (t.emb y) = some y := by
      intro y
      have := ih y []
      rw [List.append_nil] at this
      unfold VT.emb embOf
      cases h : t.isAgg with
      | true => simp only [oneA, this]
      | false =>
        obtain ⟨c, hc, _⟩ := cells_one h y
        rw [hc] at this ⊢
        simp only [oneA, List.headD_cons, this]
    have all : ∀ l : List t.den, mapA (oneA t.isAgg t.ofAs) (l.map t.emb) = some l := by
      intro l
      induction l with
      | nil => rfl
      | cons y l ihl => simp only [List.map_cons, mapA, one, ihl]
    cases x with
    | nil => rfl
    | cap0 => rfl
    | mk l =>
      have e1 : (VT.slc e t).cells (.mk l) = [.sl e (l.map t.emb)] := rfl
      rw [e1]
      simp only [List.cons_append, List.nil_append, VT.ofAs, headA, if_true, all]
      rfl
  | cx k => intro x r; obtain ⟨a, b⟩ := x; simp [VT.ofAs, VT.cells, headA]
  | _ => intro x r; first | rfl | simp [VT.ofAs, VT.cells, headA]
theorem ofA_emb (t : VT) (x : t.den) : t.ofA (t.emb x) = some x := by
  have := ofAs_cells t x []
  rw [List.append_nil] at this
  unfold VT.ofA VT.emb embOf
  cases h : t.isAgg with
  | true => simp only [oneA, this]
  | false =>
    obtain ⟨c, hc, _⟩ := cells_one h x
    rw [hc] at this ⊢
    simp only [oneA, List.headD_cons, this]
theorem mapA_emb (t : VT) (l : List t.den) : mapA t.ofA (l.map t.emb) = some l := by
  induction l with
  | nil => rfl
  | cons y l ihl => simp only [List.map_cons, mapA, ofA_emb, ihl]
theorem dec_decA {a : AT} {x : T1} {d : a.den} (h : a.dec x = some d) : a.decA (x.emb []) = some d := by
  cases a with
  | v t =>
    have := ofT1_emb [] h
    show t.ofA (x.emb []) = some (show t.den from d)
    rw [← this]; exact ofA_emb t d
  | l e t =>
    simp only [AT.dec] at h
    split at h
    · cases h; rfl
    · cases h; rfl
    · rename_i e' t' y
      split at h
      · rename_i he
        split at h
        · rename_i ht
          subst he; subst ht
          cases h
          cases y with
          | nil => rfl
          | cap0 => rfl
          | mk l =>
            show AT.decA (.l e' t') (.sl e' (l.map t'.emb)) = some l
            simp only [AT.decA, if_true, mapA_emb]
        · cases h
      · cases h
    · cases h
theorem decs_decsA : ∀ {l : List AT} {xs : List T1} {d : dens l}, decs l xs = some d → decsA l (xs.map (T1.emb [])) = some d
  | [], [], d, h => h
  | a :: r, x :: xs, d, h => by
    simp only [decs] at h
    split at h
    · rename_i d1 ds h1 h2
      simp only [List.map_cons, decsA, dec_decA h1, decs_decsA h2]; exact h
    · cases h
theorem headA_inv {α : Type} {f : AV → Option α} {l r : List AV} {x : α} (h : headA f l = some (x, r)) : ∃ c, l = c :: r ∧ f c = some x := by
  cases l with
  | nil => cases h
  | cons c l =>
    simp only [headA] at h
    split at h
    · rename_i a ha
      simp only [Option.some.injEq, Prod.mk.injEq] at h
      obtain ⟨rfl, rfl⟩ := h
      exact ⟨c, rfl, ha⟩
    · cases h
theorem ofAs_inv (t : VT) : ∀ (l r : List AV) (x : t.den), t.ofAs l = some (x, r) → l = t.cells x ++ r := by
  induction t with
  | pair a b ha hb =>
    intro l r x h
    simp only [VT.ofAs] at h
    split at h
    · rename_i x1 r1 h1
      split at h
      · rename_i y r2 h2
        simp only [Option.some.injEq, Prod.mk.injEq] at h
        obtain ⟨rfl, rfl⟩ := h
        rw [ha _ _ _ h1, hb _ _ _ h2]
        simp [VT.cells]
      · cases h
    · cases h
  | unit =>
    intro l r x h
    simp only [VT.ofAs, Option.some.injEq, Prod.mk.injEq] at h
    obtain ⟨rfl, rfl⟩ := h; rfl
  | slc e t ih =>
    intro l r x h
    obtain ⟨c, rfl, hc⟩ := headA_inv h
    have one : ∀ y d, oneA t.isAgg t.ofAs y = some d → y = t.emb d := by
      intro y d hy
      unfold VT.emb embOf
      unfold oneA at hy
      split at hy
      · rename_i cs hag
        split at hy
        · rename_i a ha
          simp only [Option.some.injEq] at hy; subst hy
          have := ih _ _ _ ha
          rw [List.append_nil] at this
          rw [this, hag]
        · cases hy
      · cases hy
      · rename_i hag
        split at hy
        · rename_i a ha
          simp only [Option.some.injEq] at hy; subst hy
          have := ih _ _ _ ha
          rw [List.append_nil] at this
          rw [hag, ← this]; rfl
        · cases hy
    have all : ∀ (xs : List AV) (l : List t.den), mapA (oneA t.isAgg t.ofAs) xs = some l → xs = l.map t.emb := by
      intro xs
      induction xs with
      | nil => intro l h; simp only [mapA, Option.some.injEq] at h; subst h; rfl
      | cons y xs ihx =>
        intro l h
        simp only [mapA] at h
        split at h
        · rename_i d ds h1 h2
          simp only [Option.some.injEq] at h; subst h
          rw [one _ _ h1, ihx _ h2]; rfl
        · cases h
    split at hc
    · cases hc; rfl
    · cases hc; rfl
    · split at hc
      · rename_i he
        subst he
        obtain ⟨l', hl, rfl⟩ := Option.map_eq_some_iff.1 hc
        rw [all _ _ hl]; rfl
      · cases hc
    · cases hc
  | _ =>
    intro l r x h
    obtain ⟨c, rfl, hc⟩ := headA_inv h
    split at hc
    · first
      | (split at hc
         · rename_i hk; subst hk; cases hc; rfl
         · cases hc)
      | (cases hc; rfl)
    · cases hc
theorem ofA_inv {t : VT} {x : AV} {d : t.den} (h : t.ofA x = some d) : x = t.emb d := by
  unfold VT.ofA oneA at h
  unfold VT.emb embOf
  split at h
  · rename_i cs hag
    split at h
    · rename_i a ha
      simp only [Option.some.injEq] at h; subst h
      have := ofAs_inv _ _ _ _ ha
      rw [List.append_nil] at this
      rw [this, hag]
    · cases h
  · cases h
  · rename_i hag
    split at h
    · rename_i a ha
      simp only [Option.some.injEq] at h; subst h
      have := ofAs_inv _ _ _ _ ha
      rw [List.append_nil] at this
      rw [hag, ← this]; rfl
    · cases h
theorem mapA_inv {t : VT} : ∀ {xs : List AV} {l : List t.den}, mapA t.ofA xs = some l → xs = l.map t.emb
  | [], l, h => by simp only [mapA, Option.some.injEq] at h; subst h; rfl
  | y :: xs, l, h => by
    simp only [mapA] at h
    split at h
    · rename_i d ds h1 h2
      simp only [Option.some.injEq] at h; subst h
      rw [ofA_inv h1, mapA_inv h2]; rfl
    · cases h
section
variable {P : Program} {w : World} {g : Gh}
theorem decA_rep {a : AT} {x : AV} {d : a.den} {v : Value} {S : List Store} (hc : ∀ e t, a = .l e t → 0 < P.cellsOf e) (h : a.decA x = some d) (hv : HRep P w g S x v) : HRep P w g S ((a.t1 d).emb []) v := by
  cases a with
  | v t =>
    have := ofA_inv h
    show HRep P w g S ((t.t1 d).emb []) v
    have h2 : (t.t1 d).emb [] = x := (t1_emb t d []).trans this.symm
    rw [h2]; exact hv
  | l e t =>
    have hc := hc e t rfl
    simp only [AT.decA] at h
    split at h
    · cases h
      have hv : Rep P w g.M .nils v := hv
      show Rep P w g.M (.sl e []) v
      cases hv
      exact .sl (us := []) rfl rfl (Nat.le_refl _) (by unfold maxLen; omega) hc (fun i x u h => by simp at h) (fun u h => by simp at h) (fun h => absurd rfl h)
    · cases h
      have hv : Rep P w g.M .cap0 v := hv
      show Rep P w g.M (.sl e []) v
      cases hv
      exact .sl (us := []) rfl rfl (Nat.le_refl _) (by unfold maxLen; omega) hc (fun i x u h => by simp at h) (fun u h => by simp at h) (fun h => absurd rfl h)
    · split at h
      · rename_i he
        subst he
        have := mapA_inv h
        show HRep P w g S (.sl _ (List.map t.emb d)) v
        rw [← this]; exact hv
      · cases h
    · cases h
theorem decsA_rep {S : List Store} : ∀ {l : List AT} {as : List AV} {d : dens l}, (∀ e t, AT.l e t ∈ l → 0 < P.cellsOf e) → decsA l as = some d → ((t1s l d).map (T1.emb [])).length = as.length ∧ ∀ (i : Nat) (x y : AV) (v : Value), as[i]? = some x → ((t1s l d).map (T1.emb []))[i]? = some y → HRep P w g S x v → HRep P w g S y v
  | [], [], d, _, h => ⟨rfl, fun i x y v hx => by simp at hx⟩
  | a :: r, z :: zs, d, hc, h => by
    simp only [decsA] at h
    split at h
    · rename_i d1 ds h1 h2
      cases h
      obtain ⟨q1, q2⟩ := decsA_rep (fun e t hm => hc e t (List.mem_cons_of_mem _ hm)) h2
      refine ⟨by simpa [t1s] using q1, fun i x y v hx hy hv => ?_⟩
      cases i with
      | zero =>
        simp only [List.getElem?_cons_zero, Option.some.injEq] at hx
        subst hx
        simp only [t1s, List.map_cons, List.getElem?_cons_zero, Option.some.injEq] at hy
        subst hy
        exact decA_rep (fun e t he => hc e t (by rw [he]; exact List.mem_cons_self)) h1 hv
      | succ i =>
        simp only [t1s, List.map_cons, List.getElem?_cons_succ] at hx hy
        exact q2 i x y v hx hy hv
    · cases h
end
theorem t1_noH (t : VT) (x : t.den) : (t.t1 x).noH = true := by
  unfold VT.t1
  cases h : t.isAgg with
  | true => exact List.all_eq_true.2 fun c hc => tc_val t x c hc
  | false =>
    show TC.isVal _ = true
    cases hl : t.tc x with
    | nil =>
      have := cells_length t x
      obtain ⟨c, hc, _⟩ := cells_one h x
      rw [hc, hl] at this; simp at this
    | cons a r => exact tc_val t x a (by rw [hl]; exact List.mem_cons_self)
theorem t1s_noH : ∀ (l : List AT) (d : dens l) (a : T1), a ∈ t1s l d → a.noH = true
  | [], d, a, h => by cases h
  | x :: r, d, a, h => by
    rcases List.mem_cons.1 h with rfl | h
    · cases x with
      | v t => exact t1_noH t _
      | l e t => rfl
    · exact t1s_noH r _ a h
end Go.AbsM

/-! ## AbsLend -/
namespace Go.AbsM
def AV.pos : AV → Option (Nat × Nat)
  | .arr i k .. => some (i, k)
  | .ref i k _ => some (i, k)
  | .ear i k .. => some (i, k)
  | _ => none
section
variable {P : Program} {w w' : World} {g g' : Gh} {may : Nat → Prop}
def Gh.map (g : Gh) (φ : Nat → Nat → Nat × Nat) : Gh := { M := g.M, B := fun i k => g.B (φ i k).1 (φ i k).2, C := fun i k => g.C (φ i k).1 (φ i k).2 }
theorem CRep.reframe {S S2 : List Store} {φ : Nat → Nat → Nat × Nat} (hob : ∀ i k o, getOb S2 i k = some o → getOb S (φ i k).1 (φ i k).2 = some o) {c : AV} {i i0 : Nat} {u : Value}
    (hc : ∀ j m, c.pos = some (j, m) → φ (i + j) m = (i0 + j, m) ∧ (getOb S2 (i + j) m).isSome = true) (h : CRep P w g S (c.shift i0) u) : CRep P w (g.map φ) S2 (c.shift i) u := by
  have get : ∀ j m o, φ (i + j) m = (i0 + j, m) → (getOb S2 (i + j) m).isSome = true → getOb S (j + i0) m = some o → getOb S2 (j + i) m = some o := fun j m o h1 h2 h3 => by
    obtain ⟨o2, h4⟩ := Option.isSome_iff_exists.1 h2
    have h5 := hob _ _ _ h4
    rw [h1] at h5
    have e1 : j + i0 = i0 + j := Nat.add_comm _ _
    have e2 : j + i = i + j := Nat.add_comm _ _
    rw [e1] at h3; rw [e2, h4, ← h5, h3]
  cases c with
  | arr j m e lo n tot =>
    obtain ⟨h1, h2⟩ := hc j m rfl
    obtain ⟨fz, xs, q1, q2, q3, q4⟩ := h
    have e2 : φ (j + i) m = (j + i0, m) := by rw [Nat.add_comm j i, Nat.add_comm j i0]; exact h1
    refine ⟨fz, xs, get j m _ h1 h2 q1, q2, fun he => ?_, q4⟩
    have := q3 he
    simp only [Gh.map, e2]
    exact this
  | ref j m off =>
    obtain ⟨h1, h2⟩ := hc j m rfl
    obtain ⟨⟨cs, q1⟩, q2⟩ := h
    have e2 : φ (j + i) m = (j + i0, m) := by rw [Nat.add_comm j i, Nat.add_comm j i0]; exact h1
    refine ⟨⟨cs, get j m _ h1 h2 q1⟩, ?_⟩
    simp only [Gh.map, e2]
    exact q2
  | ear j m e tot k off =>
    obtain ⟨h1, h2⟩ := hc j m rfl
    obtain ⟨fz, xs, q1, q2, q3⟩ := h
    have e2 : φ (j + i) m = (j + i0, m) := by rw [Nat.add_comm j i, Nat.add_comm j i0]; exact h1
    refine ⟨fz, xs, get j m _ h1 h2 q1, q2, fun he => ?_⟩
    have := q3 he
    simp only [Gh.map, e2]
    exact this
  | _ => exact h
theorem SInv.reframe {S S2 : List Store} {φ : Nat → Nat → Nat × Nat} (hi : SInv P w g may S) (hob : ∀ i k o, getOb S2 i k = some o → getOb S (φ i k).1 (φ i k).2 = some o)
    (hbox : ∀ i k cs, getOb S2 i k = some (.box cs) → ∀ c, c ∈ cs → ∀ j m, c.pos = some (j, m) → φ (i + j) m = ((φ i k).1 + j, m) ∧ (getOb S2 (i + j) m).isSome = true)
    (hinj : ∀ i k i' k', (getOb S2 i k).isSome = true → (getOb S2 i' k').isSome = true → φ i k = φ i' k' → i = i' ∧ k = k') : SInv P w (g.map φ) may S2 := by
  refine ⟨fun i k cs h => ?_, fun i k e xs h => hi.arr _ _ e xs (hob i k _ h), fun i k e xs h => hi.fz _ _ e xs (hob i k _ h), fun i k o i' k' o' h h' hl hl' he => ?_, hi.mlt⟩
  · obtain ⟨h1, h2, vs, t, h3, h4, h5⟩ := hi.box _ _ cs (hob i k _ h)
    exact ⟨h1, h2, vs, t, h3, h4, fun j c u hc hu => ⟨CRep.reframe hob (hbox i k cs h c (List.mem_of_getElem? hc)) (h5 j c u hc hu).1, (h5 j c u hc hu).2⟩⟩
  · have := hi.inj _ _ o _ _ o' (hob i k _ h) (hob i' k' _ h') hl hl' he
    exact hinj i k i' k' (by rw [h]; rfl) (by rw [h']; rfl) (Prod.ext this.1 this.2)
def findP : List (Nat × Nat) → Nat → Option Nat
  | [], _ => none
  | (a, b) :: r, n => if a = n then some b else findP r n
def findQ : List (Nat × Nat) → Nat → Option Nat
  | [], _ => none
  | (a, b) :: r, n => if b = n then some a else findQ r n
theorem findP_mem {ps : List (Nat × Nat)} {a b : Nat} (h : findP ps a = some b) : (a, b) ∈ ps := by
  induction ps with
  | nil => cases h
  | cons p r ih =>
    obtain ⟨x, y⟩ := p
    simp only [findP] at h
    split at h
    · rename_i e
      simp only [Option.some.injEq] at h; subst h; subst e; exact List.mem_cons_self
    · exact List.mem_cons_of_mem _ (ih h)
theorem findQ_mem {ps : List (Nat × Nat)} {a b : Nat} (h : findQ ps b = some a) : (a, b) ∈ ps := by
  induction ps with
  | nil => cases h
  | cons p r ih =>
    obtain ⟨x, y⟩ := p
    simp only [findQ] at h
    split at h
    · rename_i e
      simp only [Option.some.injEq] at h; subst h; subst e; exact List.mem_cons_self
    · exact List.mem_cons_of_mem _ (ih h)
def without (ps : List (Nat × Nat)) (t : Store) : Store := t.filter fun p => (findQ ps p.1).isNone
theorem look_without (ps : List (Nat × Nat)) (t : Store) (k : Nat) : look (without ps t) k = if (findQ ps k).isNone then look t k else none := by
  unfold without
  induction t with
  | nil => simp only [List.filter_nil, look]; split <;> rfl
  | cons p r ih =>
    obtain ⟨j, o⟩ := p
    simp only [List.filter_cons]
    by_cases hj : (findQ ps j).isNone = true
    · rw [if_pos hj]
      simp only [look]
      by_cases e : j = k
      · subst e; rw [if_pos rfl, if_pos hj]; simp
      · rw [if_neg e, ih]; simp [e]
    · rw [if_neg hj, ih]
      by_cases e : j = k
      · subst e; rw [if_neg hj, if_neg hj]
      · simp only [look, if_neg e]
def phiIn (ps : List (Nat × Nat)) (i k : Nat) : Nat × Nat := match i with
  | 0 => (0, (findP ps k).getD 0)
  | i + 1 => (i, k)
def phiOut (ps : List (Nat × Nat)) (i k : Nat) : Nat × Nat := match i with
  | 0 => match findQ ps k with
    | some m => (0, m)
    | none => (1, k)
  | i + 1 => (i + 2, k)
structure LentOk (t t0 : Store) (ps : List (Nat × Nat)) : Prop where
  there : ∀ m o, look t0 m = some o → ∃ k, findP ps m = some k ∧ look t k = some o
  back : ∀ m k, (m, k) ∈ ps → 500000 ≤ m ∧ (look t0 m).isSome = true ∧ findP ps m = some k ∧ findQ ps k = some m
  val : ∀ m cs, look t0 m = some (.box cs) → ∀ c, c ∈ cs → c.pos = none
  box : ∀ k cs, look t k = some (.box cs) → findQ ps k = none → ∀ c, c ∈ cs → ∀ m, c.pos = some (0, m) → findQ ps m = none
theorem pos_shift (c : AV) (n j m : Nat) (h : c.pos = some (j, m)) : (c.shift n).pos = some (j + n, m) := by
  cases c <;> simp only [AV.pos, AV.shift, Option.some.injEq, Prod.mk.injEq] at h ⊢ <;> first | (obtain ⟨rfl, rfl⟩ := h; exact ⟨rfl, rfl⟩) | cases h
theorem CRep.there {S : List Store} {c : AV} {u : Value} (h : CRep P w g S c u) {j m : Nat} (hp : c.pos = some (j, m)) : (getOb S j m).isSome = true := by
  cases c with
  | arr i k e lo n tot =>
    simp only [AV.pos, Option.some.injEq, Prod.mk.injEq] at hp
    obtain ⟨rfl, rfl⟩ := hp
    obtain ⟨fz, xs, h1, _⟩ := h
    rw [h1]; rfl
  | ref i k off =>
    simp only [AV.pos, Option.some.injEq, Prod.mk.injEq] at hp
    obtain ⟨rfl, rfl⟩ := hp
    obtain ⟨⟨cs, h1⟩, _⟩ := h
    rw [h1]; rfl
  | ear i k e tot j' off =>
    simp only [AV.pos, Option.some.injEq, Prod.mk.injEq] at hp
    obtain ⟨rfl, rfl⟩ := hp
    obtain ⟨fz, xs, h1, _⟩ := h
    rw [h1]; rfl
  | _ => cases hp
theorem LentOk.sinv {t t0 : Store} {ps : List (Nat × Nat)} {R : List Store} (hL : LentOk t t0 ps) (hi : SInv P w g may (t :: R)) : SInv P w (g.map (phiIn ps)) may (t0 :: without ps t :: R) := by
  have hob : ∀ i k o, getOb (t0 :: without ps t :: R) i k = some o → getOb (t :: R) (phiIn ps i k).1 (phiIn ps i k).2 = some o := by
    intro i k o h
    match i with
    | 0 =>
      obtain ⟨k', h1, h2⟩ := hL.there k o h
      show getOb (t :: R) 0 ((findP ps k).getD 0) = some o
      rw [h1]; exact h2
    | 1 =>
      have h : look (without ps t) k = some o := h
      rw [look_without] at h
      split at h
      · exact h
      · cases h
    | i + 2 => exact h
  refine hi.reframe hob (fun i k cs h c hc j m hp => ?_) (fun i k i' k' h h' he => ?_)
  · match i with
    | 0 => rw [hL.val k cs h c hc] at hp; cases hp
    | i + 1 =>
      have e0 : (phiIn ps (i + 1) k).1 = i := rfl
      have e1 : i + 1 + j = (i + j) + 1 := by omega
      rw [e0, e1]
      refine ⟨rfl, ?_⟩
      have h2 := hob _ _ _ h
      obtain ⟨_, _, vs, tt, _, h4, h5⟩ := hi.box _ _ cs h2
      obtain ⟨n, hn⟩ := List.getElem?_of_mem hc
      have hlt : n < cs.length := (List.getElem?_eq_some_iff.1 hn).1
      have h6 := (h5 n c (vs[n]'(by omega)) hn (List.getElem?_eq_getElem _)).1
      have h7 := h6.there (pos_shift c _ j m hp)
      rw [e0] at h7
      match i, h, h2, h7 with
      | 0, h, h2, h7 =>
        have hk : look (without ps t) k = some (.box cs) := h
        rw [look_without] at hk
        split at hk
        · rename_i hq
          match j, hp, h7 with
          | 0, hp, h7 =>
            have := hL.box k cs hk (by simpa using hq) c hc m hp
            show (look (without ps t) m).isSome = true
            rw [look_without, this]
            exact h7
          | j + 1, hp, h7 =>
            have e2 : (0 + (j + 1)) = j + 1 := by omega
            rw [e2]
            exact h7
        · cases hk
      | i + 1, h, h2, h7 =>
        have e2 : i + 1 + j = (i + j) + 1 := by omega
        rw [e2]
        have e3 : j + (i + 1) = (i + j) + 1 := by omega
        rw [e3] at h7
        exact h7
  · match i, i', h, h', he with
    | 0, 0, h, h', he =>
      obtain ⟨o, h⟩ := Option.isSome_iff_exists.1 h
      obtain ⟨o', h'⟩ := Option.isSome_iff_exists.1 h'
      obtain ⟨a, h1, _⟩ := hL.there k o h
      obtain ⟨b, h2, _⟩ := hL.there k' o' h'
      simp only [phiIn, h1, h2, Option.getD_some, Prod.mk.injEq, true_and] at he
      subst he
      have q1 := (hL.back k a (findP_mem h1)).2.2.2
      have q2 := (hL.back k' a (findP_mem h2)).2.2.2
      rw [q1] at q2
      simp only [Option.some.injEq] at q2
      exact ⟨rfl, q2⟩
    | 0, i' + 1, h, h', he =>
      exfalso
      obtain ⟨o, h⟩ := Option.isSome_iff_exists.1 h
      obtain ⟨a, h1, _⟩ := hL.there k o h
      simp only [phiIn, h1, Option.getD_some, Prod.mk.injEq] at he
      obtain ⟨rfl, rfl⟩ := he
      have q1 := (hL.back k a (findP_mem h1)).2.2.2
      have h' : (look (without ps t) a).isSome = true := h'
      rw [look_without, q1] at h'
      cases h'
    | i + 1, 0, h, h', he =>
      exfalso
      obtain ⟨o, h'⟩ := Option.isSome_iff_exists.1 h'
      obtain ⟨a, h1, _⟩ := hL.there k' o h'
      simp only [phiIn, h1, Option.getD_some, Prod.mk.injEq] at he
      obtain ⟨rfl, rfl⟩ := he
      have q1 := (hL.back k' k (findP_mem h1)).2.2.2
      have h : (look (without ps t) k).isSome = true := h
      rw [look_without, q1] at h
      cases h
    | i + 1, i' + 1, h, h', he =>
      simp only [phiIn, Prod.mk.injEq] at he
      exact ⟨by omega, he.2⟩
structure BackOk (t t' t0' : Store) (ps : List (Nat × Nat)) : Prop where
  lent : ∀ m k, (m, k) ∈ ps → ∃ o, look t0' m = some o ∧ look t' k = some o ∧ o.loose = true
  same : ∀ k, findQ ps k = none → look t' k = look t k
  val : ∀ m k cs, (m, k) ∈ ps → look t0' m = some (.box cs) → ∀ c, c ∈ cs → c.pos = none
theorem BackOk.sinv {t t0 t' t0' : Store} {ps : List (Nat × Nat)} {R : List Store} (hL : LentOk t t0 ps) (hB : BackOk t t' t0' ps) (hi : SInv P w g may (t0' :: without ps t :: R)) : SInv P w (g.map (phiOut ps)) may (t' :: R) := by
  have hob : ∀ i k o, getOb (t' :: R) i k = some o → getOb (t0' :: without ps t :: R) (phiOut ps i k).1 (phiOut ps i k).2 = some o := by
    intro i k o h
    match i with
    | 0 =>
      have h : look t' k = some o := h
      simp only [phiOut]
      cases hq : findQ ps k with
      | some m =>
        obtain ⟨o', h1, h2, _⟩ := hB.lent m k (findQ_mem hq)
        rw [h] at h2
        simp only [Option.some.injEq] at h2; subst h2
        exact h1
      | none =>
        show look (without ps t) k = some o
        rw [look_without, hq, ← hB.same k hq]; exact h
    | i + 1 => exact h
  refine hi.reframe hob (fun i k cs h c hc j m hp => ?_) (fun i k i' k' h h' he => ?_)
  · match i with
    | 0 =>
      have h0 : look t' k = some (.box cs) := h
      cases hq : findQ ps k with
      | some m' =>
        obtain ⟨o', h1, h2, _⟩ := hB.lent m' k (findQ_mem hq)
        rw [h0] at h2
        simp only [Option.some.injEq] at h2; subst h2
        rw [hB.val m' k cs (findQ_mem hq) h1 c hc] at hp; cases hp
      | none =>
        have e0 : (phiOut ps 0 k).1 = 1 := by simp only [phiOut, hq]
        have h2 := hob 0 k _ h
        obtain ⟨_, _, vs, tt, _, h4, h5⟩ := hi.box _ _ cs h2
        obtain ⟨n, hn⟩ := List.getElem?_of_mem hc
        have hlt : n < cs.length := (List.getElem?_eq_some_iff.1 hn).1
        have h6 := (h5 n c (vs[n]'(by omega)) hn (List.getElem?_eq_getElem _)).1
        have h7 := h6.there (pos_shift c _ j m hp)
        rw [e0] at h7 ⊢
        have hk : look t k = some (.box cs) := by rw [← hB.same k hq]; exact h0
        match j, hp, h7 with
        | 0, hp, h7 =>
          have hm := hL.box k cs hk hq c hc m hp
          refine ⟨by simp only [phiOut, hm], ?_⟩
          show (look t' m).isSome = true
          rw [hB.same m hm]
          have h7 : (look (without ps t) m).isSome = true := h7
          rw [look_without, hm] at h7
          exact h7
        | j + 1, hp, h7 =>
          have e3 : 0 + (j + 1) = j + 1 := by omega
          have e4 : 1 + (j + 1) = j + 2 := by omega
          rw [e3, e4]
          exact ⟨rfl, h7⟩
    | i + 1 =>
      have e0 : (phiOut ps (i + 1) k).1 = i + 2 := rfl
      have h2 := hob (i + 1) k _ h
      obtain ⟨_, _, vs, tt, _, h4, h5⟩ := hi.box _ _ cs h2
      obtain ⟨n, hn⟩ := List.getElem?_of_mem hc
      have hlt : n < cs.length := (List.getElem?_eq_some_iff.1 hn).1
      have h6 := (h5 n c (vs[n]'(by omega)) hn (List.getElem?_eq_getElem _)).1
      have h7 := h6.there (pos_shift c _ j m hp)
      rw [e0] at h7 ⊢
      have e1 : i + 1 + j = (i + j) + 1 := by omega
      have e2 : i + 2 + j = (i + j) + 2 := by omega
      have e3 : j + (i + 2) = (i + j) + 2 := by omega
      rw [e3] at h7
      rw [e1, e2]
      exact ⟨rfl, h7⟩
  · match i, i', h, h', he with
    | 0, 0, h, h', he =>
      simp only [phiOut] at he
      cases hq : findQ ps k with
      | some m =>
        cases hq' : findQ ps k' with
        | some m' =>
          rw [hq, hq'] at he
          simp only [Prod.mk.injEq, true_and] at he
          subst he
          have q1 := (hL.back m k (findQ_mem hq)).2.2.1
          have q2 := (hL.back m k' (findQ_mem hq')).2.2.1
          rw [q1] at q2
          simp only [Option.some.injEq] at q2
          exact ⟨rfl, q2⟩
        | none => rw [hq, hq'] at he; simp at he
      | none =>
        cases hq' : findQ ps k' with
        | some m' => rw [hq, hq'] at he; simp at he
        | none => rw [hq, hq'] at he; simp at he; exact ⟨rfl, he⟩
    | 0, i' + 1, h, h', he =>
      exfalso
      simp only [phiOut] at he
      cases hq : findQ ps k with
      | some m => rw [hq] at he; simp at he
      | none => rw [hq] at he; simp at he
    | i + 1, 0, h, h', he =>
      exfalso
      simp only [phiOut] at he
      cases hq : findQ ps k' with
      | some m => rw [hq] at he; simp at he
      | none => rw [hq] at he; simp at he
    | i + 1, i' + 1, h, h', he =>
      simp only [phiOut, Prod.mk.injEq] at he
      exact ⟨by omega, he.2⟩
end
end Go.AbsM
namespace Go.AbsM
section
variable {P : Program} {w w' : World} {g g' : Gh} {may : Nat → Prop}
def AV.valB : AV → Bool
  | .agg cs => cs.all AV.isVal
  | a => a.isVal
theorem HRep.val_any {S S' : List Store} {x : AV} {v : Value} (hx : x.valB = true) (hM : g'.M = g.M) (h : HRep P w g S x v) : HRep P w g' S' x v := by
  cases x with
  | agg cs =>
    obtain ⟨vs, rfl, hl, hr⟩ := h
    refine ⟨vs, rfl, hl, fun i c u hc hu => ⟨?_, (hr i c u hc hu).2⟩⟩
    have hv := List.all_eq_true.1 hx c (List.mem_of_getElem? hc)
    have h1 : Rep P w g.M c u := CRep.rep (hr i c u hc hu).1 hv
    exact CRep.of_rep (by rw [hM]; exact h1) hv
  | arr => cases hx
  | ref => cases hx
  | ear => cases hx
  | efz => cases hx
  | und => cases hx
  | dead => cases hx
  | tup => cases hx
  | own => cases hx
  | obj => cases hx
  | _ =>
    have h1 : Rep P w g.M _ v := h
    exact HRep.of_rep (by rw [hM]; exact h1)
def ArgIn (P : Program) (ps : List (Nat × Nat)) (x y : AV) : Prop :=
  (x.valB = true ∧ ∀ (w : World) (g : Gh) (S : List Store) (v : Value), HRep P w g S x v → HRep P w g S y v) ∨ (∃ m k e n, findP ps m = some k ∧ x = .arr 1 k e 0 n n ∧ y = .arr 0 m e 0 n n) ∨ (∃ m k, findP ps m = some k ∧ x = .ref 1 k 0 ∧ y = .ref 0 m 0)
theorem LentOk.get {t t0 : Store} {ps : List (Nat × Nat)} (hL : LentOk t t0 ps) {m k : Nat} (h : findP ps m = some k) {o : Ob} (ho : look t k = some o) : look t0 m = some o := by
  obtain ⟨o0, h1⟩ := Option.isSome_iff_exists.1 (hL.back m k (findP_mem h)).2.1
  obtain ⟨k', h2, h3⟩ := hL.there m o0 h1
  rw [h] at h2
  simp only [Option.some.injEq] at h2; subst h2
  rw [ho] at h3
  simp only [Option.some.injEq] at h3; subst h3
  exact h1
theorem ArgIn.rep {t t0 : Store} {ps : List (Nat × Nat)} {R : List Store} (hL : LentOk t t0 ps) {x y : AV} {v : Value} (ha : ArgIn P ps x y) (h : HRep P w g.push ([] :: t :: R) x v) : HRep P w (g.map (phiIn ps)) (t0 :: without ps t :: R) y v := by
  rcases ha with ⟨hv, hk⟩ | ⟨m, k, e, n, hf, rfl, rfl⟩ | ⟨m, k, hf, rfl, rfl⟩
  · exact hk _ _ _ _ (HRep.val_any (g := g.push) (g' := g.map (phiIn ps)) hv rfl h)
  · obtain ⟨fz, xs, h1, h2, h3, h4⟩ := h
    have h1 : look t k = some (.arr fz e xs) := h1
    refine ⟨fz, xs, hL.get hf h1, h2, fun he => ?_, h4⟩
    have := h3 he
    have e1 : (g.map (phiIn ps)).B 0 m = g.B 0 k := by simp only [Gh.map, phiIn, hf, Option.getD_some]
    have e2 : (g.map (phiIn ps)).C 0 m = g.C 0 k := by simp only [Gh.map, phiIn, hf, Option.getD_some]
    rw [e1, e2]
    exact this
  · obtain ⟨⟨cs, h1⟩, h2⟩ := h
    have h1 : look t k = some (.box cs) := h1
    refine ⟨⟨cs, hL.get hf h1⟩, ?_⟩
    have e1 : (g.map (phiIn ps)).B 0 m = g.B 0 k := by simp only [Gh.map, phiIn, hf, Option.getD_some]
    rw [e1]
    exact h2
def enterL (fn : Func) (bs : List AV) (S : List Store) : St := { slots := bs ++ List.replicate (fn.ntmps - bs.length) .und, stores := S }
end
end Go.AbsM

/-! ## AbtLend -/
namespace Go.AbsM
inductive LT where
  | v (t : VT)
  | l (e : TypeId) (t : VT)
  | m (e : TypeId) (t : VT)
  | b (t : VT)
  | w (t : VT)
@[reducible] def LT.den : LT → Type
  | .v t => t.den
  | .l _ t => List t.den
  | .m _ t => List t.den
  | .b t => t.den
  | .w t => List t.den
def densL : List LT → Type
  | [] => Unit
  | a :: r => a.den × densL r
def effs : List LT → Type
  | [] => Unit
  | .v _ :: r => effs r
  | .l _ _ :: r => effs r
  | .m _ t :: r => List t.den × effs r
  | .b t :: r => t.den × effs r
  | .w t :: r => List t.den × effs r
def LT.isM : LT → Bool
  | .m _ _ => true
  | _ => false
def LT.isB : LT → Bool
  | .b _ => true
  | .w _ => true
  | _ => false
def LT.dec (S : TStore) : (a : LT) → T1 → Option a.den
  | .v t, x => t.ofT1 x
  | .l e t, x => (AT.l e t).dec x
  | .m e t, x => match x with
    | .c (.h k) => match lookT S k with
      | some (.arr false e' t' xs) => if e' = e then if h : t' = t then some (h ▸ xs) else none else none
      | _ => none
    | _ => none
  | .b t, x => match x with
    | .c (.a (.ref 0 k 0)) => match lookT S k with
      | some (.box cs) => match t.ofTC cs with
        | some (y, []) => some y
        | _ => none
      | _ => none
    | _ => none
  | .w t, x => match x with
    | .c (.a (.ref 0 k 0)) => match lookT S k with
      | some (.hb t' xs) => if h : t' = t then some (h ▸ xs) else none
      | _ => none
    | _ => none
def decsL (S : TStore) : (l : List LT) → List T1 → Option (densL l)
  | [], [] => some ()
  | a :: r, x :: xs => match a.dec S x, decsL S r xs with
    | some d, some ds => some (d, ds)
    | _, _ => none
  | _, _ => none
def LT.name : LT → T1 → List Nat
  | .m _ _, .c (.h k) => [k]
  | .b _, .c (.a (.ref 0 k 0)) => [k]
  | .w _, .c (.a (.ref 0 k 0)) => [k]
  | _, _ => []
def namesL : List LT → List T1 → List Nat
  | a :: r, x :: xs => a.name x ++ namesL r xs
  | _, _ => []
def putL : (l : List LT) → List T1 → effs l → TStore → TStore
  | [], _, _, S => S
  | .v _ :: r, _ :: xs, z, S => putL r xs z S
  | .l _ _ :: r, _ :: xs, z, S => putL r xs z S
  | .m e t :: r, x :: xs, z, S => match x with
    | .c (.h k) => putL r xs (Prod.snd z) (layT S k (.arr false e t (Prod.fst z)))
    | _ => S
  | .b t :: r, x :: xs, z, S => match x with
    | .c (.a (.ref 0 k 0)) => putL r xs (Prod.snd z) (layT S k (.box (t.tc (Prod.fst z))))
    | _ => S
  | .w t :: r, x :: xs, z, S => match x with
    | .c (.a (.ref 0 k 0)) => putL r xs (Prod.snd z) (layT S k (.hb t (Prod.fst z)))
    | _ => S
  | _, _, _, S => S
def TC.free (ks : List Nat) : TC → Bool
  | .h k => !ks.contains k
  | .eh k _ _ => !ks.contains k
  | .a (.arr 0 k ..) => !ks.contains k
  | .a (.ear 0 k ..) => !ks.contains k
  | .a (.ref 0 k _) => !ks.contains k
  | _ => true
def okBoxes (ks : List Nat) (S : TStore) : Bool := S.all fun p => ks.contains p.1 || match p.2 with
  | .box cs => cs.all (TC.free ks)
  | _ => true
def sameL : (l : List LT) → densL l → effs l → Prop
  | [], _, _ => True
  | .v _ :: r, d, z => sameL r (Prod.snd d) z
  | .l _ _ :: r, d, z => sameL r (Prod.snd d) z
  | .m _ _ :: r, d, z => (Prod.fst z).length = (Prod.fst d).length ∧ sameL r (Prod.snd d) (Prod.snd z)
  | .b _ :: r, d, z => sameL r (Prod.snd d) (Prod.snd z)
  | .w _ :: r, d, z => sameL r (Prod.snd d) (Prod.snd z)
def lentS : (l : List LT) → Nat → densL l → TStore
  | [], _, _ => []
  | .v _ :: r, j, d => lentS r (j + 1) (Prod.snd d)
  | .l _ _ :: r, j, d => lentS r (j + 1) (Prod.snd d)
  | .m e t :: r, j, d => (j, .arr false e t (Prod.fst d)) :: lentS r (j + 1) (Prod.snd d)
  | .b t :: r, j, d => (j, .box (t.tc (Prod.fst d))) :: lentS r (j + 1) (Prod.snd d)
  | .w t :: r, j, d => (j, .hb t (Prod.fst d)) :: lentS r (j + 1) (Prod.snd d)
def LT.larg (j : Nat) : (a : LT) → a.den → T1
  | .v t, x => t.t1 x
  | .l e t, xs => .c (.sl e t (.mk xs))
  | .m _ _, _ => .c (.h j)
  | .b _, _ => .c (.a (.ref 0 j 0))
  | .w _, _ => .c (.a (.ref 0 j 0))
def largs : (l : List LT) → Nat → densL l → List T1
  | [], _, _ => []
  | a :: r, j, d => a.larg j (Prod.fst d) :: largs r (j + 1) (Prod.snd d)
def lentN : List LT → Nat → List Nat
  | [], _ => []
  | a :: r, j => if a.isM || a.isB then j :: lentN r (j + 1) else lentN r (j + 1)
def getL : (l : List LT) → Nat → TStore → Option (effs l)
  | [], _, _ => some ()
  | .v _ :: r, j, S => getL r (j + 1) S
  | .l _ _ :: r, j, S => getL r (j + 1) S
  | .m e t :: r, j, S => match (LT.m e t).dec S (.c (.h j)), getL r (j + 1) S with
    | some x, some z => some (x, z)
    | _, _ => none
  | .b t :: r, j, S => match (LT.b t).dec S (.c (.a (.ref 0 j 0))), getL r (j + 1) S with
    | some x, some z => some (x, z)
    | _, _ => none
  | .w t :: r, j, S => match (LT.w t).dec S (.c (.a (.ref 0 j 0))), getL r (j + 1) S with
    | some x, some z => some (x, z)
    | _, _ => none
def LT.decA (t : Store) : (a : LT) → AV → Option a.den
  | .v vt, x => vt.ofA x
  | .l e vt, x => (AT.l e vt).decA x
  | .m e vt, x => match x with
    | .arr 1 k e' 0 n tot => match look t k with
      | some (.arr false e2 xs) => if e' = e ∧ e2 = e ∧ n = xs.length ∧ tot = xs.length then mapA vt.ofA xs else none
      | _ => none
    | _ => none
  | .b vt, x => match x with
    | .ref 1 k 0 => match look t k with
      | some (.box cs) => match vt.ofAs cs with
        | some (y, []) => some y
        | _ => none
      | _ => none
    | _ => none
  | .w vt, x => match x with
    | .ref 1 k 0 => match look t k with
      | some (.box cs) => mapA vt.ofA cs
      | _ => none
    | _ => none
def decsLA (t : Store) : (l : List LT) → List AV → Option (densL l)
  | [], [] => some ()
  | a :: r, x :: xs => match a.decA t x, decsLA t r xs with
    | some d, some ds => some (d, ds)
    | _, _ => none
  | _, _ => none
def LT.nameA : LT → AV → List Nat
  | .m _ _, .arr 1 k _ _ _ _ => [k]
  | .b _, .ref 1 k 0 => [k]
  | .w _, .ref 1 k 0 => [k]
  | _, _ => []
def namesLA : List LT → List AV → List Nat
  | a :: r, x :: xs => a.nameA x ++ namesLA r xs
  | _, _ => []
def putLA : (l : List LT) → List AV → effs l → Store → Store
  | [], _, _, S => S
  | .v _ :: r, _ :: xs, z, S => putLA r xs z S
  | .l _ _ :: r, _ :: xs, z, S => putLA r xs z S
  | .m e t :: r, x :: xs, z, S => match x with
    | .arr 1 k _ _ _ _ => putLA r xs (Prod.snd z) (lay S k (.arr false e ((Prod.fst z).map t.emb)))
    | _ => S
  | .b t :: r, x :: xs, z, S => match x with
    | .ref 1 k 0 => putLA r xs (Prod.snd z) (lay S k (.box (t.cells (Prod.fst z))))
    | _ => S
  | .w t :: r, x :: xs, z, S => match x with
    | .ref 1 k 0 => putLA r xs (Prod.snd z) (lay S k (.box ((Prod.fst z).map t.emb)))
    | _ => S
  | _, _, _, S => S
def AV.freeA (ks : List Nat) : AV → Bool
  | .arr 0 k .. => !ks.contains k
  | .ear 0 k .. => !ks.contains k
  | .ref 0 k _ => !ks.contains k
  | _ => true
def okBoxA (ks : List Nat) (t : Store) : Bool := t.all fun p => ks.contains p.1 || match p.2 with
  | .box cs => cs.all (AV.freeA ks)
  | _ => true
def lentA : (l : List LT) → Nat → densL l → Store
  | [], _, _ => []
  | .v _ :: r, j, d => lentA r (j + 1) (Prod.snd d)
  | .l _ _ :: r, j, d => lentA r (j + 1) (Prod.snd d)
  | .m e t :: r, j, d => (j, .arr false e ((Prod.fst d).map t.emb)) :: lentA r (j + 1) (Prod.snd d)
  | .b t :: r, j, d => (j, .box (t.cells (Prod.fst d))) :: lentA r (j + 1) (Prod.snd d)
  | .w t :: r, j, d => (j, .box ((Prod.fst d).map t.emb)) :: lentA r (j + 1) (Prod.snd d)
def pairsL : List LT → Nat → List AV → List (Nat × Nat)
  | .m _ _ :: r, j, x :: xs => match x with
    | .arr 1 k _ _ _ _ => (j, k) :: pairsL r (j + 1) xs
    | _ => pairsL r (j + 1) xs
  | .b _ :: r, j, x :: xs => match x with
    | .ref 1 k 0 => (j, k) :: pairsL r (j + 1) xs
    | _ => pairsL r (j + 1) xs
  | .w _ :: r, j, x :: xs => match x with
    | .ref 1 k 0 => (j, k) :: pairsL r (j + 1) xs
    | _ => pairsL r (j + 1) xs
  | _ :: r, j, _ :: xs => pairsL r (j + 1) xs
  | _, _, _ => []
section
variable {P : Program} {w : World} {g : Gh} {may : Nat → Prop}
theorem lookT_emb (S : TStore) (k : Nat) : look (embStore S) k = (lookT S k).map (TOb.emb S) := look_embAux S S k
theorem emb_pos (t : VT) (l : List t.den) (c : AV) (hc : c ∈ l.map t.emb) : c.pos = none := by
  obtain ⟨x, _, rfl⟩ := List.mem_map.1 hc
  rcases emb_val t x with h | ⟨cs, h⟩
  · cases hy : t.emb x <;> rw [hy] at h <;> first | rfl | cases h
  · rw [h]; rfl
theorem dec_m {S : TStore} {e : TypeId} {t : VT} {x : T1} {d : List t.den} (h : (LT.m e t).dec S x = some d) : ∃ k, x = .c (.h k) ∧ lookT S k = some (.arr false e t d) := by
  simp only [LT.dec] at h
  split at h
  · rename_i k
    split at h
    · rename_i e' t' xs hl
      split at h
      · rename_i he
        split at h
        · rename_i ht
          subst he; subst ht
          cases h
          exact ⟨k, rfl, hl⟩
        · cases h
      · cases h
    · cases h
  · cases h
theorem dec_b {S : TStore} {t : VT} {x : T1} {d : t.den} (h : (LT.b t).dec S x = some d) : ∃ k cs, x = .c (.a (.ref 0 k 0)) ∧ lookT S k = some (.box cs) ∧ t.ofTC cs = some (d, []) := by
  simp only [LT.dec] at h
  split at h
  · rename_i k
    split at h
    · rename_i cs hl
      split at h
      · rename_i y hy
        cases h
        exact ⟨k, cs, rfl, hl, hy⟩
      · cases h
    · cases h
  · cases h
theorem dec_w {S : TStore} {t : VT} {x : T1} {d : List t.den} (h : (LT.w t).dec S x = some d) : ∃ k, x = .c (.a (.ref 0 k 0)) ∧ lookT S k = some (.hb t d) := by
  simp only [LT.dec] at h
  split at h
  · rename_i k
    split at h
    · rename_i t' xs hl
      split at h
      · rename_i ht
        subst ht
        cases h
        exact ⟨k, rfl, hl⟩
      · cases h
    · cases h
  · cases h
theorem t1_valB (t : VT) (x : t.den) (S : TStore) : ((t.t1 x).emb S).valB = true := by
  have h := t1_noH t x
  cases hy : t.t1 x with
  | own => rw [hy] at h; cases h
  | agg cs =>
    rw [hy] at h
    show (cs.map (TC.emb S)).all AV.isVal = true
    rw [List.all_map, List.all_eq_true]
    exact fun c hc => isVal_is (List.all_eq_true.1 h c hc) S
  | c c =>
    rw [hy] at h
    have h2 := isVal_is (c := c) h S
    show (c.emb S).valB = true
    cases hz : c.emb S <;> rw [hz] at h2 <;> first | exact h2 | cases h2
def enterTL (fn : Func) (l : List LT) (d : densL l) : TSt := { slots := (largs l 500000 d).map TV.o ++ List.replicate (fn.ntmps - (largs l 500000 d).length) (.a .und), st := lentS l 500000 d }
def outTL (P : Program) (s : TSt) (rs : List ResultVar) (l : List LT) (K : effs l → TV → Prop) : Prop :=
  resultAllT P s rs fun q => settleT s q fun s1 l1 => outAllT s1 (lentN l 500000) l1 fun vs => need (getL l 500000 s1.st) fun z => K z (oneOfT vs)
def endTL (P : Program) (fn : Func) (l : List LT) (K : effs l → TV → Prop) (e : AExit) (s : TSt) : Prop := match e with
  | .ret => outTL P s fn.results.toList l K
  | .normal => outTL P s fn.results.toList l K
  | _ => False
def wpFnL (P : Program) (Λ : Known) (fn : Func) (l : List LT) (d : densL l) (K : effs l → TV → Prop) : Prop := match fn.body with
  | some c => wpT P Λ c (enterTL fn l d) (endTL P fn l K)
  | none => False
theorem nlAV_shift {α : Type} (e : TypeId) (f : α → AV) (x : NL α) : (nlAV e f x).shift 1 = nlAV e f x := by cases x <;> rfl
theorem dec_up {S : TStore} {a : LT} {x : T1} {d : a.den} (h : a.dec S x = some d) : a.decA (embStore S) ((x.emb S).shift 1) = some d ∧ a.nameA ((x.emb S).shift 1) = a.name x := by
  cases a with
  | v t =>
    have h : t.ofT1 x = some d := h
    have e1 := ofT1_emb S h
    have e2 : (t.emb d).shift 1 = t.emb d := by
      have := t1_valB t d []
      rw [t1_emb] at this
      cases hy : t.emb d <;> rw [hy] at this <;> first | rfl | cases this
    refine ⟨?_, ?_⟩
    · show t.ofA _ = _
      rw [← e1, e2]; exact ofA_emb t d
    · have : ∀ y : AV, (LT.v t).nameA y = [] := fun y => by unfold LT.nameA; split <;> first | rfl | (rename_i h; cases h)
      rw [this]; rfl
  | l e t =>
    have h : (AT.l e t).dec x = some d := h
    have h5 := dec_decA h
    have hn : ∀ y : AV, (LT.l e t).nameA y = [] := fun y => by unfold LT.nameA; split <;> first | rfl | (rename_i h; cases h)
    have hn2 : (LT.l e t).name x = [] := by unfold LT.name; split <;> first | rfl | (rename_i h; cases h)
    rw [hn, hn2]
    have hx : (x.emb S).shift 1 = x.emb [] := by
      simp only [AT.dec] at h
      split at h
      · rfl
      · rfl
      · exact nlAV_shift _ _ _
      · cases h
    rw [hx]
    exact ⟨h5, rfl⟩
  | m e t =>
    obtain ⟨k, rfl, h1⟩ := dec_m h
    have e1 : ((T1.c (.h k)).emb S).shift 1 = .arr 1 k e 0 d.length d.length := by
      show (AV.shift 1 (match shapeT S k with
        | some (e, n) => AV.arr 0 k e 0 n n
        | none => .dead)) = _
      simp only [shapeT, h1]; rfl
    rw [e1]
    refine ⟨?_, rfl⟩
    have h2 : look (embStore S) k = some (.arr false e (d.map t.emb)) := by rw [lookT_emb, h1]; rfl
    simp only [LT.decA, h2, List.length_map, and_self, if_true, mapA_emb]
  | b t =>
    obtain ⟨k, cs, rfl, h1, h3⟩ := dec_b h
    refine ⟨?_, rfl⟩
    have he := ofTC_emb t cs [] d S h3
    rw [List.map_nil, List.append_nil] at he
    have h2 : look (embStore S) k = some (.box (t.cells d)) := by
      rw [lookT_emb, h1]; show some (Ob.box (cs.map (TC.emb S))) = _; rw [he]
    show (match look (embStore S) k with
      | some (.box cs) => match t.ofAs cs with
        | some (y, []) => some y
        | _ => none
      | _ => none) = some d
    rw [h2]
    have := ofAs_cells t d []
    rw [List.append_nil] at this
    simp only [this]
  | w t =>
    obtain ⟨k, rfl, h1⟩ := dec_w h
    refine ⟨?_, rfl⟩
    have h2 : look (embStore S) k = some (.box (d.map t.emb)) := by
      rw [lookT_emb, h1]; rfl
    show (match look (embStore S) k with
      | some (.box cs) => mapA t.ofA cs
      | _ => none) = some d
    rw [h2]
    exact mapA_emb t d
theorem decs_up {S : TStore} : ∀ {l : List LT} {xs : List T1} {d : densL l}, decsL S l xs = some d → decsLA (embStore S) l ((xs.map (T1.emb S)).map (AV.shift 1)) = some d ∧ namesLA l ((xs.map (T1.emb S)).map (AV.shift 1)) = namesL l xs
  | [], [], d, h => ⟨h, rfl⟩
  | [], _ :: _, d, h => by cases h
  | a :: r, [], d, h => by cases h
  | a :: r, x :: xs, d, h => by
    simp only [decsL] at h
    split at h
    · rename_i d1 ds h1 h2
      cases h
      obtain ⟨p1, p2⟩ := dec_up h1
      obtain ⟨q1, q2⟩ := decs_up h2
      refine ⟨?_, ?_⟩
      · simp only [List.map_cons, decsLA, p1, q1]
      · simp only [List.map_cons, namesLA, namesL, p2, q2]
    · cases h
theorem free_up {ks : List Nat} {S : TStore} {c : TC} (h : c.free ks = true) : (c.emb S).freeA ks = true := by
  cases c with
  | h k =>
    simp only [TC.emb]
    split
    · exact h
    · rfl
  | eh k j off =>
    simp only [TC.emb]
    split
    · exact h
    · rfl
  | sl e t x => cases x <;> rfl
  | a x =>
    simp only [TC.emb]
    cases x with
    | arr i k e lo n tot => cases i <;> first | exact h | rfl
    | ear i k e tot j off => cases i <;> first | exact h | rfl
    | ref i k off => cases i <;> first | exact h | rfl
    | _ => rfl
theorem boxes_up {ks : List Nat} {S : TStore} (h : okBoxes ks S = true) : okBoxA ks (embStore S) = true := by
  refine List.all_eq_true.2 fun p hp => ?_
  obtain ⟨⟨k, o⟩, hq, rfl⟩ := List.mem_map.1 hp
  have := List.all_eq_true.1 h _ hq
  simp only [Bool.or_eq_true] at this ⊢
  rcases this with h1 | h1
  · exact .inl h1
  · refine .inr ?_
    cases o with
    | arr => rfl
    | hb t xs =>
      refine List.all_eq_true.2 fun c hc => ?_
      have := emb_pos t xs c hc
      cases c <;> first | rfl | cases this
    | box cs =>
      refine List.all_eq_true.2 fun c hc => ?_
      obtain ⟨c', hc', rfl⟩ := List.mem_map.1 hc
      exact free_up (List.all_eq_true.1 h1 c' hc')
end
end Go.AbsM

/-! ## AbtCtr -/
namespace Go.AbsM
structure LCtr where
  f : FuncId
  sig : List LT
  pre : densL sig → Prop
  eff : densL sig → effs sig
  out : densL sig → TV
  outK : densL sig → (effs sig → TV → Prop) → Prop
  outK_ok : ∀ d K, outK d K → K (eff d) (out d)
  outOk : ∀ d, (out d).outOk = true
  same : ∀ d, pre d → sameL sig d (eff d)
  any : (sig.any fun a => a.isM || a.isB) = true
def LCtr.det (f : FuncId) (sig : List LT) (pre : densL sig → Prop) (eff : densL sig → effs sig) (out : densL sig → TV) (h : ∀ d, (out d).outOk = true) (same : ∀ d, pre d → sameL sig d (eff d)) (any : (sig.any fun a => a.isM || a.isB) = true) : LCtr :=
  { f, sig, pre, eff, out, outK := fun d K => K (eff d) (out d), outK_ok := fun _ _ h => h, outOk := h, same := same, any := any }
def findD : List LCtr → FuncId → Option LCtr
  | [], _ => none
  | c :: r, f => if c.f = f then some c else findD r f
theorem findD_mem {L : List LCtr} {f : FuncId} {c : LCtr} (h : findD L f = some c) : c ∈ L ∧ c.f = f := by
  induction L with
  | nil => cases h
  | cons a r ih =>
    simp only [findD] at h
    split at h
    · rename_i he
      simp only [Option.some.injEq] at h; subst h
      exact ⟨List.mem_cons_self, he⟩
    · exact ⟨List.mem_cons_of_mem _ (ih h).1, (ih h).2⟩
def lendOf (c : LCtr) : Lend := fun s args K => match decsL s.st c.sig args with
  | some d => if nodupB (namesL c.sig args) && okBoxes (namesL c.sig args) s.st then c.pre d ∧ c.outK d fun z r => K { s with st := putL c.sig args z s.st } r else False
  | none => False
theorem nodupB_ok : ∀ {l : List Nat}, nodupB l = true → l.Nodup
  | [], _ => List.nodup_nil
  | a :: r, h => by
    simp only [nodupB, Bool.and_eq_true, Bool.not_eq_true'] at h
    exact List.nodup_cons.2 ⟨fun hm => by have := h.1; simp at this; exact this hm, nodupB_ok h.2⟩
def Shp (S : TStore) : (l : List LT) → List T1 → effs l → Prop
  | [], _, _ => True
  | .v _ :: r, _ :: xs, z => Shp S r xs z
  | .l _ _ :: r, _ :: xs, z => Shp S r xs z
  | .m e t :: r, x :: xs, z => (∃ k fz t' ys, x = .c (.h k) ∧ lookT S k = some (.arr fz e t' ys) ∧ ys.length = (Prod.fst z).length) ∧ Shp S r xs (Prod.snd z)
  | .b t :: r, x :: xs, z => (∃ k cs, x = .c (.a (.ref 0 k 0)) ∧ lookT S k = some (.box cs)) ∧ Shp S r xs (Prod.snd z)
  | .w t :: r, x :: xs, z => (∃ k t' ys, x = .c (.a (.ref 0 k 0)) ∧ lookT S k = some (.hb t' ys)) ∧ Shp S r xs (Prod.snd z)
  | _ :: _, [], _ => True
theorem Shp.lay {S : TStore} {k0 : Nat} {o o0 : TOb} (h0 : lookT S k0 = some o0) (hs : match o0 with
      | .arr _ e _ ys => ∃ fz t' ys', o = .arr fz e t' ys' ∧ ys'.length = ys.length
      | .hb _ _ => ∃ t' ys', o = .hb t' ys'
      | .box _ => ∃ cs, o = .box cs) : ∀ (l : List LT) (xs : List T1) (z : effs l), Shp S l xs z → Shp (layT S k0 o) l xs z
  | [], _, _, _ => trivial
  | .v _ :: r, [], z, h => trivial
  | .l _ _ :: r, [], z, h => trivial
  | .m _ _ :: r, [], z, h => trivial
  | .b _ :: r, [], z, h => trivial
  | .w _ :: r, [], z, h => trivial
  | .v _ :: r, _ :: xs, z, h => Shp.lay h0 hs r xs z h
  | .l _ _ :: r, _ :: xs, z, h => Shp.lay h0 hs r xs z h
  | .m e t :: r, x :: xs, z, h => by
    obtain ⟨⟨k, fz, t', ys, rfl, h1, h2⟩, h3⟩ := h
    refine ⟨?_, Shp.lay h0 hs r xs _ h3⟩
    by_cases hk : k = k0
    · subst hk
      rw [h0] at h1
      simp only [Option.some.injEq] at h1; subst h1
      obtain ⟨fz2, t2, ys2, rfl, h4⟩ := hs
      exact ⟨k, fz2, t2, ys2, rfl, by rw [lookT_lay, if_pos rfl, h0]; rfl, by omega⟩
    · exact ⟨k, fz, t', ys, rfl, by rw [lookT_lay, if_neg hk]; exact h1, h2⟩
  | .b t :: r, x :: xs, z, h => by
    obtain ⟨⟨k, cs, rfl, h1⟩, h3⟩ := h
    refine ⟨?_, Shp.lay h0 hs r xs _ h3⟩
    by_cases hk : k = k0
    · subst hk
      rw [h0] at h1
      simp only [Option.some.injEq] at h1; subst h1
      obtain ⟨cs2, rfl⟩ := hs
      exact ⟨k, cs2, rfl, by rw [lookT_lay, if_pos rfl, h0]; rfl⟩
    · exact ⟨k, cs, rfl, by rw [lookT_lay, if_neg hk]; exact h1⟩
  | .w t :: r, x :: xs, z, h => by
    obtain ⟨⟨k, t', ys, rfl, h1⟩, h3⟩ := h
    refine ⟨?_, Shp.lay h0 hs r xs _ h3⟩
    by_cases hk : k = k0
    · subst hk
      rw [h0] at h1
      simp only [Option.some.injEq] at h1; subst h1
      obtain ⟨t2, ys2, rfl⟩ := hs
      exact ⟨k, t2, ys2, rfl, by rw [lookT_lay, if_pos rfl, h0]; rfl⟩
    · exact ⟨k, t', ys, rfl, by rw [lookT_lay, if_neg hk]; exact h1⟩
theorem put_up {R : List Store} {S0 : TStore} : ∀ (l : List LT) (xs : List T1) (z : effs l) (s : TSt), Alike S0 s.st → Shp s.st l xs z →
    (TSt.mk s.slots (putL l xs z s.st)).emb R = { s.emb R with stores := putLA l ((xs.map (T1.emb S0)).map (AV.shift 1)) z (embStore s.st) :: R }
  | [], xs, z, s, ha, h => by cases xs <;> rfl
  | .v _ :: r, [], z, s, ha, h => rfl
  | .l _ _ :: r, [], z, s, ha, h => rfl
  | .m _ _ :: r, [], z, s, ha, h => rfl
  | .b _ :: r, [], z, s, ha, h => rfl
  | .w _ :: r, [], z, s, ha, h => rfl
  | .v _ :: r, x :: xs, z, s, ha, h => put_up r xs z s ha h
  | .l _ _ :: r, x :: xs, z, s, ha, h => put_up r xs z s ha h
  | .m e t :: r, x :: xs, z, s, ha, h => by
    obtain ⟨⟨k, fz, t', ys, rfl, h1, h2⟩, h3⟩ := h
    have hal : Alike s.st (layT s.st k (.arr false e t (Prod.fst z))) := shape_lay h1 (by show some (e, ys.length) = some (e, (Prod.fst z).length); rw [h2])
    have ih := put_up (R := R) r xs (Prod.snd z) (s.lay k (.arr false e t (Prod.fst z))) (fun j => (ha j).trans (hal j)) (Shp.lay h1 ⟨false, t, Prod.fst z, rfl, h2.symm⟩ r xs _ h3)
    have e1 := emb_lay R s k (.arr false e t (Prod.fst z)) hal
    have sh : shapeT S0 k = some (e, ys.length) := by rw [ha k]; simp only [shapeT, h1]
    have e2 : ((T1.c (.h k)).emb S0).shift 1 = .arr 1 k e 0 ys.length ys.length := by
      show (AV.shift 1 (match shapeT S0 k with
        | some (e, n) => AV.arr 0 k e 0 n n
        | none => .dead)) = _
      rw [sh]; rfl
    show (TSt.mk s.slots (putL r xs (Prod.snd z) (layT s.st k (.arr false e t (Prod.fst z))))).emb R = _
    have ih' : (TSt.mk s.slots (putL r xs (Prod.snd z) (layT s.st k (.arr false e t (Prod.fst z))))).emb R = _ := ih
    rw [ih', e1]
    simp only [List.map_cons, e2, putLA]
    have e3 : embStore (s.lay k (.arr false e t (Prod.fst z))).st = lay (embStore s.st) k (.arr false e ((Prod.fst z).map t.emb)) := by
      have := congrArg St.stores e1
      exact (List.cons.inj this).1
    rw [e3]
  | .b t :: r, x :: xs, z, s, ha, h => by
    obtain ⟨⟨k, cs, rfl, h1⟩, h3⟩ := h
    have hal : Alike s.st (layT s.st k (.box (t.tc (Prod.fst z)))) := shape_lay h1 rfl
    have ih := put_up (R := R) r xs (Prod.snd z) (s.lay k (.box (t.tc (Prod.fst z)))) (fun j => (ha j).trans (hal j)) (Shp.lay h1 ⟨_, rfl⟩ r xs _ h3)
    have e1 := emb_lay R s k (.box (t.tc (Prod.fst z))) hal
    show (TSt.mk s.slots (putL r xs (Prod.snd z) (layT s.st k (.box (t.tc (Prod.fst z)))))).emb R = _
    have ih' : (TSt.mk s.slots (putL r xs (Prod.snd z) (layT s.st k (.box (t.tc (Prod.fst z)))))).emb R = _ := ih
    rw [ih', e1]
    have e3 : embStore (s.lay k (.box (t.tc (Prod.fst z)))).st = lay (embStore s.st) k (.box (t.cells (Prod.fst z))) := by
      have := congrArg St.stores e1
      have h5 := (List.cons.inj this).1
      rw [← tc_emb t (Prod.fst z) s.st]
      exact h5
    rw [e3]
    rfl
  | .w t :: r, x :: xs, z, s, ha, h => by
    obtain ⟨⟨k, t', ys, rfl, h1⟩, h3⟩ := h
    have hal : Alike s.st (layT s.st k (.hb t (Prod.fst z))) := shape_lay h1 rfl
    have ih := put_up (R := R) r xs (Prod.snd z) (s.lay k (.hb t (Prod.fst z))) (fun j => (ha j).trans (hal j)) (Shp.lay h1 ⟨_, _, rfl⟩ r xs _ h3)
    have e1 := emb_lay R s k (.hb t (Prod.fst z)) hal
    show (TSt.mk s.slots (putL r xs (Prod.snd z) (layT s.st k (.hb t (Prod.fst z))))).emb R = _
    have ih' : (TSt.mk s.slots (putL r xs (Prod.snd z) (layT s.st k (.hb t (Prod.fst z))))).emb R = _ := ih
    rw [ih', e1]
    have e3 : embStore (s.lay k (.hb t (Prod.fst z))).st = lay (embStore s.st) k (.box ((Prod.fst z).map t.emb)) := by
      have := congrArg St.stores e1
      exact (List.cons.inj this).1
    rw [e3]
    rfl
theorem shp_of {S : TStore} : ∀ {l : List LT} {xs : List T1} {d : densL l} (z : effs l), decsL S l xs = some d → sameL l d z → Shp S l xs z
  | [], xs, d, z, h, hs => trivial
  | a :: r, [], d, z, h, hs => by cases h
  | a :: r, x :: xs, d, z, h, hs => by
    simp only [decsL] at h
    split at h
    · rename_i d1 ds h1 h2
      cases h
      cases a with
      | v t => exact shp_of (l := r) z h2 hs
      | l e t => exact shp_of (l := r) z h2 hs
      | m e t =>
        obtain ⟨k, rfl, h3⟩ := dec_m h1
        exact ⟨⟨k, false, t, d1, rfl, h3, hs.1.symm⟩, shp_of (Prod.snd z) h2 hs.2⟩
      | b t =>
        obtain ⟨k, cs, rfl, h3, _⟩ := dec_b h1
        exact ⟨⟨k, cs, rfl, h3⟩, shp_of (Prod.snd z) h2 hs⟩
      | w t =>
        obtain ⟨k, rfl, h3⟩ := dec_w h1
        exact ⟨⟨k, t, d1, rfl, h3⟩, shp_of (Prod.snd z) h2 hs⟩
    · cases h
theorem resolve_valB {s : St} {x : AV} (h : x.valB = true) : resolve s x = some (s, x) := by
  cases x with
  | agg cs =>
    have : ∀ cs : List AV, cs.all AV.isVal = true → resolveL s cs = some (s, cs) := by
      intro cs
      induction cs with
      | nil => intro _; rfl
      | cons a r ih =>
        intro h
        simp only [List.all_cons, Bool.and_eq_true] at h
        have h1 : resolve1 s a = some (s, a) := by
          have := h.1
          cases a <;> first | rfl | cases this
        simp only [resolveL, h1, ih h.2]
    simp only [resolve, this cs h]
  | arr => cases h
  | ref => cases h
  | ear => cases h
  | efz => cases h
  | und => cases h
  | dead => cases h
  | tup => cases h
  | own => cases h
  | obj => cases h
  | _ => rfl
theorem nlAV_valB {α : Type} (e : TypeId) (f : α → AV) (x : NL α) : (nlAV e f x).valB = true := by cases x <;> rfl
theorem lendAll_val {s : St} {x : AV} {r l : List AV} (hv : x.valB = true) (h : lendAll s r = some (s, l)) : lendAll s (x :: r) = some (s, x :: l) := by
  have e2 := resolve_valB (s := s) hv
  unfold lendAll
  rw [h]
  have key : ∀ y : AV, y = x → (match resolve s y with
      | some (s2, b) => some (s2, b :: l)
      | none => none) = some (s, x :: l) := fun y hy => by rw [hy, e2]
  cases x <;> first | exact key _ rfl | cases hv
theorem lend_up {S : TStore} {s : St} : ∀ {l : List LT} {xs : List T1} {d : densL l}, decsL S l xs = some d → lendAll s (xs.map (T1.emb S)) = some (s, (xs.map (T1.emb S)).map (AV.shift 1)) ∧ ∀ (f : Nat → Bool) (j : Nat), (∀ i, f i = true) → (l.any fun a => a.isM || a.isB) = true → openA f j (xs.map (T1.emb S)) = true
  | [], [], d, h => ⟨rfl, fun f j _ ha => by cases ha⟩
  | [], _ :: _, d, h => by cases h
  | a :: r, [], d, h => by cases h
  | a :: r, x :: xs, d, h => by
    simp only [decsL] at h
    split at h
    · rename_i d1 ds h1 h2
      cases h
      obtain ⟨q1, q2⟩ := lend_up (s := s) h2
      have val : ((x.emb S).valB = true) → lendAll s ((x :: xs).map (T1.emb S)) = some (s, ((x :: xs).map (T1.emb S)).map (AV.shift 1)) := fun hv => by
        have e1 : (x.emb S).shift 1 = x.emb S := by
          cases hy : x.emb S <;> rw [hy] at hv <;> first | rfl | cases hv
        simp only [List.map_cons, e1]
        exact lendAll_val hv q1
      cases a with
      | v t =>
        have e1 := ofT1_emb S (show t.ofT1 x = some d1 from h1)
        have hv : (x.emb S).valB = true := by rw [← e1, ← t1_emb t d1 S]; exact t1_valB t d1 S
        refine ⟨val hv, fun f j hf ha => ?_⟩
        simp only [List.map_cons, openA, Bool.or_eq_true]
        exact .inr (q2 f (j + 1) hf ha)
      | l e t =>
        have hv : (x.emb S).valB = true := by
          have h1 : (AT.l e t).dec x = some d1 := h1
          simp only [AT.dec] at h1
          split at h1
          · rfl
          · rfl
          · exact nlAV_valB _ _ _
          · cases h1
        refine ⟨val hv, fun f j hf ha => ?_⟩
        simp only [List.map_cons, openA, Bool.or_eq_true]
        exact .inr (q2 f (j + 1) hf ha)
      | m e t =>
        obtain ⟨k, rfl, h3⟩ := dec_m h1
        have e1 : (T1.c (.h k)).emb S = .arr 0 k e 0 d1.length d1.length := by
          show (match shapeT S k with
            | some (e, n) => AV.arr 0 k e 0 n n
            | none => .dead) = _
          simp only [shapeT, h3]
        refine ⟨?_, fun f j hf _ => ?_⟩
        · simp only [List.map_cons, lendAll, q1, e1]; rfl
        · simp only [List.map_cons, openA, e1, hf j, Bool.true_or]
      | b t =>
        obtain ⟨k, cs, rfl, h3, _⟩ := dec_b h1
        refine ⟨?_, fun f j hf _ => ?_⟩
        · simp only [List.map_cons, lendAll, q1]; rfl
        · simp only [List.map_cons]; rfl
      | w t =>
        obtain ⟨k, rfl, h3⟩ := dec_w h1
        refine ⟨?_, fun f j hf _ => ?_⟩
        · simp only [List.map_cons, lendAll, q1]; rfl
        · simp only [List.map_cons]; rfl
    · cases h
structure TCtr where
  f : FuncId
  sig : List AT
  pre : dens sig → Prop
  out : dens sig → TV
  outK : dens sig → (TV → Prop) → Prop
  outK_ok : ∀ d K, outK d K → K (out d)
  outOk : ∀ d, (out d).outOk = true
def TCtr.det (f : FuncId) (sig : List AT) (pre : dens sig → Prop) (out : dens sig → TV) (h : ∀ d, (out d).outOk = true) : TCtr :=
  { f, sig, pre, out, outK := fun d K => K (out d), outK_ok := fun _ _ h => h, outOk := h }
def findC : List TCtr → FuncId → Option TCtr
  | [], _ => none
  | c :: r, f => if c.f = f then some c else findC r f
theorem findC_mem {L : List TCtr} {f : FuncId} {c : TCtr} (h : findC L f = some c) : c ∈ L ∧ c.f = f := by
  induction L with
  | nil => cases h
  | cons a r ih =>
    simp only [findC] at h
    split at h
    · rename_i he
      simp only [Option.some.injEq] at h; subst h
      exact ⟨List.mem_cons_self, he⟩
    · exact ⟨List.mem_cons_of_mem _ (ih h).1, (ih h).2⟩
def soloK (o : Oper) : Bool :=
  match o.op with
  | .store .. | .alloc .. | .box .. | .buildSlice .. | .makeSlice .. => true
  | .call c => match c.callee with
    | .builtin .append | .builtin .copy | .builtin .clear => true
    | _ => false
  | _ => false
open Classical in
noncomputable def envD (L : List TCtr) (DL : List LCtr) : Env where
  Φ := fun _ => none
  Γ := fun f as => match findD DL f with
    | some _ => none
    | none => match findC L f with
      | some c => match decsA c.sig as with
        | some d => if c.pre d then some ((c.out d).emb []) else none
        | none => none
      | none => none
  Δ := fun f as S => match findD DL f with
    | some c => match S with
      | t :: R => match decsLA t c.sig as with
        | some d => if (namesLA c.sig as).Nodup ∧ okBoxA (namesLA c.sig as) t = true ∧ c.pre d then some (putLA c.sig as (c.eff d) t :: R, (c.out d).emb []) else none
        | none => none
      | [] => none
    | none => none
  lend := fun f _ => (findD DL f).isSome
  solo := soloK
  ok := fun ops => drawM soloK ops
@[reducible] noncomputable def envL (L : List TCtr) : Env := envD L []
def knownD (L : List TCtr) (DL : List LCtr) (blk lab : Nat → Option Piece) : Known where
  solo := soloK
  ok := fun ops => drawM soloK ops
  G := fun f as K => match findD DL f with
    | some _ => False
    | none => match findC L f with
      | some c => match decs c.sig as with
        | some d => c.pre d ∧ c.outK d K
        | none => False
      | none => False
  D := fun f => (findD DL f).map lendOf
  blk := blk
  lab := lab
@[reducible] def knownL (L : List TCtr) (blk lab : Nat → Option Piece) : Known := knownD L [] blk lab
structure GoodC (P : Program) (c : TCtr) : Prop where
  there : ∃ fn cd, P.funcs[c.f]? = some fn ∧ fn.body = some cd ∧ (fn.name == "runtime.NumGoroutine") = false
  cells : ∀ e t, AT.l e t ∈ c.sig → 0 < P.cellsOf e
  call : ∀ d, c.pre d → ∀ S, CallC P c.f ((t1s c.sig d).map (T1.emb [])) S S ((c.out d).emb [])
def Goods (P : Program) (L : List TCtr) : Prop := ∀ c, c ∈ L → GoodC P c
theorem Goods.nil {P : Program} : Goods P [] := fun c h => by cases h
theorem Goods.cons {P : Program} {c : TCtr} {L : List TCtr} (h : GoodC P c) (k : Goods P L) : Goods P (c :: L) := fun x hx => by
  rcases List.mem_cons.1 hx with rfl | hx
  · exact h
  · exact k x hx
structure GoodL (P : Program) (c : LCtr) : Prop where
  there : ∃ fn cd, P.funcs[c.f]? = some fn ∧ fn.body = some cd ∧ (fn.name == "runtime.NumGoroutine") = false
  call : ∀ (t : Store) (R : List Store) (as : List AV) (d : densL c.sig), decsLA t c.sig as = some d → (namesLA c.sig as).Nodup → okBoxA (namesLA c.sig as) t = true → c.pre d → CallC P c.f as (t :: R) (putLA c.sig as (c.eff d) t :: R) ((c.out d).emb [])
def GoodDs (P : Program) (L : List LCtr) : Prop := ∀ c, c ∈ L → GoodL P c
theorem GoodDs.nil {P : Program} : GoodDs P [] := fun c h => by cases h
theorem GoodDs.cons {P : Program} {c : LCtr} {L : List LCtr} (h : GoodL P c) (k : GoodDs P L) : GoodDs P (c :: L) := fun x hx => by
  rcases List.mem_cons.1 hx with rfl | hx
  · exact h
  · exact k x hx
theorem CallC.args {P : Program} {f : FuncId} {as bs : List AV} {S : List Store} {r : AV} (h : CallC P f bs S S r) (hl : bs.length = as.length)
    (hr : ∀ (w : World) (g : Gh) (S : List Store) (i : Nat) (x y : AV) (v : Value), as[i]? = some x → bs[i]? = some y → HRep P w g S x v → HRep P w g S y v) : CallC P f as S S r := by
  intro may w g vs hi hm hlen hargs
  refine h may w g vs hi hm (by omega) fun i y v hy hv => ?_
  have hlt : i < as.length := by
    have := (List.getElem?_eq_some_iff.1 hy).1; omega
  exact hr w g.push ([] :: S) i as[i] y v (List.getElem?_eq_getElem hlt) hy (hargs i as[i] v (List.getElem?_eq_getElem hlt) hv)
open Classical in
theorem lendOf_ok {L : List TCtr} {DL : List LCtr} {blk lab : Nat → Option Piece} : LendOk (envD L DL) (knownD L DL blk lab).D := by
  intro f M hM s args K h
  have hM : (findD DL f).map lendOf = some M := hM
  obtain ⟨c, hc, rfl⟩ := Option.map_eq_some_iff.1 hM
  unfold lendOf at h
  split at h
  · rename_i d hd
    split at h
    · rename_i hn
      simp only [Bool.and_eq_true] at hn
      obtain ⟨n1, n2⟩ := hn
      have hp := h.1
      have hK := c.outK_ok d _ h.2
      refine ⟨_, _, c.outOk d, hK, fun R => ?_⟩
      obtain ⟨e1, e2⟩ := decs_up hd
      have hs := c.same d hp
      have hput := put_up (R := R) c.sig args (c.eff d) s (fun _ => rfl) (shp_of (c.eff d) hd hs)
      obtain ⟨u1, u2⟩ := lend_up (s := s.emb R) hd
      refine ⟨u2 _ 0 (fun i => by show (findD DL f).isSome = true; rw [hc]; rfl) c.any, _, u1, ?_, ?_, ?_⟩
      · show (match findD DL f with
          | some _ => none
          | none => _) = _
        rw [hc]
      · show (match findD DL f with
          | some c => _
          | none => none) = _
        rw [hc]
        show (match decsLA (embStore s.st) c.sig ((args.map (T1.emb s.st)).map (AV.shift 1)) with
          | some d => if (namesLA c.sig ((args.map (T1.emb s.st)).map (AV.shift 1))).Nodup ∧ okBoxA (namesLA c.sig ((args.map (T1.emb s.st)).map (AV.shift 1))) (embStore s.st) = true ∧ c.pre d then some (putLA c.sig ((args.map (T1.emb s.st)).map (AV.shift 1)) (c.eff d) (embStore s.st) :: R, (c.out d).emb []) else none
          | none => none) = _
        rw [e1]
        simp only
        rw [if_pos ⟨by rw [e2]; exact nodupB_ok n1, by rw [e2]; exact boxes_up n2, hp⟩]
        have := congrArg St.stores hput
        rw [this]
      · rw [hput]
    · exact h.elim
  · exact h.elim
theorem knownD_ok {P : Program} {L : List TCtr} {DL : List LCtr} (hw : P.follows .mixedOrders = true) (hL : Goods P L) (hD : GoodDs P DL) (blk lab : Nat → Option Piece) : KnownOk P (envD L DL) (knownD L DL blk lab) where
  env := {
    fn := fun f fn h => by cases h
    ga := fun f as r h => by
      simp only [envD] at h
      split at h
      · cases h
      · split at h
        · rename_i c hc
          split at h
          · rename_i d hd
            split at h
            · rename_i hp
              simp only [Option.some.injEq] at h; subst h
              obtain ⟨hm, rfl⟩ := findC_mem hc
              have hg := hL c hm
              refine ⟨hg.there, fun S => ?_⟩
              exact (hg.call d hp S).args (decsA_rep (P := P) (w := default) (g := ⟨fun _ _ => False, fun _ _ => 0, fun _ _ => 0⟩) (S := []) hg.cells hd).1 fun w g S' i x y v hx hy hv => (decsA_rep (P := P) (w := w) (g := g) (S := S') hg.cells hd).2 i x y v hx hy hv
            · cases h
          · cases h
        · cases h
    de := fun f as S S2 r h => by
      simp only [envD] at h
      split at h
      · rename_i c hc
        split at h
        · rename_i t R
          split at h
          · rename_i d hd
            split at h
            · rename_i hp
              simp only [Option.some.injEq, Prod.mk.injEq] at h
              obtain ⟨rfl, rfl⟩ := h
              obtain ⟨hm, rfl⟩ := findD_mem hc
              have hg := hD c hm
              exact ⟨hg.there, hg.call t R as d hd hp.1 hp.2.1 hp.2.2⟩
            · cases h
          · cases h
        · cases h
      · cases h
    wide := hw
    draw := fun ops h rec s s1 t hr => draw_okM (E := envD L DL) h rec s s1 t hr
    draw2 := fun ops h => by cases h }
  lend := fun f h j => by
    have h : (findD DL f).map lendOf = none := h
    show (findD DL f).isSome = false
    cases hc : findD DL f with
    | none => rfl
    | some c => rw [hc] at h; cases h
  ctr := fun f args K h hn => by
    simp only [knownD] at h
    split at h
    · exact h.elim
    · rename_i hc0
      split at h
      · rename_i c hc
        split at h
        · rename_i d hd
          refine ⟨c.out d, ?_, c.outOk d, c.outK_ok d K h.2⟩
          simp only [envD, hc0, hc, decs_decsA hd, if_pos h.1]
        · exact h.elim
      · exact h.elim
  del := lendOf_ok
  solo := rfl
  draw := fun ops h => h
theorem knownL_ok {P : Program} {L : List TCtr} (hw : P.follows .mixedOrders = true) (hL : Goods P L) (blk lab : Nat → Option Piece) : KnownOk P (envL L) (knownL L blk lab) := knownD_ok hw hL .nil blk lab
theorem good_of {P : Program} {L : List TCtr} {blk lab : Nat → Option Piece} (hw : P.follows .mixedOrders = true) (hL : Goods P L) {c : TCtr} {fn : Func} {cd : Code} (hf : P.funcs[c.f]? = some fn) (hb : fn.body = some cd) (hname : (fn.name == "runtime.NumGoroutine") = false)
    (hc : ∀ e t, AT.l e t ∈ c.sig → 0 < P.cellsOf e) (hLam : LamOk P (knownL L blk lab) cd) (run : ∀ d, c.pre d → wpFn P (knownL L blk lab) fn (t1s c.sig d) (fun x => x = c.out d)) : GoodC P c where
  there := ⟨fn, cd, hf, hb, hname⟩
  cells := hc
  call := fun d hp S => fn_call (knownL_ok hw hL blk lab) hf hb hLam (fun a ha => t1s_noH c.sig d a ha) (run d hp) S
end Go.AbsM

/-! ## AbtW -/
namespace Go.AbsM
section
variable {a b : Int} {m n : Nat} {A B : Prop}
theorem grd_ile (h : a ≤ b) (k : A) : grd (W.ile a b) A := grd_iff.2 ⟨decide_eq_true h, k⟩
theorem grd_nlt (h : m < n) (k : A) : grd (W.nlt m n) A := grd_iff.2 ⟨decide_eq_true h, k⟩
theorem brc_of {t : Bool} (h : t = true → A) (k : t = false → B) : brc t A B := brc_iff.2 ⟨h, k⟩
theorem brc_ilt (h : a < b → A) (k : b ≤ a → B) : brc (W.ilt a b) A B := brc_of (fun t => h (of_decide_eq_true t)) (fun t => k (by have := of_decide_eq_false t; omega))
theorem brc_ieq (h : a = b → A) (k : a ≠ b → B) : brc (W.ieq a b) A B := brc_of (fun t => h (by simpa [W.ieq] using t)) (fun t => k (by simpa [W.ieq] using t))
end
theorem wrap_u32 (n : Int) : IntKind.u32.wrap n = n % 4294967296 := by simp [IntKind.wrap, IntKind.bits, IntKind.signed]
theorem wrap_i64 (n : Int) : IntKind.i64.wrap n = (n + 9223372036854775808) % 18446744073709551616 - 9223372036854775808 := by
  simp [IntKind.wrap, IntKind.bits, IntKind.signed]
  split <;> omega
namespace W
variable {a b : Int}
theorem wu32 : W.wrap .u32 a = a % 4294967296 := wrap_u32 a
theorem wu32_in (h : 0 ≤ a) (k : a < 4294967296) : W.wrap .u32 a = a := by rw [wu32]; omega
theorem add_i64 (h : -9223372036854775808 ≤ a + b) (k : a + b < 9223372036854775808) : W.add .i64 a b = a + b := by
  show IntKind.i64.wrap (a + b) = _; rw [wrap_i64]; omega
theorem bit_toNat {n : Nat} (h : 0 ≤ a) (k : a < 2 ^ n) : (BitVec.ofInt n a).toNat = a.toNat := by
  rw [BitVec.toNat_ofInt]
  rw [Int.emod_eq_of_lt h (by exact_mod_cast k)]
theorem toNat_lt2 {n : Nat} (h : 0 ≤ a) (k : a < 2 ^ n) : a.toNat < 2 ^ n := by
  have h1 : (a.toNat : Int) = a := Int.toNat_of_nonneg h
  have h2 : (a.toNat : Int) < ((2 ^ n : Nat) : Int) := by rw [h1]; push_cast; exact k
  exact_mod_cast h2
theorem and_pos {k : IntKind} (hk : k.signed = false) (h1 : 0 ≤ a) (h2 : a < 2 ^ k.bits) (h3 : 0 ≤ b) (h4 : b < 2 ^ k.bits) : W.and k a b = ((a.toNat &&& b.toNat : Nat) : Int) := by
  unfold W.and
  rw [BitVec.toNat_and, bit_toNat h1 h2, bit_toNat h3 h4]
  have hlt : a.toNat &&& b.toNat < 2 ^ k.bits := Nat.lt_of_le_of_lt Nat.and_le_left (toNat_lt2 h1 h2)
  simp only [IntKind.wrap, hk]
  rw [Int.emod_eq_of_lt (by omega) (by exact_mod_cast hlt)]
  simp
theorem xor_pos {k : IntKind} (hk : k.signed = false) (h1 : 0 ≤ a) (h2 : a < 2 ^ k.bits) (h3 : 0 ≤ b) (h4 : b < 2 ^ k.bits) : W.xor k a b = ((a.toNat ^^^ b.toNat : Nat) : Int) := by
  unfold W.xor
  rw [BitVec.toNat_xor, bit_toNat h1 h2, bit_toNat h3 h4]
  have hlt : a.toNat ^^^ b.toNat < 2 ^ k.bits := Nat.xor_lt_two_pow (toNat_lt2 h1 h2) (toNat_lt2 h3 h4)
  simp only [IntKind.wrap, hk]
  rw [Int.emod_eq_of_lt (by omega) (by exact_mod_cast hlt)]
  simp
theorem shr_lit {k : IntKind} (n : Nat) (hn : n ≤ k.bits) : W.shr k a n = a / 2 ^ n := by
  unfold W.shr
  have : min ((n : Int).toNat) k.bits = n := by simp; omega
  rw [this, Int.fdiv_eq_ediv_of_nonneg _ (by exact Int.le_of_lt (Int.pow_pos (by decide)))]
end W
end Go.AbsM

/-! ## AbtGood -/
namespace Go.AbsM
def bodyOf (f : Func) : Code := match f.body with
  | some c => c
  | none => .skip
def hasBody (f : Func) : Bool := f.body.isSome
theorem body_some {f : Func} (h : hasBody f = true) : f.body = some (bodyOf f) := by
  unfold hasBody at h; unfold bodyOf
  cases hb : f.body with
  | none => rw [hb] at h; cases h
  | some c => rfl
def one (k : Nat) (p : Piece) (l : Nat) : Option Piece := match l.beq k with
  | true => some p
  | false => none
theorem one_some {k l : Nat} {p ψ : Piece} (h : one k p l = some ψ) : l = k ∧ ψ = p := by
  unfold one at h
  split at h
  · rename_i hb
    cases h; exact ⟨Nat.eq_of_beq_eq_true hb, rfl⟩
  · cases h
def noneK (_ : Nat) : Option Piece := none
def freeB (blk : Nat → Option Piece) (c : Code) : Bool := (blocksOf c).all (fun p => (blk p.1).isNone) && (scopesOf c).isEmpty
def loopOf : Code → Code
  | .loop c => c
  | _ => .skip
def isLoop : Code → Bool
  | .loop _ => true
  | _ => false
theorem isLoop_eq {c : Code} (h : isLoop c = true) : c = .loop (loopOf c) := by
  cases c <;> first | rfl | cases h
section
variable {P : Program} {E : Env}
theorem lamOk_free {Λ : Known} {c : Code} (h : freeB Λ.blk c = true) : LamOk P Λ c := by
  simp only [freeB, Bool.and_eq_true, List.all_eq_true, List.isEmpty_iff] at h
  refine lamOk_of (fun id c' hm ψ hψ => ?_) fun c' hm => ?_
  · have := h.1 _ hm
    rw [hψ] at this; cases this
  · rw [h.2] at hm; cases hm
def sigB (P : Program) (sig : List AT) : Bool := sig.all fun a => match a with
  | .l e _ => decide (0 < P.cellsOf e)
  | _ => true
theorem sigB_ok {sig : List AT} (h : sigB P sig = true) (e : TypeId) (t : VT) (hm : AT.l e t ∈ sig) : 0 < P.cellsOf e := by
  have := List.all_eq_true.1 h _ hm
  exact of_decide_eq_true this
structure Fits (P : Program) (f : FuncId) (sig : List AT) (fn : Func) : Prop where
  there : P.funcs[f]? = some fn
  body : hasBody fn = true
  name : (fn.name == "runtime.NumGoroutine") = false
  sig : sigB P sig = true
theorem good_by {L : List TCtr} {blk lab : Nat → Option Piece} {c : TCtr} {fn : Func} (hw : P.follows .mixedOrders = true) (hL : Goods P L) (hf : Fits P c.f c.sig fn) (hLam : LamOk P (knownL L blk lab) (bodyOf fn))
    (run : ∀ d, c.pre d → wpFn P (knownL L blk lab) fn (t1s c.sig d) (fun x => x = c.out d)) : GoodC P c :=
  good_of hw hL hf.there (body_some hf.body) hf.name (sigB_ok hf.sig) hLam run
def restC (c : Code) (l : Nat) : Code := (findLabel (scC c) l).getD .skip
theorem lam_jump {L : List TCtr} {ι : Type} {n : Nat} {ls ks : List Nat} {mk : ι → TSt} {ψ : ι → Post → Prop} {c : Code} {l : Nat} (lx kx : List Nat) (μ : ι → Nat) (hw : P.follows .mixedOrders = true) (hL : Goods P L)
    (h1 : decide ((scopesOf c).length ≤ 1) = true) (h2 : (blocksOf c).isEmpty = true) (h3 : findLabel (scC c) l = some (restC c l)) (h4 : freeB noneK (restC c l) = true)
    (step : ∀ i Φ, ψ i Φ → wpT P (knownL L noneK (one l (loopP n ls ks mk ψ))) (restC c l) (mk i) (jumpK (knownL L noneK (one l (loopP n ls ks mk ψ))) n ls ks lx kx (scC c) l mk μ ψ (μ i) Φ)) : LamOk P (knownL L noneK (one l (loopP n ls ks mk ψ))) c := by
  refine lamOk_body (by rw [List.isEmpty_iff.1 h2]; rfl) h1 (fun id ψ h => by cases h) fun l' rest ψ' hf hl => ?_
  obtain ⟨rfl, rfl⟩ := one_some hl
  rw [h3] at hf
  simp only [Option.some.injEq] at hf; subst hf
  refine run_jump (lx := lx) (kx := kx) (knownL_ok hw hL _ _) μ (lamOk_free h4) h3 (fun l'' rest' ψ'' hne hf' hl' => ?_) step
  obtain ⟨rfl, _⟩ := one_some hl'
  exact absurd rfl hne
theorem good_jump {L : List TCtr} {c : TCtr} {fn : Func} {ι : Type} {n : Nat} {ls ks : List Nat} {mk : ι → TSt} {ψ : ι → Post → Prop} {l : Nat} (lx kx : List Nat) (μ : ι → Nat) (hw : P.follows .mixedOrders = true) (hL : Goods P L) (hf : Fits P c.f c.sig fn)
    (h1 : decide ((scopesOf (bodyOf fn)).length ≤ 1) = true) (h2 : (blocksOf (bodyOf fn)).isEmpty = true) (h3 : findLabel (scC (bodyOf fn)) l = some (restC (bodyOf fn) l)) (h4 : freeB noneK (restC (bodyOf fn) l) = true)
    (step : ∀ i Φ, ψ i Φ → wpT P (knownL L noneK (one l (loopP n ls ks mk ψ))) (restC (bodyOf fn) l) (mk i) (jumpK (knownL L noneK (one l (loopP n ls ks mk ψ))) n ls ks lx kx (scC (bodyOf fn)) l mk μ ψ (μ i) Φ))
    (run : ∀ d, c.pre d → wpFn P (knownL L noneK (one l (loopP n ls ks mk ψ))) fn (t1s c.sig d) (fun x => x = c.out d)) : GoodC P c :=
  good_by hw hL hf (lam_jump lx kx μ hw hL h1 h2 h3 h4 step) run
theorem good_loop {L : List TCtr} {c : TCtr} {fn : Func} {ι : Type} {n : Nat} {ls ks : List Nat} {mk : ι → TSt} {ψ : ι → Post → Prop} {id : Nat} (lx kx : List Nat) (μ : ι → Nat) (hw : P.follows .mixedOrders = true) (hL : Goods P L) (hf : Fits P c.f c.sig fn)
    (h1 : (scopesOf (bodyOf fn)).isEmpty = true) (h2 : nodupB ((blocksOf (bodyOf fn)).map (·.1)) = true) (h3 : isLoop (blkC (bodyOf fn) id) = true) (h4 : freeB (one id (loopP n ls ks mk ψ)) (loopOf (blkC (bodyOf fn) id)) = true)
    (step : ∀ i Φ, ψ i Φ → wpT P (knownL L (one id (loopP n ls ks mk ψ)) noneK) (loopOf (blkC (bodyOf fn) id)) (mk i) (stepK n ls ks lx kx id mk μ ψ (μ i) Φ))
    (run : ∀ d, c.pre d → wpFn P (knownL L (one id (loopP n ls ks mk ψ)) noneK) fn (t1s c.sig d) (fun x => x = c.out d)) : GoodC P c := by
  refine good_by (lab := noneK) hw hL hf (lamOk_body h2 (by rw [List.isEmpty_iff.1 h1]; rfl) (fun id' ψ' h s Φ hs => ?_) (fun l rest ψ' _ hl => by cases hl)) run
  obtain ⟨rfl, rfl⟩ := one_some h
  rw [isLoop_eq h3]
  exact run_loop (knownL_ok hw hL _ _) μ (lamOk_free h4) step s Φ hs
def sigLB (P : Program) (sig : List LT) : Bool := sig.all fun a => match a with
  | .l e _ => decide (0 < P.cellsOf e)
  | _ => true
structure FitsL (P : Program) (f : FuncId) (sig : List LT) (fn : Func) : Prop where
  there : P.funcs[f]? = some fn
  body : hasBody fn = true
  name : (fn.name == "runtime.NumGoroutine") = false
  sig : sigLB P sig = true
end
end Go.AbsM
namespace Go.AbsM
section
variable {P : Program} {E : Env}
end
end Go.AbsM

/-! ## AbtLaw -/
namespace Go.AbsM
open Go.RowKit
def phi (P : Program) (f : FuncId) : Option Func :=
  match P.funcs[f]? with
  | some fn => if fn.name == "runtime.NumGoroutine" then none else some fn
  | none => none
def envN (P : Program) (lend : FuncId → Nat → Bool) : Env := { Φ := phi P, Γ := fun _ _ => none, Δ := fun _ _ _ => none, lend := lend, solo := soloK, ok := fun ops => drawM soloK ops }
def lawC (f : FuncId) (sig : List AT) (pre : dens sig → Prop) : TCtr := .det f sig pre (fun _ => TV.bool true) fun _ => rfl
def trueC (f : FuncId) : TCtr := lawC f [] fun _ => True
section
variable {P : Program}
theorem GoodC.law {f : FuncId} {sig : List AT} {pre : dens sig → Prop} (h : GoodC P (lawC f sig pre)) {d : dens sig} (hp : pre d) {w : World} {vs : List Value} (hl : vs.length = (t1s sig d).length)
    (hargs : ∀ (i : Nat) (x : AV) (v : Value), ((t1s sig d).map (T1.emb []))[i]? = some x → vs[i]? = some v → Arg P w x v) : Calls P f vs.toArray w fun e w' => e = .returned (.bool true) ∧ Below w.heap.size w w' :=
  law_calls (h.call d hp []) (by rw [List.length_map]; exact hl) hargs
def inKind (k : IntKind) (n : Int) : Prop := k.min ≤ n ∧ n ≤ k.max
def ArgsOk (P : Program) (w : World) : List AV → List Value → Prop
  | [], [] => True
  | x :: xs, v :: vs => Arg P w x v ∧ ArgsOk P w xs vs
  | _, _ => False
theorem ArgsOk.get {w : World} : ∀ {xs : List AV} {vs : List Value}, ArgsOk P w xs vs → vs.length = xs.length ∧ ∀ (i : Nat) (x : AV) (v : Value), xs[i]? = some x → vs[i]? = some v → Arg P w x v
  | [], [], _ => ⟨rfl, fun i x v h => by simp at h⟩
  | x :: xs, v :: vs, h => by
    obtain ⟨q1, q2⟩ := ArgsOk.get h.2
    refine ⟨by simp [q1], fun i y u hy hu => ?_⟩
    cases i with
    | zero => simp at hy hu; subst hy; subst hu; exact h.1
    | succ i => simp at hy hu; exact q2 i y u hy hu
  | [], _ :: _, h => h.elim
  | _ :: _, [], h => h.elim
end
end Go.AbsM

/-! ## AbtBlk -/
namespace Go.AbsM
@[irreducible] def Blk (p : Prop) : Prop := p
theorem Blk.un {p : Prop} (h : Blk p) : p := by unfold Blk at h; exact h
theorem Blk.by {p : Prop} (h : p) : Blk p := by unfold Blk; exact h
end Go.AbsM
