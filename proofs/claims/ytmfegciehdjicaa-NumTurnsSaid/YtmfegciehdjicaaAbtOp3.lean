/-
  The typed machine: memory; every operation.
-/
import Derived.Test.YtmfegciehdjicaaAbtOp2
set_option linter.unusedVariables false
set_option linter.unusedSimpArgs false
namespace Go.AbsM

section
variable {P : Program} {R : List Store} {s : TSt}

theorem cells_notown {x : T1} {S : TStore} (h : x.cells.all (TC.isCell S) = true) : ∀ e t xs, x ≠ .own e t xs := by
  intro e t xs hx; subst hx; simp [T1.cells, TC.isCell] at h

theorem boxT_ok {d : Option Nat} {e : TypeId} {x : T1} {K : TSt → Prop} (h : boxT P s d e x K) : ∃ s1, boxA P (s.emb R) d e (x.emb s.st) = some (s1.emb R) ∧ K s1 := by
  unfold boxT at h
  split at h
  · rename_i k n hn
    split at h
    · rename_i hc
      refine ⟨_, ?_, h⟩
      have hx := t1_cells x s.st (cells_notown hc.2)
      simp only [boxA, hn, hx, List.length_map]
      rw [if_pos ⟨hc.1, isCells_emb _ hc.2⟩, emb_put, emb_create]
      congr 3
      simp only [TOb.emb, List.map_map]
      congr 1
      refine List.map_congr_left fun c _ => ?_
      exact (tc_kill (shape_create s k _) c).symm
    · exact h.elim
  · exact h.elim

theorem fillT_ok {place : Nat → Option (Nat × Nat)} {S : TStore} : ∀ {l : List (Nat × T1)} {cells cs : List TC}, fillT S place cells l = some cs → fillA place (cells.map (TC.emb S)) (l.map fun p => (p.1, p.2.emb S)) = some (cs.map (TC.emb S)) := by
  intro l
  induction l with
  | nil => intro cells cs h; simp only [fillT, Option.some.injEq] at h; subst h; rfl
  | cons p r ih =>
    intro cells cs h
    obtain ⟨i, v⟩ := p
    simp only [fillT] at h
    simp only [List.map_cons, fillA]
    cases hp : place i with
    | none => rw [hp] at h; cases h
    | some q =>
      obtain ⟨off, size⟩ := q
      rw [hp] at h
      simp only at h ⊢
      split at h
      · rename_i hc
        have hx := t1_cells v S (cells_notown hc.2)
        rw [hx]
        rw [if_pos ⟨by simpa using hc.1, isCells_emb _ hc.2⟩]
        split at h
        · rename_i cs' hl
          rw [layC_ok S hl]
          exact ih h
        · cases h
      · cases h

theorem constCells_cells {z : AV} {t : TypeId} (h : zeroT P t = some z) (S : TStore) : (z.cells.map TC.a).map (TC.emb S) = z.cells := by
  have hz : ∃ v, constAV v = some z := by
    unfold zeroT at h
    cases hi : (P.info? t).bind (·.zero) with
    | none => rw [hi] at h; cases h
    | some v => rw [hi] at h; exact ⟨v, h⟩
  obtain ⟨v, hv⟩ := hz
  rw [List.map_map]
  unfold constAV at hv
  split at hv
  · simp only [Option.map_eq_some_iff] at hv
    obtain ⟨cs, hc, rfl⟩ := hv
    exact constCells_one hc
  · have := constCell_one hv
    cases z <;> first | (simp only [AV.cells, List.map_cons, List.map_nil]; exact congrArg (fun q => [q]) this) | (simp [AV.one] at this)

theorem buildT_ok {d : Option Nat} {t : TypeId} {l : List (Nat × T1)} {K : TSt → Prop} (h : buildT P s d t l K) : ∃ s1, buildA P (s.emb R) d t (l.map fun p => (p.1, p.2.emb s.st)) = some (s1.emb R) ∧ K s1 := by
  unfold buildT at h
  split at h
  · rename_i z fields hz hu
    split at h
    · rename_i places hp
      obtain ⟨cs, hf, h⟩ := need_some h
      refine ⟨_, ?_, h⟩
      have := fillT_ok hf
      rw [constCells_cells hz] at this
      simp only [buildA, hz, hu, hp, this, emb_put]; rfl
    · exact h.elim
  · rename_i z n e hz hu
    split at h
    · rename_i m hm
      obtain ⟨cs, hf, h⟩ := need_some h
      refine ⟨_, ?_, h⟩
      have := fillT_ok hf
      rw [constCells_cells hz] at this
      simp only [buildA, hz, hu, hm, this, emb_put]; rfl
    · exact h.elim
  · exact h.elim

theorem freshT_ok {d : Option Nat} {e : TypeId} {t : VT} {xs : List t.den} {K : TSt → Prop} (h : freshT s d e t xs K) : ∃ s1, (s.emb R).fresh d e (xs.map t.emb) = some (s1.emb R) ∧ K s1 := by
  unfold freshT at h
  split at h
  · rename_i k
    refine ⟨_, ?_, h⟩
    simp only [St.fresh, emb_put, emb_create, TOb.emb, List.length_map]
    congr 2
    simp [TV.emb, T1.emb, TC.emb, shapeT, TSt.create, lookT]
  · exact h.elim

theorem chunksT_ok {vt : VT} {es : Nat} (he : vt.isAgg = false → es = 1) (S : TStore) : ∀ {n : Nat} {cs : List TC} {xs : List vt.den}, chunksT vt es n cs = some xs → chunksA vt.isAgg es n (cs.map (TC.emb S)) = some (xs.map vt.emb) := by
  intro n
  induction n with
  | zero => intro cs xs h; simp only [chunksT, Option.some.injEq] at h; subst h; rfl
  | succ n ih =>
    intro cs xs h
    simp only [chunksT] at h
    split at h
    · rename_i r hr
      split at h
      · rename_i x hx
        simp only [Option.some.injEq] at h; subst h
        have h1 := ih hr
        have h2 := ofTC_emb _ _ _ _ S hx
        simp only [List.map_nil, List.append_nil] at h2
        rw [List.map_drop] at h1
        simp only [chunksA, h1, List.map_cons]
        cases ha : vt.isAgg with
        | true =>
          simp only [if_true]
          rw [← List.map_take, h2]
          simp only [VT.emb, embOf, ha]
        | false =>
          have he := he ha
          subst he
          simp only [Bool.false_eq_true, if_false, if_true]
          obtain ⟨c, hc, _⟩ := cells_one ha x
          cases cs with
          | nil => simp [hc] at h2
          | cons a r => simp [hc] at h2; simp [VT.emb, embOf, ha, hc, h2]
      · cases h
    · cases h

theorem zip_snd (l : List (Nat × T1)) (vs : List T1) (S : TStore) : ((l.map fun p => (p.1, p.2.emb S)).map (·.1)).zip (vs.map (T1.emb S)) = ((l.map (·.1)).zip vs).map fun p => (p.1, p.2.emb S) := by
  rw [List.map_map]
  show (l.map (·.1)).zip _ = _
  rw [List.zip_map_right]
  rfl

theorem buildSliceT_ok {d : Option Nat} {t : TypeId} {len : Nat} {l : List (Nat × T1)} {K : TSt → Prop} (h : buildSliceT P s d t len l K) : ∃ s1, buildSliceA P (s.emb R) d t len (l.map fun p => (p.1, p.2.emb s.st)) = some (s1.emb R) ∧ K s1 := by
  unfold buildSliceT at h
  split at h
  · rename_i e he
    split at h
    · rename_i n z vt hn hz hv
      split at h
      · exact h.elim
      · rename_i hno
        simp only [not_or, Decidable.not_not] at hno
        obtain ⟨m1, m2, m3, m4, m5⟩ := hno
        obtain ⟨s1, vs, hr, hvs, hal, h⟩ := resAllT_ok (R := R) h
        obtain ⟨cs, hf, h⟩ := need_some h
        split at h
        · rename_i hcs
          obtain ⟨xs, hx, h⟩ := need_some h
          obtain ⟨s2, h2, h⟩ := freshT_ok (R := R) h
          refine ⟨s2, ?_, h⟩
          have hl : (l.map fun p => (p.1, p.2.emb s.st)).map (·.2) = (l.map (·.2)).map (T1.emb s.st) := by simp only [List.map_map]; rfl
          have hvs' : vs.map (T1.emb []) = vs.map (T1.emb s1.st) := List.map_congr_left fun v hv' => noH_emb (hvs v hv') _ _
          have hz' : ((List.replicate len (z.cells.map TC.a)).flatten).map (TC.emb s1.st) = (List.replicate len z.cells).flatten := by
            rw [List.map_flatten, List.map_replicate, constCells_cells hz]
          have hf' := fillT_ok hf
          rw [hz', ← zip_snd l vs s1.st] at hf'
          have hz2 : ((l.map fun p => (p.1, p.2.emb s.st)).map (·.1)) = ((l.map fun p => (p.1, p.2.emb s1.st)).map (·.1)) := by simp only [List.map_map]; rfl
          simp only [buildSliceA, he, hl, hr, hvs', hn, hz]
          rw [if_neg (by simp only [not_or]; exact ⟨m1, m2, by simpa using m3⟩), hz2, hf']
          simp only
          rw [if_pos (isVals_emb _ hcs), m4]
          simp only [Option.bind_some]
          rw [chunksT_ok (fun ha => Classical.byContradiction fun hn => m5 ⟨ha, hn⟩) s1.st hx]
          exact h2
        · exact h.elim
    · exact h.elim
  · exact h.elim

theorem zvT_ok {e : TypeId} {vt : VT} {x : vt.den} {z : AV} (hz : zeroT P e = some z) (h : zvT P e vt = some x) : vt.emb x = z := by
  unfold zvT at h
  rw [hz] at h
  simp only at h
  split at h
  · rename_i y hy
    rw [ofT1_emb [] h]
    have : ∃ v, constAV v = some z := by
      unfold zeroT at hz
      cases hi : (P.info? e).bind (·.zero) with
      | none => rw [hi] at hz; cases hz
      | some v => rw [hi] at hz; exact ⟨v, hz⟩
    obtain ⟨v, hv⟩ := this
    have := constT_emb hv []
    rw [hy] at this
    exact this
  · cases h

theorem makeT_ok {d : Option Nat} {t : TypeId} {l c : Int} {K : TSt → Prop} (h : makeT P s d t l c K) : ∃ s1, makeA P (s.emb R) d t l c = some (s1.emb R) ∧ K s1 := by
  unfold makeT at h
  split at h
  · exact h.elim
  · rename_i e he
    split at h
    · rename_i n by_ z vt hn hb hz hv
      split at h
      · rename_i hc
        obtain ⟨x, hx, h⟩ := need_some h
        obtain ⟨g1, h⟩ := grd_iff.1 h
        obtain ⟨g2, h⟩ := grd_iff.1 h
        obtain ⟨g3, h⟩ := grd_iff.1 h
        obtain ⟨g4, h⟩ := grd_iff.1 h
        obtain ⟨s1, h1, h⟩ := freshT_ok (R := R) h
        refine ⟨s1, ?_, h⟩
        simp only [makeA, he, hn, hb, hz]
        rw [if_pos ⟨of_decide_eq_true g1, of_decide_eq_true g2, of_decide_eq_true g3, of_decide_eq_true g4, hc.1, hc.2.1, hc.2.2⟩]
        have : (W.rep (W.toNat l) x).map vt.emb = List.replicate l.toNat z := by
          simp [W.rep, W.toNat, zvT_ok hz hx]
        rw [← this]; exact h1
      · exact h.elim
    · exact h.elim

theorem shift0 (x : AV) : x.shift 0 = x := by cases x <;> rfl
theorem shiftCells0 (x : AV) : shiftCells 0 x = x := by
  cases x with
  | agg cs =>
    show AV.agg (cs.map (AV.shift 0)) = _
    congr 1
    have : (AV.shift 0) = id := funext shift0
    rw [this, List.map_id]
  | _ => first | rfl | exact shift0 _

theorem nth_emb {vt : VT} (xs : List vt.den) (j : Nat) (h : j < xs.length) : (xs.map vt.emb)[j]? = some (vt.emb (W.nth xs j vt.dflt)) := by
  rw [List.getElem?_map, List.getElem?_eq_getElem h]
  simp [W.nth, List.getD_eq_getElem?_getD, List.getElem?_eq_getElem h]

theorem loadT_ok {t : TypeId} {p : TV} {K : T1 → Prop} (h : loadT P s t p K) : ∃ x, loadA P (s.emb R) t (p.emb s.st) = some (x.emb s.st) ∧ K x := by
  unfold loadT at h
  split at h
  · rename_i k off
    split at h
    · rename_i cs hl
      obtain ⟨x, hx, h⟩ := partT_ok s.st h
      refine ⟨x, ?_, h⟩
      simp only [TV.emb, T1.emb, TC.emb, AV.one, loadA, getOb_emb, hl, Option.map_some, TOb.emb, hx, shiftCells0]
    · exact h.elim
  · rename_i vt x off
    obtain ⟨y, hy, h⟩ := partT_ok s.st h
    refine ⟨y, ?_, h⟩
    rw [tc_emb] at hy
    exact hy
  · rename_i k j off
    split at h
    · rename_i f e vt xs hl
      obtain ⟨hg, h⟩ := grd_iff.1 h
      have hg : j < xs.length := of_decide_eq_true hg
      obtain ⟨y, hy, h⟩ := partT_ok s.st h
      refine ⟨y, ?_, h⟩
      rw [tc_emb, ← emb_cells] at hy
      have hsh : shapeT s.st k = some (e, xs.length) := by simp only [shapeT, hl]
      simp only [TV.emb, T1.emb, TC.emb, hsh, loadA, getOb_emb, hl, Option.map_some, TOb.emb, List.length_map, if_true, nth_emb xs j hg]
      exact hy
    · exact h.elim
  · rename_i k e' tot j off
    split at h
    · rename_i f e vt xs hl
      obtain ⟨ht, h⟩ := grd_iff.1 h
      have ht : xs.length = tot := of_decide_eq_true ht
      obtain ⟨hg, h⟩ := grd_iff.1 h
      have hg : j < xs.length := of_decide_eq_true hg
      obtain ⟨y, hy, h⟩ := partT_ok s.st h
      refine ⟨y, ?_, h⟩
      rw [tc_emb, ← emb_cells] at hy
      simp only [TV.emb, T1.emb, TC.emb, AV.one, loadA, getOb_emb, hl, Option.map_some, TOb.emb, List.length_map, ht, if_true, nth_emb xs j hg]
      exact hy
    · exact h.elim
  · exact h.elim

theorem storeE_ok {d : Option Nat} {k j off : Nat} {e : TypeId} {tot n : Nat} {t : TypeId} {v : T1} {K : TSt → Prop} (hn : sizeT P t = some n) (hv : v.cells.length = n ∧ v.cells.all (TC.isCell s.st) = true) (hsh : shapeT s.st k = some (e, tot)) (h : storeE P s d k j off v.cells K) :
    ∃ s1, storeA P (s.emb R) d t (.ear 0 k e tot j off) (v.emb s.st) = some (s1.emb R) ∧ K s1 := by
  unfold storeE at h
  obtain ⟨s1, vs, h1, hvs, hal, hlen, h⟩ := resCs_ok (R := R) h
  split at h
  · rename_i e' vt xs hl
    split at h
    · rename_i ha
      obtain ⟨hg, h⟩ := grd_iff.1 h
      have hg : j < xs.length := of_decide_eq_true hg
      obtain ⟨ds, hds, h⟩ := need_some h
      split at h
      · rename_i x hx
        have hsh1 : shapeT s1.st k = some (e', xs.length) := by simp only [shapeT, hl]
        rw [← hal k, hsh] at hsh1
        simp only [Option.some.injEq, Prod.mk.injEq] at hsh1
        obtain ⟨rfl, rfl⟩ := hsh1
        refine ⟨_, ?_, h⟩
        have hc := t1_cells v s.st (cells_notown hv.2)
        have hlay := layC_ok s1.st hds
        rw [tc_emb, ← emb_cells] at hlay
        have hvv : vs.map (TC.emb []) = vs.map (TC.emb s1.st) := List.map_congr_left fun c hc => isVal_emb (hvs c hc) _ _
        have hdd := ofTC_emb _ _ _ _ s1.st hx
        simp only [List.map_nil, List.append_nil] at hdd
        simp only [storeA, hn, hc]
        rw [if_pos ⟨by simpa using hv.1, isCells_emb _ hv.2⟩, h1]
        simp only [getOb_emb, hl, Option.map_some, TOb.emb, List.length_map, and_self, if_true, nth_emb xs j hg, hvv, hlay, ha]
        have hfin : ∀ y, vt.emb x = y → (St.put { s1.emb R with stores := setOb (s1.emb R).stores 0 k (.arr false e ((xs.map vt.emb).set j y)) } d .und) = ((s1.lay k (.arr false e vt (W.upd xs j x))).put d (.a .und)).emb R := by
          intro y hy
          rw [emb_put, emb_lay _ _ _ _ (shape_lay hl (by simp [W.upd]))]
          simp only [TOb.emb, W.upd, List.map_set, hy]; rfl
        cases hag : vt.isAgg with
        | true =>
          simp only []
          rw [hfin _ (by simp only [VT.emb, embOf, hag, hdd])]
        | false =>
          obtain ⟨c, hcc, _⟩ := cells_one hag x
          rw [hdd, hcc]
          simp only []
          rw [hfin _ (by simp only [VT.emb, embOf, hag, hcc, List.headD_cons])]
      · exact h.elim
    · exact h.elim
  · exact h.elim

theorem storeT_ok {d : Option Nat} {t : TypeId} {p : TV} {v : T1} {K : TSt → Prop} (h : storeT P s d t p v K) : ∃ s1, storeA P (s.emb R) d t (p.emb s.st) (v.emb s.st) = some (s1.emb R) ∧ K s1 := by
  unfold storeT at h
  split at h
  · exact h.elim
  · rename_i n hn
    split at h
    · rename_i hv
      split at h
      · rename_i k off
        split at h
        · rename_i cs hl
          obtain ⟨ds, hds, h⟩ := need_some h
          refine ⟨_, ?_, h⟩
          have hc := t1_cells v s.st (cells_notown hv.2)
          show storeA P (s.emb R) d t (.ref 0 k off) (v.emb s.st) = _
          simp only [storeA, hn, hc]
          rw [if_pos ⟨by simpa using hv.1, isCells_emb _ hv.2⟩]
          simp only [getOb_emb, hl, Option.map_some, TOb.emb, layC_ok s.st hds]
          rw [emb_put, emb_lay _ _ _ _ (shape_lay hl rfl)]; rfl
        · exact h.elim
      · rename_i k j off
        cases hsh : shapeT s.st k with
        | none =>
          exfalso
          unfold storeE at h
          obtain ⟨s1, vs, h1, hvs, hal, hlen, h⟩ := resCs_ok (R := R) h
          split at h
          · rename_i e' vt xs hl
            have hsh1 : shapeT s1.st k = some (e', xs.length) := by simp only [shapeT, hl]
            rw [← hal k, hsh] at hsh1; cases hsh1
          · exact h
        | some q =>
          obtain ⟨e, tot⟩ := q
          obtain ⟨s1, h1, h⟩ := storeE_ok (R := R) hn hv hsh h
          exact ⟨s1, by simp only [TV.emb, T1.emb, TC.emb, hsh]; exact h1, h⟩
      · rename_i k e tot j off
        split at h
        · rename_i e' vt xs hl
          split at h
          · rename_i he
            obtain ⟨hg, h⟩ := grd_iff.1 h
            have hg : xs.length = tot := of_decide_eq_true hg
            subst he
            have hsh : shapeT s.st k = some (e', tot) := by simp only [shapeT, hl, hg]
            obtain ⟨s1, h1, h⟩ := storeE_ok (R := R) hn hv hsh h
            exact ⟨s1, h1, h⟩
          · exact h.elim
        · exact h.elim
      · exact h.elim
    · exact h.elim

theorem fwdT_ok {n : Nat} {v : TV} {K : TV → Prop} (h : fwdT s n v K) : ∃ x : TV, (s.emb R).fwd n (v.emb s.st) = some (x.emb s.st) ∧ K x := by
  unfold fwdT at h
  split at h
  · exact ⟨_, rfl, h⟩
  · exact ⟨_, rfl, h⟩
  · rename_i k j off
    split at h
    · rename_i q hq
      obtain ⟨e, m⟩ := q
      refine ⟨_, ?_, h⟩
      have : ∃ f t xs, lookT s.st k = some (.arr f e t xs) ∧ xs.length = m := by
        unfold shapeT at hq
        split at hq
        · rename_i f e' t xs hl
          simp only [Option.some.injEq, Prod.mk.injEq] at hq
          obtain ⟨rfl, rfl⟩ := hq
          exact ⟨_, _, _, hl, rfl⟩
        · cases hq
      obtain ⟨f, t, xs, hl, hm⟩ := this
      simp only [TV.emb, T1.emb, TC.emb, hq, St.fwd, getOb_emb, hl, Option.map_some, TOb.emb, List.length_map, hm, if_true]
    · exact h.elim
  · exact h.elim

theorem indexAddrT_ok {t : TypeId} {p : TV} {i : Int} {K : TV → Prop} (h : indexAddrT P s t p i K) : ∃ x : TV, indexAddrA P (s.emb R) t (p.emb s.st) i = some (x.emb s.st) ∧ K x := by
  unfold indexAddrT at h
  split at h
  · rename_i e hu
    split at h
    · rename_i e' vt x
      split at h
      · rename_i he
        subst he
        obtain ⟨g1, h⟩ := grd_iff.1 h
        obtain ⟨g2, h⟩ := grd_iff.1 h
        have g1 : 0 ≤ i := of_decide_eq_true g1
        have g2 : i.toNat < x.list.length := of_decide_eq_true g2
        refine ⟨_, ?_, h⟩
        cases x with
        | nil => simp [NL.list] at g2
        | cap0 => simp [NL.list] at g2
        | mk l =>
          simp only [TV.emb, T1.emb, TC.emb, nlAV, indexAddrA, hu]
          rw [if_pos g1, if_pos trivial, nth_emb l i.toNat g2]
          simp only [emb_cells]; rfl
      · exact h.elim
    · rename_i k
      split at h
      · rename_i f e' vt xs hl
        split at h
        · rename_i he
          subst he
          obtain ⟨g1, h⟩ := grd_iff.1 h
          obtain ⟨g2, h⟩ := grd_iff.1 h
          have g1 : 0 ≤ i := of_decide_eq_true g1
          have g2 : i.toNat < xs.length := of_decide_eq_true g2
          refine ⟨_, ?_, h⟩
          have hsh : shapeT s.st k = some (e', xs.length) := by simp only [shapeT, hl]
          simp only [TV.emb, T1.emb, TC.emb, hsh, indexAddrA, hu]
          rw [if_pos g1, if_pos ⟨trivial, by omega⟩]
          simp only [St.elems, getOb_emb, hl, Option.map_some, TOb.emb, List.length_map, if_true, Nat.zero_add, W.toNat]
        · exact h.elim
      · exact h.elim
    · rename_i k e' lo n tot
      split at h
      · rename_i f e2 vt xs hl
        split at h
        · rename_i he
          subst he
          obtain ⟨g0, h⟩ := grd_iff.1 h
          obtain ⟨g1, h⟩ := grd_iff.1 h
          obtain ⟨g2, h⟩ := grd_iff.1 h
          have g0 : xs.length = tot := of_decide_eq_true g0
          have g1 : 0 ≤ i := of_decide_eq_true g1
          have g2 : i.toNat < n := of_decide_eq_true g2
          refine ⟨_, ?_, h⟩
          simp only [TV.emb, T1.emb, TC.emb, AV.one, indexAddrA, hu]
          rw [if_pos g1, if_pos ⟨trivial, by omega⟩]
          simp only [St.elems, getOb_emb, hl, Option.map_some, TOb.emb, List.length_map, g0, if_true, W.nadd, W.toNat]
        · exact h.elim
      · exact h.elim
    · exact h.elim
  · rename_i len e hu
    split at h
    · rename_i n hn
      obtain ⟨g1, h⟩ := grd_iff.1 h
      obtain ⟨g2, h⟩ := grd_iff.1 h
      obtain ⟨x, hx, h⟩ := fwdT_ok (R := R) h
      refine ⟨x, ?_, h⟩
      simp only [indexAddrA, hu, hn]
      rw [if_pos ⟨of_decide_eq_true g1, of_decide_eq_true g2⟩]
      exact hx
    · exact h.elim
  · exact h.elim

theorem nil_emb {vt : VT} {news : List vt.den} (h : W.none news = true) : news.map vt.emb = [] := by
  cases news with
  | nil => rfl
  | cons a r => simp [W.none] at h
theorem cons_emb {vt : VT} {news : List vt.den} (h : W.none news = false) : ∃ y ys, news.map vt.emb = y :: ys := by
  cases news with
  | nil => simp [W.none] at h
  | cons a r => exact ⟨_, _, rfl⟩

theorem appendT_ok {d : Option Nat} {t : TypeId} {a b : T1} {K : TSt → Prop} (h : appendT P s d t a b K) : ∃ s1, appendA P (s.emb R) d t (a.emb s.st) (b.emb s.st) = some (s1.emb R) ∧ K s1 := by
  unfold appendT at h
  split at h
  · exact h.elim
  · rename_i e he
    split at h
    · rename_i es by_ z vt hes hby hz hvt
      split at h
      · exact h.elim
      · rename_i hno
        obtain ⟨news, hsrc, h⟩ := srcT_ok (R := R) h
        have newly : ∀ (x : AV), (x = .nils ∨ x = .cap0) → brc (W.none news) (K (s.put d (.a x))) (grd (W.nle (W.nmul (W.len news) by_) 140737488355328) (freshT s d e vt news K)) →
            ∃ s1, appendA P (s.emb R) d t x (b.emb s.st) = some (s1.emb R) ∧ K s1 := by
          intro x hx h
          rcases brc_cases h with ⟨hn, h⟩ | ⟨hn, h⟩
          · refine ⟨_, ?_, h⟩
            rw [nil_emb hn] at hsrc
            simp only [appendA, he, hes, hby, hsrc, hz]
            rw [if_neg hno]
            rcases hx with rfl | rfl <;> simp only [emb_put] <;> rfl
          · obtain ⟨g, h⟩ := grd_iff.1 h
            have g : news.length * by_ ≤ 140737488355328 := of_decide_eq_true g
            obtain ⟨s1, h1, h⟩ := freshT_ok (R := R) h
            refine ⟨s1, ?_, h⟩
            obtain ⟨y, ys, hy⟩ := cons_emb (vt := vt) hn
            have hl : (y :: ys).length = news.length := by rw [← hy, List.length_map]
            simp only [appendA, he, hes, hby, hsrc, hz]
            rw [if_neg hno, hy]
            rw [hy] at h1
            rcases hx with rfl | rfl <;> simp only [] <;> rw [if_pos (by rw [hl]; exact g)] <;> exact h1
        simp only at h
        split at h
        · exact newly _ (.inl rfl) h
        · exact newly _ (.inr rfl) h
        · exact newly _ (.inl rfl) h
        · exact newly _ (.inr rfl) h
        · rename_i k _
          split at h
          · rename_i e' vt' xs hl
            split at h
            · rename_i hee
              split at h
              · rename_i hvv
                subst hvv; subst hee
                obtain ⟨g, h⟩ := grd_iff.1 h
                have g : (xs.length + news.length) * by_ ≤ 140737488355328 := of_decide_eq_true g
                refine ⟨_, ?_, h⟩
                have hsh : shapeT s.st k = some (e', xs.length) := by simp only [shapeT, hl]
                have ha : (T1.c (.h k)).emb s.st = .arr 0 k e' 0 xs.length xs.length := by simp only [T1.emb, TC.emb, hsh]
                rw [ha]
                simp only [appendA, he, hes, hby, hsrc, hz]
                rw [if_neg hno]
                simp only [getOb_emb, hl, Option.map_some, TOb.emb, List.length_map]
                rw [if_pos (by simp; exact g), emb_put, emb_grow R s k e' (W.len xs) _ hsh (fun _ _ => rfl)]
                congr 2
                · simp only [TOb.emb, W.app, List.map_append]
                · have : shapeT (s.grow k e' (W.len xs) (.arr false e' vt (W.app xs news))).st k = some (e', xs.length + news.length) := by
                    simp only [shapeT, TSt.grow, lookT_lay, if_true]
                    rw [lookT_map, hl]
                    simp [W.app]
                  simp only [TV.emb, T1.emb, TC.emb, this]
              · exact h.elim
            · exact h.elim
          · exact h.elim
        · exact h.elim
    · exact h.elim

theorem copyT_ok {d : Option Nat} {t : TypeId} {a b : T1} {K : TSt → Prop} (h : copyT P s d t a b K) : ∃ s1, copyA P (s.emb R) d t (a.emb s.st) (b.emb s.st) = some (s1.emb R) ∧ K s1 := by
  unfold copyT at h
  split at h
  · exact h.elim
  · rename_i e he
    split at h
    · exact h.elim
    · rename_i n hn
      split at h
      · rename_i k
        split at h
        · rename_i e' vt xs hl
          split at h
          · rename_i hee
            subst hee
            obtain ⟨ys, hs, h⟩ := srcT_ok (R := R) h
            refine ⟨_, ?_, h⟩
            have hsh : shapeT s.st k = some (e', xs.length) := by simp only [shapeT, hl]
            have ha : (T1.c (.h k)).emb s.st = .arr 0 k e' 0 xs.length xs.length := by simp only [T1.emb, TC.emb, hsh]
            rw [ha]
            simp only [copyA, he, hn, hs]
            simp only [getOb_emb, hl, Option.map_some, TOb.emb, List.length_map]
            rw [if_pos (by simp), emb_put, emb_lay R s k _ (shape_lay hl (by simp [W.app, W.take, W.drop, W.nmin, W.len]; omega))]
            congr 2
            simp [TOb.emb, W.app, W.take, W.drop, W.nmin, W.len, List.map_take, List.map_drop]
          · exact h.elim
        · exact h.elim
      · rename_i k e' lo m tot
        split at h
        · rename_i e2 vt xs hl
          split at h
          · rename_i hee
            obtain ⟨rfl, rfl⟩ := hee
            obtain ⟨ys, hs, h⟩ := srcT_ok (R := R) h
            obtain ⟨g1, h⟩ := grd_iff.1 h
            obtain ⟨g2, h⟩ := grd_iff.1 h
            have g1 : xs.length = tot := of_decide_eq_true g1
            have g2 : lo + m ≤ tot := of_decide_eq_true g2
            refine ⟨_, ?_, h⟩
            have ha : (T1.c (.a (.arr 0 k e2 lo m tot))).emb s.st = .arr 0 k e2 lo m tot := rfl
            rw [ha]
            simp only [copyA, he, hn, hs]
            simp only [getOb_emb, hl, Option.map_some, TOb.emb, List.length_map]
            rw [if_pos (by simp; exact ⟨g1, g2⟩), emb_put, emb_lay R s k _ (shape_lay hl (by simp [W.app, W.take, W.drop, W.nmin, W.nadd, W.len]; omega))]
            congr 2
            simp [TOb.emb, W.app, W.take, W.drop, W.nmin, W.nadd, W.len, List.map_take, List.map_drop]
          · exact h.elim
        · exact h.elim
      · exact h.elim

theorem builtinT_ok {d : Option Nat} {b : Builtin} {ts : List TypeId} {as : List T1} {K : TSt → Prop} (h : builtinT P s d b ts as K) : ∃ s1, builtinA P (s.emb R) d b ts (as.map (T1.emb s.st)) = some (s1.emb R) ∧ K s1 := by
  unfold builtinT at h
  split at h
  · split at h
    · obtain ⟨n, hn, h⟩ := lenT_ok (R := R) h
      refine ⟨_, ?_, h⟩
      simp only [List.map_cons, List.map_nil, builtinA, hn, Option.map_some, emb_put]; rfl
    · exact h.elim
  · split at h
    · split at h
      · rename_i hu
        obtain ⟨s1, h1, h⟩ := appendT_ok (R := R) h
        exact ⟨s1, by simp only [List.map_cons, List.map_nil, builtinA, hu]; exact h1, h⟩
      · rename_i hu
        obtain ⟨s1, h1, h⟩ := appendT_ok (R := R) h
        exact ⟨s1, by simp only [List.map_cons, List.map_nil, builtinA, hu]; exact h1, h⟩
      · exact h.elim
    · exact h.elim
  · split at h
    · obtain ⟨s1, h1, h⟩ := copyT_ok (R := R) h
      exact ⟨s1, by simp only [List.map_cons, List.map_nil, builtinA]; exact h1, h⟩
    · exact h.elim
  · split at h
    · exact ⟨_, by simp only [List.map_cons, List.map_nil, builtinA, T1.emb, TC.emb, AV.one, emb_put]; rfl, h⟩
    · exact h.elim
  · split at h
    · exact ⟨_, by simp only [List.map_cons, List.map_nil, builtinA, T1.emb, TC.emb, AV.one, emb_put]; rfl, h⟩
    · exact h.elim
  · split at h
    · split at h
      · rename_i hk
        subst hk
        exact ⟨_, by simp only [List.map_cons, List.map_nil, builtinA, T1.emb, TC.emb, AV.one, emb_put, if_true]; rfl, h⟩
      · exact h.elim
    · exact h.elim
  · split at h
    · exact ⟨_, by simp only [List.map_cons, List.map_nil, builtinA, T1.emb, TC.emb, AV.one, emb_put]; rfl, h⟩
    · exact h.elim
  · split at h
    · exact ⟨_, by simp only [List.map_cons, List.map_nil, builtinA, T1.emb, TC.emb, AV.one, emb_put]; rfl, h⟩
    · exact h.elim
  · exact h.elim
end
end Go.AbsM
