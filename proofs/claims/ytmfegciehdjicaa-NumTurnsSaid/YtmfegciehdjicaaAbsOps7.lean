/-
  The abstract machine: values that are settled, stores through addresses, slice literals, clear, bytes out of strings.
-/
import Derived.Test.YtmfegciehdjicaaAbsOps6
set_option linter.unusedVariables false
set_option linter.unusedSimpArgs false
namespace Go.AbsM

section
variable {P : Program} {w w' : World} {g : Gh} {may : Nat → Prop} {s : St} {a : Act}

/-- A state settles some values: the frame and memory are as they were. -/
def Settles (P : Program) (may : Nat → Prop) (s : St) (a : Act) (w : World) (g : Gh) (s' : St) (g' : Gh) : Prop :=
  Sim P may s' a w g' ∧ Fr may w g.M w g'.M ∧ Kp 0 s.stores g s'.stores g' ∧ s'.slots = s.slots

theorem Settles.refl (hs : Sim P may s a w g) : Settles P may s a w g s g := ⟨hs, Fr.refl _ _ _, Kp.refl _ _ _, rfl⟩
theorem Settles.trans {s1 s2 : St} {g1 g2 : Gh} (h : Settles P may s a w g s1 g1) (k : Settles P may s1 a w g1 s2 g2) : Settles P may s a w g s2 g2 :=
  ⟨k.1, h.2.1.trans k.2.1, h.2.2.1.trans k.2.2.1, k.2.2.2.trans h.2.2.2⟩
theorem Settles.hrep {S : List Store} {s' : St} {g' : Gh} (h : Settles P may s a w g s' g') {x : AV} {v : Value} (hx : HRep P w g s.stores x v) : HRep P w g' s'.stores x v := hx.keep h.2.1.sub h.2.1.cell h.2.2.1
theorem Settles.crep {s' : St} {g' : Gh} (h : Settles P may s a w g s' g') {x : AV} {v : Value} (hx : CRep P w g s.stores x v) : CRep P w g' s'.stores x v := hx.keep h.2.1.sub h.2.1.cell h.2.2.1 (AV.from_zero _)
theorem Settles.rep {s' : St} {g' : Gh} (h : Settles P may s a w g s' g') {x : AV} {v : Value} (hx : Rep P w g.M x v) : Rep P w g'.M x v := hx.mono h.2.1.sub h.2.1.cell

/-- A slice is read only from now on; its value, by its elements. -/
theorem setFz_sound (hs : Sim P may s a w g) {i k : Nat} {e : TypeId} {lo n tot : Nat} {v : Value} {xs : List AV} (hv : HRep P w g s.stores (.arr i k e lo n tot) v) (h : s.elems i k lo n tot = some xs) :
    ∃ g', Settles P may s a w g (s.setFz i k) g' ∧ Rep P w g'.M (.sl e xs) v := by
  obtain ⟨fz, ys, hg, ht, hq, _⟩ := hv.inv_arr
  have hl : ys.length = tot ∧ (ys.drop lo).take n = xs := by
    simp only [St.elems, hg] at h
    split at h
    · rename_i hl; simp only [Option.some.injEq] at h; exact ⟨hl, h⟩
    · cases h
  have key : ∃ g', Settles P may s a w g (s.setFz i k) g' ∧ ∃ fz', getOb (s.setFz i k).stores i k = some (.arr true e ys) ∧ fz' = true ∧ g'.B i k = g.B i k := by
    cases fz with
    | true =>
      have e1 : s.setFz i k = { s with stores := setOb s.stores i k (.arr true e ys) } := by simp [St.setFz, hg]
      have hk : Kp 0 s.stores g (setOb s.stores i k (.arr true e ys)) g := by
        have hget : ∀ i' k', getOb (setOb s.stores i k (.arr true e ys)) i' k' = getOb s.stores i' k' := by
          intro i' k'
          rw [getOb_set]
          split
          · rename_i hn; obtain ⟨rfl, rfl⟩ := hn; simp [hg]
          · rfl
        exact ⟨fun i' k' cs _ hh => ⟨⟨cs, by rw [hget]; exact hh⟩, rfl⟩, fun i' k' fz e' zs _ hh => ⟨fz, zs, by rw [hget]; exact hh, Nat.le_refl _, fun _ => ⟨rfl, fun hf => ⟨hf, rfl⟩⟩⟩⟩
      have hget : ∀ i' k', getOb (setOb s.stores i k (.arr true e ys)) i' k' = getOb s.stores i' k' := by
        intro i' k'
        rw [getOb_set]
        split
        · rename_i hn; obtain ⟨rfl, rfl⟩ := hn; simp [hg]
        · rfl
      have hinv : SInv P w g may (setOb s.stores i k (.arr true e ys)) := by
        refine ⟨fun i' k' cs hh => ?_, fun i' k' e' zs hh => ?_, fun i' k' e' zs hh => ?_, fun i1 k1 o1 i2 k2 o2 h1 h2 => ?_, hs.inv.mlt⟩
        · rw [hget] at hh
          obtain ⟨q1, q2, vs, t, q3, q4, q5⟩ := hs.inv.box i' k' cs hh
          exact ⟨q1, q2, vs, t, q3, q4, fun j c u hc hu => ⟨CRep.keep (g := g) (g' := g) (S := s.stores) (fun _ _ h => h) (fun _ _ _ => rfl) hk (AV.from_zero _) (q5 j c u hc hu).1, (q5 j c u hc hu).2⟩⟩
        · rw [hget] at hh; exact hs.inv.arr i' k' e' zs hh
        · rw [hget] at hh; exact hs.inv.fz i' k' e' zs hh
        · rw [hget] at h1 h2; exact hs.inv.inj i1 k1 o1 i2 k2 o2 h1 h2
      refine ⟨g, ?_, true, by rw [e1, getOb_set]; simp [hg], rfl, rfl⟩
      rw [e1]
      exact ⟨hs.keep (fun _ _ h => h) (fun _ _ _ => rfl) hk hinv (setOb_ne hs.ne _ _ _), Fr.refl _ _ _, hk, rfl⟩
    | false =>
      have e1 : s.setFz i k = { s with stores := setOb s.stores i k (.arr true e ys) } := by simp [St.setFz, hg]
      obtain ⟨h1, h2, h3⟩ := hs.inv.setFz hg
      refine ⟨g.fz (g.B i k) (ys.length * P.cellsOf e), ?_, true, by rw [e1, getOb_set]; simp [hg], rfl, rfl⟩
      rw [e1]
      exact ⟨hs.keep h3.sub h3.cell h2 h1 (setOb_ne hs.ne _ _ _), h3, h2, rfl⟩
  obtain ⟨g', hset, _, hg', _, hB⟩ := key
  refine ⟨g', hset, ?_⟩
  obtain ⟨hpos, us, hr, hcell⟩ := hset.1.inv.fz i k e ys hg'
  obtain ⟨hln, A, c, rfl, hnc, hcm, hA, hC⟩ := hq hl.1
  have hxl : xs.length = n := by rw [← hl.2]; simp; omega
  refine .sl (us := (us.drop lo).take n) hxl.symm ?_ (by omega) hcm hpos ?_ ?_ fun hne => ?_
  · rw [← hl.2]; simp [hr.1]
  · rw [← hl.2]; exact ((hr.drop lo).take n).2.1
  · exact ((hr.drop lo).take n).2.2
  · have hn0 : 0 < n := by
      rcases Nat.eq_zero_or_pos n with h0 | h0
      · exact absurd (List.eq_nil_of_length_eq_zero (by rw [hxl]; exact h0)) hne
      · exact h0
    refine ⟨g.B i k, lo * P.cellsOf e, hA (.inr hn0), fun j cv hj => ?_⟩
    rw [flat_take (fun u hu => hr.2.2 u (List.mem_of_mem_drop hu)), flat_drop hr.2.2, List.getElem?_take] at hj
    split at hj
    · rw [List.getElem?_drop] at hj
      have := hcell _ cv hj
      rw [hB] at this
      exact this
    · cases hj

theorem resolve1_sound (hs : Sim P may s a w g) {x y : AV} {v : Value} {s' : St} (hv : CRep P w g s.stores x v) (h : resolve1 s x = some (s', y)) : ∃ g', Settles P may s a w g s' g' ∧ Rep P w g'.M y v ∧ y.isVal = true := by
  cases x with
  | arr i k e lo n tot =>
    simp only [resolve1] at h
    split at h
    · rename_i xs hx
      simp only [Option.some.injEq, Prod.mk.injEq] at h
      obtain ⟨rfl, rfl⟩ := h
      obtain ⟨g', h1, h2⟩ := setFz_sound hs (HRep.of_cell hv) hx
      exact ⟨g', h1, h2, rfl⟩
    · cases h
  | x u =>
    simp only [resolve1, Option.some.injEq, Prod.mk.injEq] at h
    obtain ⟨rfl, rfl⟩ := h
    exact ⟨g, .refl hs, hv, rfl⟩
  | str l =>
    simp only [resolve1, Option.some.injEq, Prod.mk.injEq] at h
    obtain ⟨rfl, rfl⟩ := h
    exact ⟨g, .refl hs, hv, rfl⟩
  | nils =>
    simp only [resolve1, Option.some.injEq, Prod.mk.injEq] at h
    obtain ⟨rfl, rfl⟩ := h
    exact ⟨g, .refl hs, hv, rfl⟩
  | cap0 =>
    simp only [resolve1, Option.some.injEq, Prod.mk.injEq] at h
    obtain ⟨rfl, rfl⟩ := h
    exact ⟨g, .refl hs, hv, rfl⟩
  | sl e xs =>
    simp only [resolve1, Option.some.injEq, Prod.mk.injEq] at h
    obtain ⟨rfl, rfl⟩ := h
    exact ⟨g, .refl hs, hv, rfl⟩
  | _ => simp [resolve1] at h

theorem resolveL_sound (hs : Sim P may s a w g) {xs ys : List AV} {vs : List Value} {s' : St} (hv : CellsRep P w g s.stores xs vs) (h : resolveL s xs = some (s', ys)) :
    ∃ g', Settles P may s a w g s' g' ∧ vs.length = ys.length ∧ (∀ (i : Nat) (c : AV) (u : Value), ys[i]? = some c → vs[i]? = some u → Rep P w g'.M c u) ∧ ∀ c, c ∈ ys → c.isVal = true := by
  induction xs generalizing s g vs ys s' with
  | nil =>
    simp only [resolveL, Option.some.injEq, Prod.mk.injEq] at h
    obtain ⟨rfl, rfl⟩ := h
    exact ⟨g, .refl hs, hv.1, fun i c u hc => by simp at hc, fun c hc => by simp at hc⟩
  | cons x r ih =>
    simp only [resolveL] at h
    split at h
    · rename_i s1 b h1
      split at h
      · rename_i s2 l h2
        simp only [Option.some.injEq, Prod.mk.injEq] at h
        obtain ⟨rfl, rfl⟩ := h
        cases vs with
        | nil => exact absurd hv.1 (by simp)
        | cons v0 vr =>
          obtain ⟨g1, q1, q2, q3⟩ := resolve1_sound hs (hv.2 0 x v0 rfl rfl).1 h1
          have hv' : CellsRep P w g1 s1.stores r vr := ⟨by simpa using hv.1, fun i c u hc hu => ⟨q1.crep (hv.2 (i + 1) c u (by simpa using hc) (by simpa using hu)).1, (hv.2 (i + 1) c u (by simpa using hc) (by simpa using hu)).2⟩⟩
          obtain ⟨g2, p1, p2, p3, p4⟩ := ih q1.1 hv' h2
          refine ⟨g2, q1.trans p1, by simp [p2], fun i c u hc hu => ?_, fun c hc => ?_⟩
          · cases i with
            | zero => simp at hc hu; subst hc; subst hu; exact p1.rep q2
            | succ i => exact p3 i c u (by simpa using hc) (by simpa using hu)
          · rcases List.mem_cons.1 hc with rfl | hc
            · exact q3
            · exact p4 c hc
      · cases h
    · cases h

theorem resolve_sound (hs : Sim P may s a w g) {x y : AV} {v : Value} {s' : St} (hv : HRep P w g s.stores x v) (h : resolve s x = some (s', y)) : ∃ g', Settles P may s a w g s' g' ∧ Rep P w g'.M y v := by
  have one : CRep P w g s.stores x v → resolve1 s x = some (s', y) → ∃ g', Settles P may s a w g s' g' ∧ Rep P w g'.M y v := fun h1 h2 => by
    obtain ⟨g', q1, q2, _⟩ := resolve1_sound hs h1 h2
    exact ⟨g', q1, q2⟩
  cases x with
  | agg cs =>
    simp only [resolve] at h
    split at h
    · rename_i s1 l h1
      simp only [Option.some.injEq, Prod.mk.injEq] at h
      obtain ⟨rfl, rfl⟩ := h
      obtain ⟨vs, rfl, hcr⟩ := hv.inv_agg
      obtain ⟨g', q1, q2, q3, q4⟩ := resolveL_sound hs hcr h1
      exact ⟨g', q1, .agg q2 q3 q4⟩
    · cases h
  | tup => simp [resolve, resolve1] at h
  | _ =>
    unfold HRep HRep1 at hv
    exact one hv h

theorem resolveAll_sound (hs : Sim P may s a w g) {xs ys : List AV} {vs : List Value} {s' : St} (hl : vs.length = xs.length) (hv : ∀ (i : Nat) (c : AV) (u : Value), xs[i]? = some c → vs[i]? = some u → HRep P w g s.stores c u) (h : resolveAll s xs = some (s', ys)) :
    ∃ g', Settles P may s a w g s' g' ∧ vs.length = ys.length ∧ ∀ (i : Nat) (c : AV) (u : Value), ys[i]? = some c → vs[i]? = some u → Rep P w g'.M c u := by
  induction xs generalizing s g vs ys s' with
  | nil =>
    simp only [resolveAll, Option.some.injEq, Prod.mk.injEq] at h
    obtain ⟨rfl, rfl⟩ := h
    exact ⟨g, .refl hs, hl, fun i c u hc => by simp at hc⟩
  | cons x r ih =>
    simp only [resolveAll] at h
    split at h
    · rename_i s1 b h1
      split at h
      · rename_i s2 l h2
        simp only [Option.some.injEq, Prod.mk.injEq] at h
        obtain ⟨rfl, rfl⟩ := h
        cases vs with
        | nil => exact absurd hl (by simp)
        | cons v0 vr =>
          obtain ⟨g1, q1, q2⟩ := resolve_sound hs (hv 0 x v0 rfl rfl) h1
          obtain ⟨g2, p1, p2, p3⟩ := ih (vs := vr) q1.1 (by simpa using hl) (fun i c u hc hu => q1.hrep (S := s.stores) (hv (i + 1) c u (by simpa using hc) (by simpa using hu))) h2
          refine ⟨g2, q1.trans p1, by simp [p2], fun i c u hc hu => ?_⟩
          cases i with
          | zero => simp at hc hu; subst hc; subst hu; exact p1.rep q2
          | succ i => exact p3 i c u (by simpa using hc) (by simpa using hu)
      · cases h
    · cases h

/-- Two steps, one behind the other. -/
theorem Settles.leaves {s1 s' : St} {g1 : Gh} {a' : Act} {w' : World} (h : Settles P may s a w g s1 g1) (k : Leaves P may s1 w g1 s' a' w') : Leaves P may s w g s' a' w' := by
  obtain ⟨g', q1, q2, q3⟩ := k
  exact ⟨g', q1, h.2.1.trans q2, (h.2.2.1.mono (by omega)).trans q3⟩

theorem zip_parts {l : List (Nat × AV)} {ys : List AV} {m : List (Nat × Value)} {S : List Store} (hl : m.length = l.length) (hn : ∀ (i : Nat) (x : Nat × AV) (y : Nat × Value), l[i]? = some x → m[i]? = some y → x.1 = y.1) (hy : (m.map (·.2)).length = ys.length)
    (hr : ∀ (i : Nat) (c : AV) (u : Value), ys[i]? = some c → (m.map (·.2))[i]? = some u → Rep P w g.M c u) : PartsRep P w g S ((l.map (·.1)).zip ys) m := by
  refine ⟨by simp at hy ⊢; omega, fun i x y hx hyy => ?_⟩
  have hm : i < m.length := (List.getElem?_eq_some_iff.1 hyy).1
  have hil : i < l.length := by omega
  have hiy : i < ys.length := by simp at hy; omega
  rw [List.getElem?_eq_getElem (by simp; omega)] at hx
  simp only [List.getElem_zip, List.getElem_map, Option.some.injEq] at hx
  subst hx
  have hme := (List.getElem?_eq_some_iff.1 hyy).2
  refine ⟨hn i l[i] y (by simp [hil]) hyy, ?_⟩
  exact HRep.of_rep (hr i ys[i] y.2 (by simp [hiy]) (by simp [hm, hme]))

theorem CellsRep.replicate {S : List Store} {cs : List AV} {vs : List Value} (h : CellsRep P w g S cs vs) (n : Nat) : CellsRep P w g S (List.replicate n cs).flatten (List.replicate n vs).flatten := by
  induction n with
  | zero => exact ⟨rfl, fun i c u hc => by simp at hc⟩
  | succ n ih => rw [List.replicate_succ, List.replicate_succ, List.flatten_cons, List.flatten_cons]; exact h.append ih

theorem fill_length {sz : Nat} {vs : List Value} {l : List (Nat × Value)} {r : Array Value} (h : Instr.fill (fun j => some (j * sz, sz)) vs.toArray l = some r) : r.size = vs.length := by
  induction l generalizing vs with
  | nil => simp [Instr.fill] at h; subst h; simp
  | cons x l ih =>
    obtain ⟨j, v⟩ := x
    simp only [Instr.fill] at h
    split at h
    · cases h
    · rename_i hh
      have hle : j * sz + v.cells.toList.length ≤ vs.length := by
        simp only [ne_eq, List.size_toArray, Bool.or_eq_true, decide_eq_true_eq, not_or, Decidable.not_not] at hh
        simp only [Array.length_toList]
        omega
      have e1 := foldl_lay (j * sz) v.cells.toList vs hle
      have hz' : v.cells.zipIdx.foldl (fun (cs : Array Value) (x : Value × Nat) => match x with | (c, k) => cs.setIfInBounds (j * sz + k) c) vs.toArray = (v.cells.toList.zipIdx).foldl (fun (cs : Array Value) (x : Value × Nat) => cs.setIfInBounds (j * sz + x.2) x.1) vs.toArray := by
        rw [← Array.foldl_toList]; simp
      rw [hz', e1] at h
      have := ih h
      rw [this]
      simp only [List.length_append, List.length_take, List.length_drop, Array.length_toList] at hle ⊢
      omega

theorem buildSliceA_sound (hs : Sim P may s a w g) (hm : ∀ b, w.heap.size ≤ b → may b) {s' : St} {d : Option Nat} {t : TypeId} {len : Nat} {l : List (Nat × AV)} {m : Array (Nat × Value)} (hl : PartsRep P w g s.stores l m.toList) (h : buildSliceA P s d t len l = some s') :
    ∃ z w', (Instr.buildSlice t len m).run P w = .ok z w' ∧ Leaves P may s w g s' (a.put d z) w' := by
  unfold buildSliceA at h
  split at h
  · rename_i e s1 ys he hres
    have hu := elemT_some he
    obtain ⟨g1, hset, hyl, hyr⟩ := resolveAll_sound hs (vs := m.toList.map (·.2)) (by simpa using hl.1) (fun i c u hc hu => by
      simp only [List.getElem?_map, Option.map_eq_some_iff] at hc hu
      obtain ⟨x, hx, rfl⟩ := hc
      obtain ⟨y, hy, rfl⟩ := hu
      exact (hl.2 i x y hx hy).2) hres
    split at h
    · rename_i n z hn hz
      split at h
      · cases h
      rename_i hno
      have hn0 : n ≠ 0 := fun e => hno (.inl e)
      have hsmall : ¬ len * n > 16777216 := fun e => hno (.inr (.inl e))
      have hzl : z.cells.length = n := Decidable.byContradiction fun e => hno (.inr (.inr e))
      have hce := sizeT_cells hn
      split at h
      · rename_i cs hf
        split at h
        · rename_i hval
          split at h
          · rename_i xs hch
            obtain ⟨agg, hag, hch⟩ := Option.bind_eq_some_iff.1 hch
            obtain ⟨i, hi, rfl⟩ := Option.map_eq_some_iff.1 hn
            obtain ⟨i', zv, hi', hzz, hzc⟩ := zeroT_some hz
            rw [hi] at hi'; cases hi'
            have hzs : zv.cells.size = i.size := by
              have := (constAV_cells (P := P) (w := w) (g := g1) (S := s1.stores) hzc).1.1
              simp only [Array.length_toList] at this
              rw [this, hzl]
            have hparts := zip_parts (g := g1) (S := s1.stores) hl.1 (fun i x y hx hy => (hl.2 i x y hx hy).1) hyl hyr
            have hbase : CellsRep P w g1 s1.stores ((List.replicate len z.cells).flatten) (flat (List.replicate len zv)) := by
              rw [flat_replicate]
              exact (constAV_cells (P := P) (w := w) (g := g1) (S := s1.stores) hzc).1.replicate len
            obtain ⟨us, hfill, hus⟩ := fillA_sound hparts hbase hf
            have hfl := madeCells_flat (n := len) hzs (by omega)
            have hszu : us.length = len * i.size := by
              have := fill_length hfill
              simp only [List.size_toArray] at this
              rw [this, flat_length (es := i.size) (fun u hu => by rw [List.eq_of_mem_replicate hu, hzs]), List.length_replicate]
            have hcsl : cs.length = len * P.cellsOf e := by rw [← hus.1, hszu, hce]
            rw [← hce] at hch
            obtain ⟨hxl, us2, hr2, hfl2⟩ := chunksA_sound hag (by rw [hce]; omega) hus hval hcsl hch
            have hrun : (Instr.buildSlice t len m).run P w = .ok (.slice (some ⟨w.heap.size, 0, none⟩) len len) (w.alloc (.cells us.toArray e)) := by
              by_cases h0 : len = 0
              · subst h0
                have hm0 : us = [] := List.eq_nil_of_length_eq_zero (by rw [hszu]; simp)
                subst hm0
                have hzero : flat (List.replicate 0 zv) = [] := rfl
                rw [hzero] at hfill
                simp [Instr.buildSlice, run_underlying hu, sizeOf, typeInfo, hi, newRow, Array.range_zero', hfill]
              · refine run_buildSlice w t e len m us.toArray i zv hu hi hzz (by simpa using hsmall) (Nat.mul_ne_zero h0 hn0) ?_
                have e2 : (Array.range (len * i.size)).map (zv.cells[· % zv.cells.size]!) = (flat (List.replicate len zv)).toArray := by
                  apply Array.ext'; rw [hfl]
                rw [e2]
                exact hfill
            refine ⟨_, _, hrun, ?_⟩
            have := fresh_sound (cur := us) (us := us2) (cap := len) (b := w.heap.size) hset.1 hm (Ext.alloc w (.cells us.toArray e)) h (Nat.le_refl _) (heap_alloc_new w _) (by rw [hce]; omega) (by rw [hszu, hce])
              (by simp only [maxLen]; have : len ≤ len * i.size := Nat.le_mul_of_pos_right _ (by omega); omega) (by omega) hr2 (by rw [hxl, hfl2, List.take_of_length_le (by rw [hszu, hce]; omega)])
            rw [hxl] at this
            exact hset.leaves this
          · cases h
        · cases h
      · cases h
    · cases h
  · cases h
end
end Go.AbsM
