/-
  The abstract machine: one operation, calls apart: what the model does with it.
-/
import Derived.Test.YtmfegciehdjicaaAbsOps9
import Derived.Test.YtmfegciehdjicaaAbsFrame
set_option linter.unusedVariables false
set_option linter.unusedSimpArgs false
namespace Go.AbsM

section
variable {P : Program} {w : World} {g : Gh} {may : Nat → Prop} {s s' : St} {a : Act} {o : Oper}

/-- The operation yields a value (or nothing), and the frame behind it stands to the state behind it. -/
def OpOk (P : Program) (may : Nat → Prop) (s : St) (a : Act) (w : World) (g : Gh) (s' : St) (o : Oper) : Prop :=
  ∃ w', (∃ v, (execOp a.eval o).run P w = .ok (.value v) w' ∧ Leaves P may s w g s' (a.put o.dst v) w') ∨ ((execOp a.eval o).run P w = .ok .skip w' ∧ Leaves P may s w g s' (a.put o.dst undef) w')

theorem OpOk.value {v : Value} {w' : World} (hr : (execOp a.eval o).run P w = .ok (.value v) w') (hl : Leaves P may s w g s' (a.put o.dst v) w') : OpOk P may s a w g s' o := ⟨w', .inl ⟨v, hr, hl⟩⟩

theorem OpOk.pure (hs : Sim P may s a w g) {x : AV} {v : Value} (hr : (execOp a.eval o).run P w = .ok (.value v) w) (hx : HRep P w g s.stores x v) : OpOk P may s a w g (s.put o.dst x) o :=
  .value hr (.same (hs.put hx o.dst) (put_stores _ _ _))

theorem partsA_sound (hs : Sim P may s a w g) {ps : List (Nat × Operand)} {l : List (Nat × AV)} (h : partsA s ps = some l) : PartsRep P w g s.stores l (ps.map fun x => (x.1, a.eval x.2)) := by
  induction ps generalizing l with
  | nil => simp [partsA] at h; subst h; exact ⟨rfl, fun i x y h => by simp at h⟩
  | cons p r ih =>
    obtain ⟨i, x⟩ := p
    simp only [partsA] at h
    split at h
    · rename_i y k hy hk
      simp only [Option.some.injEq] at h; subst h
      obtain ⟨h1, h2⟩ := ih hk
      refine ⟨by simpa using h1, fun j u v hu hv => ?_⟩
      cases j with
      | zero => simp at hu hv; subst hu; subst hv; exact ⟨rfl, hs.evalO hy⟩
      | succ j => simp at hu hv; exact h2 j u v hu (by simpa using hv)
    · cases h

theorem evalOs_sound (hs : Sim P may s a w g) {ps : List Operand} {l : List AV} (h : evalOs s ps = some l) : (ps.map a.eval).length = l.length ∧ ∀ (i : Nat) (x : AV) (v : Value), l[i]? = some x → (ps.map a.eval)[i]? = some v → HRep P w g s.stores x v := by
  induction ps generalizing l with
  | nil => simp [evalOs] at h; subst h; exact ⟨rfl, fun i x y h => by simp at h⟩
  | cons p r ih =>
    simp only [evalOs] at h
    split at h
    · rename_i y k hy hk
      simp only [Option.some.injEq] at h; subst h
      obtain ⟨h1, h2⟩ := ih hk
      refine ⟨by simpa using h1, fun j u v hu hv => ?_⟩
      cases j with
      | zero => simp at hu hv; subst hu; subst hv; exact hs.evalO hy
      | succ j => simp at hu hv; exact h2 j u v hu (by simpa using hv)
    · cases h

theorem evalOs_one (hs : Sim P may s a w g) {as : Array Operand} {x : AV} (h : evalOs s as.toList = some [x]) : ∃ v, as.map a.eval = #[v] ∧ HRep P w g s.stores x v := by
  obtain ⟨h1, h2⟩ := evalOs_sound hs h
  obtain ⟨as⟩ := as
  match as, h1 with
  | [p], _ => exact ⟨a.eval p, by simp, h2 0 _ _ rfl rfl⟩

theorem evalOs_two (hs : Sim P may s a w g) {as : Array Operand} {x y : AV} (h : evalOs s as.toList = some [x, y]) : ∃ u v, as.map a.eval = #[u, v] ∧ HRep P w g s.stores x u ∧ HRep P w g s.stores y v := by
  obtain ⟨h1, h2⟩ := evalOs_sound hs h
  obtain ⟨as⟩ := as
  match as, h1 with
  | [p, q], _ => exact ⟨a.eval p, a.eval q, by simp, h2 0 _ _ rfl rfl, h2 1 _ _ rfl rfl⟩

theorem ts_cons {ts : Array TypeId} {t : TypeId} {r : List TypeId} (h : ts.toList = t :: r) : ts = (t :: r).toArray := by
  rw [← h]

theorem builtinA_sound (hs : Sim P may s a w g) (hm : ∀ b, w.heap.size ≤ b → may b) {b : Builtin} {c : Call} (hc : c.callee = .builtin b) (ho : o.op = .call c) {as : List AV} (has : evalOs s c.args.toList = some as)
    (h : builtinA P s o.dst b c.argTypes.toList as = some s') : OpOk P may s a w g s' o := by
  have hrun : (execOp a.eval o).run P w = (builtin b c.argTypes o.type (c.args.map fun | .const _ => true | _ => false) (c.args.map a.eval)).run P w := by
    simp [execOp, ho, Go.resolve, hc, invoke]
    rfl
  unfold builtinA at h
  split at h
  · split at h
    · rename_i x t r hts
      obtain ⟨n, hn, rfl⟩ : ∃ n, lenOfA P s t x = some n ∧ s.put o.dst (.int .i64 n) = s' := by
        cases hl : lenOfA P s t x with
        | none => simp [hl] at h
        | some n => exact ⟨n, rfl, by simpa [hl] using h⟩
      obtain ⟨v, hv, hx⟩ := evalOs_one hs has
      have := lenOfA_sound hs.inv hx hn r o.type
      refine OpOk.pure hs (v := .int .i64 n) ?_ (HRep.mk_int _ _)
      rw [hrun, hv, ts_cons hts]
      simp [builtin, this]
    · cases h
  · split at h
    · rename_i x y t t2 hts
      split at h
      · rename_i e he
        obtain ⟨u, v, huv, hx, hy⟩ := evalOs_two hs has
        obtain ⟨z, w', hz, hl⟩ := appendA_sound (ty := o.type) hs hm (.inl ⟨_, he⟩) hx hy h
        refine OpOk.value (v := z) (w' := w') ?_ hl
        rw [hrun, huv, ts_cons hts]
        simp [builtin, hz]
      · rename_i he
        obtain ⟨u, v, huv, hx, hy⟩ := evalOs_two hs has
        obtain ⟨z, w', hz, hl⟩ := appendA_sound (ty := o.type) hs hm (.inr he) hx hy h
        refine OpOk.value (v := z) (w' := w') ?_ hl
        rw [hrun, huv, ts_cons hts]
        simp [builtin, hz]
      · cases h
    · cases h
  · split at h
    · rename_i x y t r hts
      obtain ⟨u, v, huv, hx, hy⟩ := evalOs_two hs has
      obtain ⟨z, w', hz, hl⟩ := copyA_sound (ty := o.type) (rest := r) hs hm hx hy h
      refine OpOk.value (v := z) (w' := w') ?_ hl
      rw [hrun, huv, ts_cons hts]
      simp [builtin, hz]
    · cases h
  · split at h
    · rename_i x t r hts
      obtain ⟨v, hv, hx⟩ := evalOs_one hs has
      obtain ⟨z, w', hz, hl⟩ := clearA_sound (ty := o.type) (rest := r) hs hm hx h
      refine OpOk.value (v := z) (w' := w') ?_ hl
      rw [hrun, hv, ts_cons hts]
      simp [builtin, hz]
    · cases h
  · split at h
    · rename_i k p q
      simp only [Option.some.injEq] at h; subst h
      obtain ⟨v, hv, hx⟩ := evalOs_one hs has
      obtain ⟨rfl, _⟩ := hx.inv_x
      refine OpOk.pure hs (v := .float k p) ?_ (HRep.mk_x rfl)
      rw [hrun, hv]
      rfl
    · cases h
  · split at h
    · rename_i k p q
      simp only [Option.some.injEq] at h; subst h
      obtain ⟨v, hv, hx⟩ := evalOs_one hs has
      obtain ⟨rfl, _⟩ := hx.inv_x
      refine OpOk.pure hs (v := .float k q) ?_ (HRep.mk_x rfl)
      rw [hrun, hv]
      rfl
    · cases h
  · split at h
    · rename_i k p k' q
      split at h
      · rename_i hk
        subst hk
        simp only [Option.some.injEq] at h; subst h
        obtain ⟨u, v, huv, hx, hy⟩ := evalOs_two hs has
        obtain ⟨rfl, _⟩ := hx.inv_x
        obtain ⟨rfl, _⟩ := hy.inv_x
        refine OpOk.pure hs (v := .complex k p q) ?_ (HRep.mk_x rfl)
        rw [hrun, huv]
        have : Builtin.complex_ c.argTypes o.type #[.float k p, .float k q] = pure (.complex k p q) := by
          show (if k = k then _ else _) = _
          rw [if_pos rfl]
        simp [builtin, this]
      · cases h
    · cases h
  · split at h
    · rename_i k p k' q
      simp only [Option.some.injEq] at h; subst h
      obtain ⟨u, v, huv, hx, hy⟩ := evalOs_two hs has
      obtain ⟨rfl, _⟩ := hx.inv_x
      obtain ⟨rfl, _⟩ := hy.inv_x
      refine OpOk.pure hs (v := .int k (if q < p then q else p)) ?_ (HRep.mk_int _ _)
      rw [hrun, huv]
      simp [builtin, Builtin.min_, Builtin.min2]
    · cases h
  · split at h
    · rename_i k p k' q
      simp only [Option.some.injEq] at h; subst h
      obtain ⟨u, v, huv, hx, hy⟩ := evalOs_two hs has
      obtain ⟨rfl, _⟩ := hx.inv_x
      obtain ⟨rfl, _⟩ := hy.inv_x
      refine OpOk.pure hs (v := .int k (if q > p then q else p)) ?_ (HRep.mk_int _ _)
      rw [hrun, huv]
      simp [builtin, Builtin.max_, Builtin.max2]
    · cases h
  · cases h

theorem newVar_run {t : TypeId} {v : Value} : (newVar t v).run P w = .ok ⟨w.heap.size, 0, none⟩ (w.alloc (.cells v.cells t)) := rfl

theorem opA_sound (hs : Sim P may s a w g) (hm : ∀ b, w.heap.size ≤ b → may b) (h : opA P s o = some s') : OpOk P may s a w g s' o := by
  unfold opA at h
  split at h
  · -- move
    rename_i x ho
    obtain ⟨y, hy, rfl⟩ := Option.map_eq_some_iff.1 h
    exact .pure hs (v := a.eval x) (by simp [execOp, ho]) (hs.evalO hy)
  · -- assign
    rename_i x ho
    obtain ⟨y, hy, rfl⟩ := Option.map_eq_some_iff.1 h
    exact .pure hs (v := a.eval x) (by simp [execOp, ho]) (hs.evalO hy)
  · -- pick
    rename_i c x y ho
    split at h
    · rename_i t ht
      obtain ⟨hb, _⟩ := (hs.evalO ht).inv_x
      obtain ⟨z, hz, rfl⟩ := Option.map_eq_some_iff.1 h
      cases t with
      | true => exact .pure hs (v := a.eval x) (by simp [execOp, ho, hb, asBool]) (hs.evalO (by simpa using hz))
      | false => exact .pure hs (v := a.eval y) (by simp [execOp, ho, hb, asBool]) (hs.evalO (by simpa using hz))
    · cases h
  · -- nilCheck
    rename_i x ho
    split at h
    · rename_i i k off hx
      simp only [Option.some.injEq] at h; subst h
      have hr := hs.evalO hx
      have he := hr.inv_ref.2
      exact .pure hs (v := a.eval x) (by simp [execOp, ho, he]) hr
    · cases h
  · -- alloc
    rename_i e ho
    split at h
    · rename_i z hz
      obtain ⟨i, v, hi, hzv, hc⟩ := zeroT_some hz
      have hr : HRep P w g s.stores z v := HRep.of_rep (constAV_rep hc g.M)
      have hb := boxA_sound hs hm hr h
      refine .value (v := .pointer (some ⟨w.heap.size, 0, none⟩)) (w' := w.alloc (.cells v.cells e)) ?_ hb
      have h2 := newVar_run (P := P) (w := w) (t := e) (v := v)
      have hz2 : (zeroValue e).run P w = .ok v w := by simp [zeroValue, typeInfo, hi, hzv]
      simp [execOp, ho, Instr.alloc, hz2, h2]
    · cases h
  · -- box
    rename_i e x ho
    split at h
    · rename_i y hy
      have hr := hs.evalO hy
      have hb := boxA_sound hs hm hr h
      refine .value (v := .pointer (some ⟨w.heap.size, 0, none⟩)) (w' := w.alloc (.cells (a.eval x).cells e)) ?_ hb
      have h2 := newVar_run (P := P) (w := w) (t := e) (v := a.eval x)
      simp [execOp, ho, Instr.box, h2]
    · cases h
  · -- build
    rename_i t ps ho
    split at h
    · rename_i l hl
      have hp := partsA_sound hs hl
      obtain ⟨cs, v, rfl, hrun, hv⟩ := buildA_sound (m := ps.map fun x => (x.1, a.eval x.2)) rfl (by simpa using hp) h
      exact .pure hs (by simp [execOp, ho, hrun]) hv
    · cases h
  · -- buildSlice
    rename_i t len ps ho
    split at h
    · rename_i l hl
      have hp := partsA_sound hs hl
      obtain ⟨v, w', hrun, hv⟩ := buildSliceA_sound (m := ps.map fun x => (x.1, a.eval x.2)) hs hm (by simpa using hp) h
      exact .value (by simp [execOp, ho, hrun]) hv
    · cases h
  · -- makeSlice
    rename_i t lo co ho
    split at h
    · rename_i k1 l k2 c hl hc
      obtain ⟨e1, _⟩ := (hs.evalO hl).inv_x
      obtain ⟨e2, _⟩ := (hs.evalO hc).inv_x
      obtain ⟨v, w', hrun, hv⟩ := makeA_sound (kl := k1) (kc := k2) hs hm h
      exact .value (by simp [execOp, ho, e1, e2, hrun]) hv
    · cases h
  · -- load
    rename_i t x ho
    split at h
    · rename_i p hp
      obtain ⟨r, hr, rfl⟩ := Option.map_eq_some_iff.1 h
      obtain ⟨u, hrun, hu⟩ := loadA_sound hs.inv (hs.evalO hp) hr
      exact .pure hs (by simp [execOp, ho, hrun]) hu
    · cases h
  · -- store
    rename_i t x y ho
    split at h
    · rename_i p v hp hv
      obtain ⟨w', hrun, hl⟩ := storeA_sound hs hm (hs.evalO hp) (hs.evalO hv) h
      exact ⟨w', .inr ⟨by simp [execOp, ho, hrun], hl⟩⟩
    · cases h
  · -- fieldAddr
    rename_i t x f ho
    split at h
    · rename_i fields p hu hp
      split at h
      · rename_i fd hf
        split at h
        · rename_i m hm'
          obtain ⟨r, hr, rfl⟩ := Option.map_eq_some_iff.1 h
          obtain ⟨u, hrun, hu⟩ := fieldAddr_sound hu hf hm' (hs.evalO hp) hr
          exact .pure hs (by simp [execOp, ho, hrun]) hu
        · cases h
      · cases h
    · cases h
  · -- indexAddr
    rename_i t x y ho
    split at h
    · rename_i p k i hp hi
      obtain ⟨e2, _⟩ := (hs.evalO hi).inv_x
      obtain ⟨r, hr, rfl⟩ := Option.map_eq_some_iff.1 h
      obtain ⟨u, hrun, hu⟩ := indexAddrA_sound (k := k) hs.inv (hs.evalO hp) hr
      exact .pure hs (by simp [execOp, ho, e2, hrun]) hu
    · cases h
  · -- field
    rename_i t x f ho
    split at h
    · rename_i fields cs hu hp
      split at h
      · rename_i fd hf
        obtain ⟨r, hr, rfl⟩ := Option.map_eq_some_iff.1 h
        obtain ⟨vs, hv, hc⟩ := (hs.evalO hp).inv_agg
        obtain ⟨u, hrun, hu'⟩ := partA_sound hc hr
        exact .pure hs (by simp [execOp, ho, Instr.field, run_underlying hu, hf, hv, asAgg, hrun]) hu'
      · cases h
    · cases h
  · -- index
    rename_i t x y ho
    split at h
    · rename_i p k i hp hi
      obtain ⟨e2, _⟩ := (hs.evalO hi).inv_x
      split at h
      · rename_i len e hu
        split at h
        · rename_i cs n hn
          split at h
          · rename_i hb
            obtain ⟨r, hr, rfl⟩ := Option.map_eq_some_iff.1 h
            obtain ⟨vs, hv, hc⟩ := (hs.evalO hp).inv_agg
            obtain ⟨u, hrun, hu'⟩ := partA_sound hc hr
            exact .pure hs (by simp [execOp, ho, Instr.index, asIntOf, run_underlying hu, hv, e2, hb, sizeT_run hn, hrun]) hu'
          · cases h
        · cases h
      · rename_i hu
        split at h
        · rename_i l
          split at h
          · rename_i h0
            split at h
            · rename_i b hb
              simp only [Option.some.injEq] at h; subst h
              have hv := (hs.evalO hp).inv_str
              have hb' : (⟨l.toArray⟩ : ByteArray)[i.toNat]? = some b := by
                have hlt : i.toNat < l.length := by
                  rcases Nat.lt_or_ge i.toNat l.length with h | h
                  · exact h
                  · simp [List.getElem?_eq_none h] at hb
                have hge : l[i.toNat] = b := by simpa [List.getElem?_eq_getElem hlt] using hb
                rw [getElem?_pos (⟨l.toArray⟩ : ByteArray) i.toNat (by simpa [ByteArray.size] using hlt)]
                rw [← hge]; rfl
              exact .pure hs (v := .int .u8 b.toNat) (by simp [execOp, ho, Instr.index, asIntOf, run_underlying hu, hv, e2, h0, hb']) (HRep.mk_int _ _)
            · cases h
          · cases h
        · cases h
      · cases h
    · cases h
  · -- slice
    rename_i t x lo hi mx ho
    split at h
    · rename_i p hp
      obtain ⟨r, hr, rfl⟩ := Option.map_eq_some_iff.1 h
      obtain ⟨u, hrun, hu⟩ := sliceA_sound hs (hs.evalO hp) hr
      exact .pure hs (by simp [execOp, ho, hrun]) hu
    · cases h
  · -- binOp
    rename_i op t x y _ ho
    split at h
    · rename_i p q hp hq
      obtain ⟨r, hr, rfl⟩ := Option.map_eq_some_iff.1 h
      obtain ⟨u, h1, h2, hu⟩ := binA_sound (ox := x) (oy := y) hs.inv (hs.evalO hp) (hs.evalO hq) hr
      exact .pure hs (by simp [execOp, ho, h1, h2]) hu
    · cases h
  · -- unOp
    rename_i op t x ho
    split at h
    · rename_i p hp
      obtain ⟨r, hr, rfl⟩ := Option.map_eq_some_iff.1 h
      obtain ⟨u, h1, hu⟩ := unA_sound (hs.evalO hp) hr
      exact .pure hs (by simp [execOp, ho, h1]) hu
    · cases h
  · -- convert
    rename_i src dst x ho
    split at h
    · rename_i p hp
      obtain ⟨z, w', hrun, hl⟩ := convertA_sound hs hm (hs.evalO hp) h
      exact .value (by simp [execOp, ho, hrun]) hl
    · cases h
  · -- extract
    rename_i x i ho
    split at h
    · rename_i vs hx
      obtain ⟨r, hr, rfl⟩ := Option.map_eq_some_iff.1 h
      obtain ⟨us, hv, hl, hc⟩ := (hs.evalO hx).inv_tup
      have hlt : i < us.length := by
        rw [hl]
        rcases Nat.lt_or_ge i vs.length with h | h
        · exact h
        · simp [List.getElem?_eq_none h] at hr
      have h1 := hc i r us[i] hr (by simp [hlt])
      refine .pure hs (v := us[i]) (by simp [execOp, ho, Instr.extract, hv, hlt]) (HRep.of_one h1 fun l e => ?_)
      subst e; exact h1.of_tup
    · cases h
  · -- call
    rename_i c ho
    split at h
    · rename_i b hb
      split at h
      · rename_i as has
        exact builtinA_sound hs hm hb ho has h
      · cases h
    · cases h
  · cases h
end
end Go.AbsM
