/-
  The abstract machine: copy, clear, make, slice literals.
-/
import Derived.Test.YtmfegciehdjicaaAbsOps5
set_option linter.unusedVariables false
set_option linter.unusedSimpArgs false
namespace Go.AbsM

section
variable {P : Program} {w w' : World} {g : Gh} {may : Nat → Prop} {s : St} {a : Act}

theorem RepL.splice {M : Nat → Nat → Prop} {e : TypeId} {xs ys : List AV} {us vs : List Value} (h : RepL P w M e xs us) (k : RepL P w M e ys vs) (lo : Nat) :
    RepL P w M e (xs.take lo ++ (ys ++ xs.drop (lo + ys.length))) (us.take lo ++ (vs ++ us.drop (lo + vs.length))) := by
  refine (h.take lo).append (k.append ?_)
  rw [k.1]
  exact h.drop _

/-- Elements laid over a slice that some frame owns. -/
theorem lay_arr (hs : Sim P may s a w g) (hm : ∀ b, w.heap.size ≤ b → may b) {i k : Nat} {e : TypeId} {xs ys : List AV} {vs : List Value} {lo : Nat} (hg : getOb s.stores i k = some (.arr false e xs)) (hr : RepL P w g.M e ys vs) (hle : lo + ys.length ≤ xs.length)
    {d : Option Nat} {x : AV} {v : Value} (hx : ∀ w' g' S', HRep P w' g' S' x v) :
    ∃ w', (storeCells ⟨g.B i k, lo * P.cellsOf e, none⟩ (flat vs)).run P w = .ok () w' ∧
      Leaves P may s w g (St.put { s with stores := setOb s.stores i k (.arr false e (xs.take lo ++ (ys ++ xs.drop (lo + ys.length)))) } d x) (a.put d v) w' := by
  obtain ⟨hmay, hnM, hpos, cur, us0, cap, hh, hcl, hcc, hcapm, hxc, hr0, htk⟩ := hs.inv.arr i k _ xs hg
  have hl0 : (flat us0).length = xs.length * P.cellsOf e := hr0.len
  have hl1 : (flat vs).length = ys.length * P.cellsOf e := hr.len
  have hfit : lo * P.cellsOf e + (flat vs).length ≤ xs.length * P.cellsOf e := by
    rw [hl1, ← Nat.add_mul]; exact Nat.mul_le_mul_right _ hle
  have hxcap : xs.length * P.cellsOf e ≤ cur.length := by rw [hcl, hcc]; exact Nat.mul_le_mul_right _ hxc
  have hst := run_storeCells_at P (g.B i k) (lo * P.cellsOf e) e (flat vs) 0 cur.toArray w hh (by simp; omega) hr.ones
  simp only [Nat.add_zero] at hst
  refine ⟨_, hst, ?_⟩
  have hlen' : (xs.take lo ++ (ys ++ xs.drop (lo + ys.length))).length = xs.length := by simp; omega
  have hfr := (Chg.setRow w (g.B i k) (cur.take (lo * P.cellsOf e) ++ flat vs ++ cur.drop (lo * P.cellsOf e + (flat vs).length)).toArray).fr hs.inv hm hmay hnM
  refine leave_arr hs hm hg (b := g.B i k) (c0 := g.C i k) (Chg.setRow w _ _) (by rw [hlen']; exact Nat.le_refl _) (.inl ⟨rfl, rfl⟩)
    ⟨cur.take (lo * P.cellsOf e) ++ flat vs ++ cur.drop (lo * P.cellsOf e + (flat vs).length), us0.take lo ++ (vs ++ us0.drop (lo + vs.length)), cap, ?_, ?_, hcc, hcapm, by rw [hlen']; exact hxc, ?_, ?_⟩ (hx _ _ _)
  · have := setRow_heap w (g.B i k) cur.toArray (cur.take (lo * P.cellsOf e) ++ flat vs ++ cur.drop (lo * P.cellsOf e + (flat vs).length)).toArray e (0, 0) hh
    simpa using this
  · rw [← hcl]; simp; omega
  · have := (hr0.splice hr lo).mono hfr.sub hfr.cell
    simpa using this
  · rw [hlen', flat_append, flat_append, flat_take hr0.2.2, flat_drop hr0.2.2, ← htk, Nat.add_mul, hr.1, ← hl1]
    rw [List.take_take, Nat.min_eq_left (by omega)]
    rw [List.append_assoc, List.take_append]
    have e1 : (cur.take (lo * P.cellsOf e)).length = lo * P.cellsOf e := by simp; omega
    rw [List.take_of_length_le (by omega), e1, List.take_append]
    congr 1
    rw [List.take_of_length_le (by omega)]
    congr 1
    rw [List.drop_take]
    congr 1
    omega

theorem copy_zero {t ty e : TypeId} {A : Option Addr} {n c m sz : Nat} {v : Value} {rest : List TypeId} (hu : P.underlying t = some (.slice e)) (hsz : sizeT P e = some sz) (hl : (Builtin.lenOf v).run P w = .ok m w) (h0 : min m n = 0) (hf : (Builtin.firstCells sz 0 v).run P w = .ok #[] w) :
    (Builtin.copy_ (t :: rest).toArray ty #[.slice A n c, v]).run P w = .ok (.int .i64 0) w := by
  have : Nat.min m n = 0 := h0
  cases A <;> simp [Builtin.copy_, run_underlying hu, hl, sizeT_run hsz, this, hf, storeCells, goInt]

theorem copyA_sound (hs : Sim P may s a w g) (hm : ∀ b, w.heap.size ≤ b → may b) {s' : St} {d : Option Nat} {t ty : TypeId} {rest : List TypeId} {x y : AV} {u v : Value} (hx : HRep P w g s.stores x u) (hy : HRep P w g s.stores y v) (h : copyA P s d t x y = some s') :
    ∃ z w', (Builtin.copy_ (t :: rest).toArray ty #[u, v]).run P w = .ok z w' ∧ Leaves P may s w g s' (a.put d z) w' := by
  unfold copyA at h
  split at h
  · cases h
  rename_i e he
  have hu := elemT_some he
  split at h
  · rename_i sz ys hsz hsrc
    have hce := sizeT_cells hsz
    obtain ⟨us, hr, hlen, hfirst⟩ := hs.inv.src hy hsrc
    have hf : ∀ n, n ≤ ys.length → (Builtin.firstCells sz n v).run P w = .ok (flat (us.take n)).toArray w := by
      intro n hn
      have := hfirst n hn w (fun _ _ _ h => h)
      rw [hce] at this
      exact this
    have hf0 : (Builtin.firstCells sz 0 v).run P w = .ok #[] w := by simpa [flat] using hf 0 (by omega)
    split at h
    · rename_i i k e' lo n tot
      split at h
      · rename_i e2 xs hg
        split at h
        · rename_i hc
          obtain ⟨rfl, rfl, hxt, hln⟩ := hc
          simp only [Option.some.injEq] at h; subst h
          obtain ⟨fz, xs', hg', ht, hq, _⟩ := hx.inv_arr
          rw [hg] at hg'
          simp only [Option.some.injEq, Ob.arr.injEq] at hg'
          obtain ⟨rfl, _, rfl⟩ := hg'
          obtain ⟨_, A, c, rfl, hnc, hcm, hA, hC⟩ := hq hxt
          have hty : (ys.take (min ys.length n)).length = min ys.length n := by simp
          obtain ⟨w', hst, hlv⟩ := lay_arr hs hm (lo := lo) hg (hr.take (min ys.length n)) (by rw [hty]; omega) (d := d) (x := .int .i64 (min ys.length n : Nat)) (v := .int .i64 (min ys.length n : Nat)) (fun _ _ _ => HRep.mk_x rfl)
          rw [hty] at hlv
          refine ⟨_, w', ?_, hlv⟩
          have hmin : Nat.min ys.length n = min ys.length n := rfl
          by_cases h0 : min ys.length n = 0
          · have hz := copy_zero (ty := ty) (A := A) (c := c) (rest := rest) hu hsz hlen h0 hf0
            rw [h0] at hst ⊢
            simp [flat, storeCells] at hst
            rw [hz, hst]
            simp
          · rw [hA (.inr (by omega))]
            simp [Builtin.copy_, run_underlying hu, hlen, sizeT_run hsz, hmin, hf (min ys.length n) (Nat.min_le_left _ _), hst, goInt]
        · cases h
      · cases h
    · simp only [Option.some.injEq] at h; subst h
      have e1 := hx.inv_nils; subst e1
      exact ⟨_, w, copy_zero hu hsz hlen (by simp) hf0, Leaves.same (hs.put (HRep.mk_x rfl) d) (put_stores _ _ _)⟩
    · simp only [Option.some.injEq] at h; subst h
      obtain ⟨A, rfl⟩ := hx.inv_cap0
      exact ⟨_, w, copy_zero hu hsz hlen (by simp) hf0, Leaves.same (hs.put (HRep.mk_x rfl) d) (put_stores _ _ _)⟩
    · split at h
      · rename_i h0
        simp only [Option.some.injEq] at h; subst h
        obtain ⟨A, c, us', rfl, _⟩ := hx.inv_sl
        exact ⟨_, w, copy_zero hu hsz hlen h0 hf0, Leaves.same (hs.put (HRep.mk_x rfl) d) (put_stores _ _ _)⟩
      · cases h
    · cases h
  · cases h

/-! ### Zero values, many times -/
theorem flat_replicate (zv : Value) (n : Nat) : flat (List.replicate n zv) = (List.replicate n zv.cells.toList).flatten := by
  simp [flat, List.flatMap_def]

theorem madeCells_flat {zv : Value} {es n : Nat} (h : zv.cells.size = es) (hes : 0 < es) : ((Array.range (n * es)).map (zv.cells[· % zv.cells.size]!)).toList = flat (List.replicate n zv) := by
  apply List.ext_getElem?
  intro k
  have e1 : flat (List.replicate n zv) = ((List.replicate n zv).flatMap fun v => v.cells.toList) := rfl
  rw [e1, Great.flat_get hes _ (fun v hv => by rw [List.eq_of_mem_replicate hv]; exact h)]
  simp only [Array.toList_map, Array.toList_range, List.getElem?_map, List.getElem?_range']
  by_cases hk : k < n * es
  · have hkd : k / es < n := (Nat.div_lt_iff_lt_mul hes).2 hk
    have hmod : k % es < zv.cells.size := by rw [h]; exact Nat.mod_lt _ hes
    rw [List.getElem?_range hk, List.getElem?_replicate, if_pos hkd, h]
    simp [hmod]
  · have hkd : ¬ k / es < n := by rw [Nat.div_lt_iff_lt_mul hes]; exact hk
    rw [List.getElem?_eq_none (by simp; omega), List.getElem?_replicate, if_neg hkd]
    rfl

theorem RepL.replicate {M : Nat → Nat → Prop} {e : TypeId} {z : AV} {zv : Value} (h : Rep P w M z zv) (hsz : zv.cells.size = P.cellsOf e) (n : Nat) : RepL P w M e (List.replicate n z) (List.replicate n zv) :=
  ⟨by simp, (fun i x u hx hu => by
    rw [List.getElem?_replicate] at hx hu
    split at hx
    · rename_i hi
      rw [if_pos hi] at hu
      simp only [Option.some.injEq] at hx hu
      subst hx; subst hu; exact h
    · cases hx), fun u hu => by rw [List.eq_of_mem_replicate hu]; exact hsz⟩

theorem makeA_sound (hs : Sim P may s a w g) (hm : ∀ b, w.heap.size ≤ b → may b) {s' : St} {d : Option Nat} {t : TypeId} {l c : Int} {kl kc : IntKind} (h : makeA P s d t l c = some s') :
    ∃ z w', (Instr.makeSlice t (.int kl l) (.int kc c)).run P w = .ok z w' ∧ Leaves P may s w g s' (a.put d z) w' := by
  unfold makeA at h
  split at h
  · cases h
  rename_i e he
  have hu := elemT_some he
  split at h
  · rename_i n by_ z hn hby hz
    split at h
    · rename_i hc
      obtain ⟨h0, hlc, hc63, hb, hnp, hzl, hzv⟩ := hc
      have hce := sizeT_cells hn
      obtain ⟨i, hi, rfl⟩ := Option.map_eq_some_iff.1 hn
      obtain ⟨i', hi', hbi⟩ := Option.map_eq_some_iff.1 hby
      rw [hi] at hi'; cases hi'; subst hbi
      obtain ⟨i', zv, hi', hzz, hzc⟩ := zeroT_some hz
      rw [hi] at hi'; cases hi'
      have hrep := constAV_rep (P := P) (w := w) hzc g.M
      have hzs : zv.cells.size = i.size := by
        have := (constAV_cells (P := P) (w := w) (g := g) (S := s.stores) hzc).1.1
        simp only [Array.length_toList] at this
        rw [this, hzl]
      have hrun := run_make (P := P) w t e i zv hu hi hzz kl kc l c h0 hlc hb hc63
      refine ⟨_, _, hrun, ?_⟩
      have hln : (List.replicate l.toNat z).length = l.toNat := List.length_replicate
      have := fresh_sound (cur := (madeCells zv.cells (c.toNat * i.size)).toList) (us := List.replicate l.toNat zv) (cap := c.toNat) (b := w.heap.size) hs hm (Ext.alloc w (.cells (madeCells zv.cells (c.toNat * i.size)) e)) h (Nat.le_refl _)
        (by simpa using heap_alloc_new w _) (by rw [hce]; exact hnp) (by simp [size_madeCells, hce]) (by simp only [maxLen]; omega) (by rw [hln]; omega) (RepL.replicate hrep (by rw [hce]; exact hzs) _)
        (by
          have e1 := madeCells_flat (n := c.toNat) hzs hnp
          rw [hln]
          unfold madeCells
          rw [e1, hce, ← flat_take (fun u hu => by rw [List.eq_of_mem_replicate hu]; exact hzs), List.take_replicate, Nat.min_eq_left (by omega)])
      rw [hln] at this
      exact this
    · cases h
  · cases h

/-! ### Slice literals -/
/-- No handles: then cells stand to values whatever the stores are. -/
theorem CellsRep.vals {S : List Store} {cs : List AV} {vs : List Value} (h : CellsRep P w g S cs vs) (hv : cs.all AV.isVal = true) : ∀ (i : Nat) (c : AV) (u : Value), cs[i]? = some c → vs[i]? = some u → Rep P w g.M c u := by
  intro i c u hc hu
  exact (h.2 i c u hc hu).1.rep (List.all_eq_true.1 hv c (List.mem_of_getElem? hc))

theorem chunksA_sound {S : List Store} {agg : Bool} {e : TypeId} {n : Nat} {cs : List AV} {vs : List Value} {xs : List AV} (hag : aggT P e = some agg) (hpos : 0 < P.cellsOf e) (hc : CellsRep P w g S cs vs) (hv : cs.all AV.isVal = true) (hl : cs.length = n * P.cellsOf e)
    (h : chunksA agg (P.cellsOf e) n cs = some xs) : xs.length = n ∧ ∃ us, RepL P w g.M e xs us ∧ flat us = vs := by
  induction n generalizing cs vs xs with
  | zero =>
    simp only [chunksA, Option.some.injEq] at h; subst h
    refine ⟨rfl, [], RepL.nil, ?_⟩
    have : vs.length = 0 := by rw [hc.1, hl]; simp
    rw [List.eq_nil_of_length_eq_zero this]; rfl
  | succ n ih =>
    simp only [chunksA] at h
    have hlen : P.cellsOf e ≤ cs.length := by rw [hl, Nat.add_mul]; omega
    split at h
    · rename_i r hr
      obtain ⟨hrl, us, hrr, hfl⟩ := ih (hc.drop _) (by rw [List.all_eq_true] at hv ⊢; exact fun c hc => hv c (List.mem_of_mem_drop hc)) (by rw [List.length_drop, hl, Nat.add_mul]; omega) hr
      split at h
      · simp only [Option.some.injEq] at h; subst h
        have ht := hc.take (P.cellsOf e)
        have htv : (cs.take (P.cellsOf e)).all AV.isVal = true := by rw [List.all_eq_true] at hv ⊢; exact fun c hc => hv c (List.mem_of_mem_take hc)
        have hlt : (vs.take (P.cellsOf e)).length = P.cellsOf e := by rw [List.length_take, hc.1]; omega
        refine ⟨by simp [hrl], .agg (vs.take (P.cellsOf e)).toArray :: us, ⟨by simp [hrr.1], fun i x u hx hu => ?_, fun u hu => ?_⟩, ?_⟩
        · cases i with
          | zero =>
            simp at hx hu; subst hx; subst hu
            have := Rep.agg (P := P) (w := w) (M := g.M) (cs := cs.take (P.cellsOf e)) (vs := vs.take (P.cellsOf e)) ht.1 (ht.vals htv) (fun c hc => List.all_eq_true.1 htv c hc)
            simpa using this
          | succ i => exact hrr.2.1 i x u (by simpa using hx) (by simpa using hu)
        · rcases List.mem_cons.1 hu with rfl | hu
          · simpa [Value.cells] using hlt
          · exact hrr.2.2 u hu
        · rw [flat_cons, hfl]
          simp [Value.cells]
      · split at h
        · rename_i hes
          split at h
          · rename_i c hcc
            simp only [Option.some.injEq] at h; subst h
            cases cs with
            | nil => simp at hcc
            | cons c0 cr =>
              simp at hcc; subst hcc
              cases vs with
              | nil => exact absurd hc.1 (by simp)
              | cons v0 vr =>
                have h0 := hc.2 0 c0 v0 rfl rfl
                have hr0 := h0.1.rep (List.all_eq_true.1 hv c0 (by simp))
                refine ⟨by simp [hrl], v0 :: us, ⟨by simp [hrr.1], fun i x u hx hu => ?_, fun u hu => ?_⟩, ?_⟩
                · cases i with
                  | zero => simp at hx hu; subst hx; subst hu; exact hr0
                  | succ i => exact hrr.2.1 i x u (by simpa using hx) (by simpa using hu)
                · rcases List.mem_cons.1 hu with rfl | hu
                  · rw [cells_of_one h0.2, hes]; rfl
                  · exact hrr.2.2 u hu
                · rw [flat_cons, hfl, hes, cells_of_one h0.2]; rfl
          · cases h
        · cases h
    · cases h
end
end Go.AbsM
