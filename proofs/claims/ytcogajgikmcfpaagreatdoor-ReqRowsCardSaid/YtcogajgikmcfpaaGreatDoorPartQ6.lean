/-
  Texts of a proof over the translated program: proved evaluators and walks, part 6 of 23.
-/
import Derived.Test.YtcogajgikmcfpaaGreatDoorPartQ5
import Derived.Great.BuildSlice
import Derived.Laws.IdiomStrings
import Derived.WalkKit
set_option linter.unusedVariables false
set_option linter.unusedSimpArgs false
set_option linter.unusedSectionVars false
set_option linter.unnecessarySimpa false
section
namespace Go.AbsM
section
variable {P : Program} {w w' : World} {g : Gh} {may : Nat → Prop} {s : St} {a : Act}
theorem SInv.mark {S : List Store} (hi : SInv P w g may S) {B0 : Nat} (hsize : w'.heap.size = w.heap.size) (hsame : ∀ ad, w'.cell? ad = w.cell? ad) (hheap : ∀ b, b ≠ B0 → w'.heap[b]? = w.heap[b]?) (hno : ∀ i k o, getOb S i k = some o → o.loose = true → g.B i k ≠ B0) : SInv P w' g may S := by
  have hkp : Kp 0 S g S g := Kp.refl _ _ _
  refine ⟨fun i k cs h => ?_, fun i k e xs h => ?_, fun i k e xs h => ?_, hi.inj, fun b o h => by rw [hsize]; exact hi.mlt b o h⟩
  · obtain ⟨h1, h2, vs, t, h3, h4, h5⟩ := hi.box i k cs h
    exact ⟨h1, h2, vs, t, by rw [hheap _ (hno i k _ h rfl)]; exact h3, h4, fun j c u hc hu => ⟨CRep.keep (g := g) (g' := g) (S := S) (fun _ _ h => h) (fun b o _ => hsame _) hkp (AV.from_zero _) (h5 j c u hc hu).1, (h5 j c u hc hu).2⟩⟩
  · obtain ⟨h1, h2, he, cur, us, cap, h3, h4, h5, h6, h7, h8, h9⟩ := hi.arr i k e xs h
    exact ⟨h1, h2, he, cur, us, cap, by rw [hheap _ (hno i k _ h rfl)]; exact h3, h4, h5, h6, h7, h8.mono (fun _ _ h => h) (fun b o _ => hsame _), h9⟩
  · obtain ⟨he, us, hr, hc⟩ := hi.fz i k e xs h
    exact ⟨he, us, hr.mono (fun _ _ h => h) (fun b o _ => hsame _), fun m cv hm => ⟨(hsame _).trans (hc m cv hm).1, (hc m cv hm).2⟩⟩
theorem freeze_cell (w : World) (ad : Addr) (n : Nat) (b : Addr) : (w.freeze ad n).cell? b = w.cell? b := by
  unfold World.freeze
  split
  · rfl
  · unfold World.cell?
    simp only [Array.getElem?_modify]
    by_cases h : ad.block = b.block
    · rw [if_pos h]
      cases hb : w.heap[b.block]? with
      | none => rfl
      | some o => cases o <;> rfl
    · rw [if_neg h]
theorem freeze_heap (w : World) (ad : Addr) (n : Nat) (b : Nat) (h : b ≠ ad.block) : (w.freeze ad n).heap[b]? = w.heap[b]? := by
  unfold World.freeze
  split
  · rfl
  · simp only [Array.getElem?_modify]
    rw [if_neg (Ne.symm h)]
theorem freeze_size (w : World) (ad : Addr) (n : Nat) : (w.freeze ad n).heap.size = w.heap.size := by
  unfold World.freeze; split <;> simp
theorem markStringish_run (ad : Addr) : ∃ w', (markStringish ad).run P w = .ok () w' ∧ w'.os = w.os ∧ w'.tape = w.tape ∧ w'.output = w.output ∧ w'.heap.size = w.heap.size ∧ (∀ b, w'.cell? b = w.cell? b) ∧ ∀ b, b ≠ ad.block → w'.heap[b]? = w.heap[b]? := by
  unfold markStringish
  cases h : w.shape? ad.block with
  | none => exact ⟨w, by simp [h], rfl, rfl, rfl, rfl, fun _ => rfl, fun _ _ => rfl⟩
  | some x =>
    obtain ⟨e, n⟩ := x
    refine ⟨w.freeze ⟨ad.block, n, none⟩ 1, by simp [h], ?_, ?_, ?_, freeze_size _ _ _, freeze_cell _ _ _, fun b hb => freeze_heap _ _ _ b hb⟩ <;> (unfold World.freeze; split <;> rfl)
theorem convertA_sound (hs : Sim P may s a w g) (hm : ∀ b, w.heap.size ≤ b → may b) {s' : St} {d : Option Nat} {src dst : TypeId} {x : AV} {v : Value} (hv : HRep P w g s.stores x v) (h : convertA P s d src dst x = some s') :
    ∃ z w', (convert src dst v).run P w = .ok z w' ∧ Leaves P may s w g s' (a.put d z) w' := by
  unfold convertA at h
  split at h
  · rename_i r hr
    simp only [Option.some.injEq] at h; subst h
    obtain ⟨u, hrun, hu⟩ := convA_sound hs.inv hv hr
    exact ⟨u, w, hrun, Leaves.same (hs.put hu d) (put_stores _ _ _)⟩
  · split at h
    · rename_i e hus hud
      split at h
      · rename_i l hue hcn
        split at h
        · rename_i hc
          obtain ⟨hlen, hce⟩ := hc
          simp only [Option.some.injEq] at h; subst h
          have e1 := hv.inv_str; subst e1
          have hsz : (⟨l.toArray⟩ : ByteArray).size = l.length := by simp [ByteArray.size]
          have hrun := run_bytes_of_string (P := P) w src dst e ⟨l.toArray⟩ hus hud hue
          rw [hsz] at hrun
          refine ⟨_, _, hrun, ?_⟩
          have hge := grownCap_ge w l.length 0 e
          have hgm := grownCap_le_maxLen w l.length 0 e (by simp only [maxLen]; omega)
          have hx : Ext w (w.drew.alloc (.cells (bytesRow ⟨l.toArray⟩ (grownCap w l.length 0 e)) e ((bytesRow ⟨l.toArray⟩ (grownCap w l.length 0 e)).size, (bytesRow ⟨l.toArray⟩ (grownCap w l.length 0 e)).size + 1))) := (Ext.drew w).trans (Ext.alloc w.drew _)
          refine Leaves.put_rep hs hm hx (M' := fun b o => g.M b o ∨ b = w.heap.size) (fun _ _ h => .inl h) (fun b o h1 h2 => ?_) ?_ d
          · have hb : b = w.heap.size := h1.resolve_left h2
            subst hb
            exact ⟨Nat.le_refl _, by simp⟩
          · have hl : (avsOfBytes l).length = l.length := by simp [avsOfBytes]
            rw [← hl]
            refine .sl (us := l.map fun b => .int .u8 b.toNat) rfl (by simp [avsOfBytes]) (by rw [hl]; exact hge) (by rw [hl]; exact hgm) (by omega) (fun i y u hy hu => ?_) (fun u hu => ?_) fun hne => ?_
            · rw [avs_getElem?] at hy
              simp only [List.getElem?_map] at hu
              cases hli : l[i]? with
              | none => simp [hli] at hy
              | some b => simp [hli] at hy hu; subst hy; subst hu; exact .x rfl
            · obtain ⟨b, _, rfl⟩ := List.mem_map.1 hu
              rw [hce]; rfl
            · refine ⟨w.heap.size, 0, rfl, fun j cv hj => ⟨?_, .inr rfl⟩⟩
              have hf : flat (l.map fun b => Value.int .u8 b.toNat) = l.map fun b => Value.int .u8 b.toNat := by
                generalize l = m
                induction m with
                | nil => rfl
                | cons b r ih => rw [List.map_cons, flat_cons, ih]; rfl
              rw [hf] at hj
              have hjl : j < l.length := by
                have := (List.getElem?_eq_some_iff.1 hj).1
                simpa using this
              have hnew := heap_alloc_new w.drew (.cells (bytesRow ⟨l.toArray⟩ (grownCap w (avsOfBytes l).length 0 e)) e ((bytesRow ⟨l.toArray⟩ (grownCap w (avsOfBytes l).length 0 e)).size, (bytesRow ⟨l.toArray⟩ (grownCap w (avsOfBytes l).length 0 e)).size + 1))
              rw [Nat.zero_add]
              have hcr := cell_of_row _ w.heap.size j _ e _ hnew
              rw [hcr]
              simp only [bytesRow, List.map_toArray]
              rw [Array.getElem?_append_left (by simpa using hjl)]
              simpa using hj
        · cases h
      · cases h
    · rename_i e0 e hus hud
      split at h
      · rename_i hsd
        subst hsd
        split at h
        · rename_i i k e' lo n tot hue hcn
          split at h
          · rename_i e2 ys xs hg hx
            simp only [Option.some.injEq] at h; subst h
            rw [hus] at hud
            cases hud
            obtain ⟨g1, hset, hrep⟩ := setFz_sound hs hv hx
            obtain ⟨hxl, A, c, us, rfl, h1, h2, hr, hA⟩ := hs.inv.elems hv hx
            obtain ⟨_, b, o, rfl, _⟩ := hA (by rintro rfl; simp at hxl)
            obtain ⟨fz, zs, hg', ht, hq, _⟩ := hv.inv_arr
            rw [hg] at hg'
            simp only [Option.some.injEq, Ob.arr.injEq] at hg'
            obtain ⟨rfl, rfl, rfl⟩ := hg'
            have hl : ys.length = tot := by
              simp only [St.elems, hg] at hx
              split at hx
              · assumption
              · cases hx
            obtain ⟨hln, A', c', heq, hnc, hcm, hA', hC⟩ := hq hl
            injection heq with q1 q2 q3
            rw [hA' (.inr (by omega))] at q1
            injection q1 with q1
            injection q1 with q1 q4 q5
            subst q1
            obtain ⟨w', hmk, m1, m2, m3, m4, m5, m6⟩ := markStringish_run (P := P) (w := w) ⟨g.B i k, o, none⟩
            refine ⟨.slice (some ⟨g.B i k, o, none⟩) xs.length c, w', by simp [convert, run_underlying hus, run_underlying hue, hmk], ?_⟩
            have hst : (s.setFz i k).stores = setOb s.stores i k (.arr true e2 ys) := by simp [St.setFz, hg]
            have hB1 : g1.B i k = g.B i k := by
              obtain ⟨fz', xs', hg3, hl3, hq3⟩ := hset.2.2.1.arr i k _ _ _ (.inl (Nat.zero_le _)) hg
              rw [hst, getOb_set] at hg3
              simp [hg] at hg3
              obtain ⟨rfl, rfl⟩ := hg3
              exact (hq3 rfl).1
            have hno : ∀ i' k' o', getOb (s.setFz i k).stores i' k' = some o' → o'.loose = true → g1.B i' k' ≠ g.B i k := by
              intro i' k' o' hh hlo heq2
              have hlt := hs.inv.lt hg rfl
              rw [hst, getOb_set] at hh
              by_cases hn : i' = i ∧ k' = k
              · rw [if_pos hn, hg] at hh
                simp at hh; subst hh
                simp [Ob.loose] at hlo
              · rw [if_neg hn] at hh
                have hB2 : g1.B i' k' = g.B i' k' := by
                  cases o' with
                  | box cs => exact (hset.2.2.1.box i' k' cs (.inl (Nat.zero_le _)) hh).2
                  | arr fz3 e3 xs3 =>
                    obtain ⟨fz', xs', hg3, hl3, hq3⟩ := hset.2.2.1.arr i' k' _ _ _ (.inl (Nat.zero_le _)) hh
                    rw [hst, getOb_set, if_neg hn, hh] at hg3
                    simp only [Option.some.injEq, Ob.arr.injEq] at hg3
                    obtain ⟨_, _, rfl⟩ := hg3
                    exact (hq3 rfl).1
                rw [hB2] at heq2
                exact hn (hs.inv.inj i' k' o' i k _ hh hg hlo rfl heq2)
            have hinv := hset.1.inv.mark (w' := w') (B0 := g.B i k) m4 m5 m6 hno
            have hsim : Sim P may (s.setFz i k) a w' g1 := by
              have := hset.1.keep (w' := w') (g' := g1) (S' := (s.setFz i k).stores) (fun _ _ h => h) (fun b o _ => m5 _) (Kp.refl _ _ _) hinv hset.1.ne
              exact this
            have hmay := (hs.inv.lt hg rfl).2.1
            refine ⟨g1, hsim.put (HRep.of_rep (hrep.mono (fun _ _ h => h) (fun b o _ => m5 _))) d, hset.2.1.trans ⟨m1, m2, m3, by omega, fun b hb => m6 b fun e => hb (e ▸ hmay), fun _ _ h => h, fun b o _ => m5 _, fun _ _ _ h => h⟩, ?_⟩
            rw [put_stores]
            exact hset.2.2.1.mono (by omega)
          · cases h
        · cases h
      · cases h
    · cases h
end
end Go.AbsM
end

section
namespace Go.AbsM
section
variable {P : Program} {w : World} {g : Gh} {may : Nat → Prop} {s s' : St} {a : Act} {o : Oper}
def OpOk (P : Program) (may : Nat → Prop) (s : St) (a : Act) (w : World) (g : Gh) (s' : St) (o : Oper) : Prop :=
  ∃ w', (∃ v, (execOp a.eval o).run P w = .ok (.value v) w' ∧ Leaves P may s w g s' (a.put o.dst v) w') ∨ ((execOp a.eval o).run P w = .ok .skip w' ∧ Leaves P may s w g s' (a.put o.dst undef) w')
theorem OpOk.value {v : Value} {w' : World} (hr : (execOp a.eval o).run P w = .ok (.value v) w') (hl : Leaves P may s w g s' (a.put o.dst v) w') : OpOk P may s a w g s' o := ⟨w', .inl ⟨v, hr, hl⟩⟩
theorem OpOk.pure (hs : Sim P may s a w g) {x : AV} {v : Value} (hr : (execOp a.eval o).run P w = .ok (.value v) w) (hx : HRep P w g s.stores x v) : OpOk P may s a w g (s.put o.dst x) o :=
  .value hr (.same (hs.put hx o.dst) (put_stores _ _ _))
theorem partsA_sound (hs : Sim P may s a w g) {ps : List (Nat × Operand)} {l : List (Nat × AV)} (h : partsA s ps = some l) : PartsRep P w g s.stores l (ps.map fun x => (x.1, a.eval x.2)) := by
  induction ps generalizing l with
  | nil => simp [partsA] at h; subst h; exact ⟨rfl, fun i x y h => by simp at h⟩
  | cons p r ih =>
    obtain ⟨i, x⟩ := p
    simp only [partsA] at h
    split at h
    · rename_i y k hy hk
      simp only [Option.some.injEq] at h; subst h
      obtain ⟨h1, h2⟩ := ih hk
      refine ⟨by simpa using h1, fun j u v hu hv => ?_⟩
      cases j with
      | zero => simp at hu hv; subst hu; subst hv; exact ⟨rfl, hs.evalO hy⟩
      | succ j => simp at hu hv; exact h2 j u v hu (by simpa using hv)
    · cases h
theorem evalOs_sound (hs : Sim P may s a w g) {ps : List Operand} {l : List AV} (h : evalOs s ps = some l) : (ps.map a.eval).length = l.length ∧ ∀ (i : Nat) (x : AV) (v : Value), l[i]? = some x → (ps.map a.eval)[i]? = some v → HRep P w g s.stores x v := by
  induction ps generalizing l with
  | nil => simp [evalOs] at h; subst h; exact ⟨rfl, fun i x y h => by simp at h⟩
  | cons p r ih =>
    simp only [evalOs] at h
    split at h
    · rename_i y k hy hk
      simp only [Option.some.injEq] at h; subst h
      obtain ⟨h1, h2⟩ := ih hk
      refine ⟨by simpa using h1, fun j u v hu hv => ?_⟩
      cases j with
      | zero => simp at hu hv; subst hu; subst hv; exact hs.evalO hy
      | succ j => simp at hu hv; exact h2 j u v hu (by simpa using hv)
    · cases h
theorem evalOs_one (hs : Sim P may s a w g) {as : Array Operand} {x : AV} (h : evalOs s as.toList = some [x]) : ∃ v, as.map a.eval = #[v] ∧ HRep P w g s.stores x v := by
  obtain ⟨h1, h2⟩ := evalOs_sound hs h
  obtain ⟨as⟩ := as
  match as, h1 with
  | [p], _ => exact ⟨a.eval p, by simp, h2 0 _ _ rfl rfl⟩
theorem evalOs_two (hs : Sim P may s a w g) {as : Array Operand} {x y : AV} (h : evalOs s as.toList = some [x, y]) : ∃ u v, as.map a.eval = #[u, v] ∧ HRep P w g s.stores x u ∧ HRep P w g s.stores y v := by
  obtain ⟨h1, h2⟩ := evalOs_sound hs h
  obtain ⟨as⟩ := as
  match as, h1 with
  | [p, q], _ => exact ⟨a.eval p, a.eval q, by simp, h2 0 _ _ rfl rfl, h2 1 _ _ rfl rfl⟩
theorem ts_cons {ts : Array TypeId} {t : TypeId} {r : List TypeId} (h : ts.toList = t :: r) : ts = (t :: r).toArray := by
  rw [← h]
theorem builtinA_sound (hs : Sim P may s a w g) (hm : ∀ b, w.heap.size ≤ b → may b) {b : Builtin} {c : Call} (hc : c.callee = .builtin b) (ho : o.op = .call c) {as : List AV} (has : evalOs s c.args.toList = some as)
    (h : builtinA P s o.dst b c.argTypes.toList as = some s') : OpOk P may s a w g s' o := by
  have hrun : (execOp a.eval o).run P w = (builtin b c.argTypes o.type (c.args.map fun | .const _ => true | _ => false) (c.args.map a.eval)).run P w := by
    simp [execOp, ho, Go.resolve, hc, invoke]
    rfl
  unfold builtinA at h
  split at h
  · split at h
    · rename_i x t r hts
      obtain ⟨n, hn, rfl⟩ : ∃ n, lenOfA P s t x = some n ∧ s.put o.dst (.int .i64 n) = s' := by
        cases hl : lenOfA P s t x with
        | none => simp [hl] at h
        | some n => exact ⟨n, rfl, by simpa [hl] using h⟩
      obtain ⟨v, hv, hx⟩ := evalOs_one hs has
      have := lenOfA_sound hs.inv hx hn r o.type
      refine OpOk.pure hs (v := .int .i64 n) ?_ (HRep.mk_int _ _)
      rw [hrun, hv, ts_cons hts]
      simp [builtin, this]
    · cases h
  · split at h
    · rename_i x y t t2 hts
      split at h
      · rename_i e he
        obtain ⟨u, v, huv, hx, hy⟩ := evalOs_two hs has
        obtain ⟨z, w', hz, hl⟩ := appendA_sound (ty := o.type) hs hm (.inl ⟨_, he⟩) hx hy h
        refine OpOk.value (v := z) (w' := w') ?_ hl
        rw [hrun, huv, ts_cons hts]
        simp [builtin, hz]
      · rename_i he
        obtain ⟨u, v, huv, hx, hy⟩ := evalOs_two hs has
        obtain ⟨z, w', hz, hl⟩ := appendA_sound (ty := o.type) hs hm (.inr he) hx hy h
        refine OpOk.value (v := z) (w' := w') ?_ hl
        rw [hrun, huv, ts_cons hts]
        simp [builtin, hz]
      · cases h
    · cases h
  · split at h
    · rename_i x y t r hts
      obtain ⟨u, v, huv, hx, hy⟩ := evalOs_two hs has
      obtain ⟨z, w', hz, hl⟩ := copyA_sound (ty := o.type) (rest := r) hs hm hx hy h
      refine OpOk.value (v := z) (w' := w') ?_ hl
      rw [hrun, huv, ts_cons hts]
      simp [builtin, hz]
    · cases h
  · split at h
    · rename_i x t r hts
      obtain ⟨v, hv, hx⟩ := evalOs_one hs has
      obtain ⟨z, w', hz, hl⟩ := clearA_sound (ty := o.type) (rest := r) hs hm hx h
      refine OpOk.value (v := z) (w' := w') ?_ hl
      rw [hrun, hv, ts_cons hts]
      simp [builtin, hz]
    · cases h
  · split at h
    · rename_i k p q
      simp only [Option.some.injEq] at h; subst h
      obtain ⟨v, hv, hx⟩ := evalOs_one hs has
      obtain ⟨rfl, _⟩ := hx.inv_x
      refine OpOk.pure hs (v := .float k p) ?_ (HRep.mk_x rfl)
      rw [hrun, hv]
      rfl
    · cases h
  · split at h
    · rename_i k p q
      simp only [Option.some.injEq] at h; subst h
      obtain ⟨v, hv, hx⟩ := evalOs_one hs has
      obtain ⟨rfl, _⟩ := hx.inv_x
      refine OpOk.pure hs (v := .float k q) ?_ (HRep.mk_x rfl)
      rw [hrun, hv]
      rfl
    · cases h
  · split at h
    · rename_i k p k' q
      split at h
      · rename_i hk
        subst hk
        simp only [Option.some.injEq] at h; subst h
        obtain ⟨u, v, huv, hx, hy⟩ := evalOs_two hs has
        obtain ⟨rfl, _⟩ := hx.inv_x
        obtain ⟨rfl, _⟩ := hy.inv_x
        refine OpOk.pure hs (v := .complex k p q) ?_ (HRep.mk_x rfl)
        rw [hrun, huv]
        have : Builtin.complex_ c.argTypes o.type #[.float k p, .float k q] = pure (.complex k p q) := by
          show (if k = k then _ else _) = _
          rw [if_pos rfl]
        simp [builtin, this]
      · cases h
    · cases h
  · split at h
    · rename_i k p k' q
      simp only [Option.some.injEq] at h; subst h
      obtain ⟨u, v, huv, hx, hy⟩ := evalOs_two hs has
      obtain ⟨rfl, _⟩ := hx.inv_x
      obtain ⟨rfl, _⟩ := hy.inv_x
      refine OpOk.pure hs (v := .int k (if q < p then q else p)) ?_ (HRep.mk_int _ _)
      rw [hrun, huv]
      simp [builtin, Builtin.min_, Builtin.min2]
    · rename_i k p k' q
      obtain ⟨r, hr, rfl⟩ := Option.map_eq_some_iff.1 h
      obtain ⟨u, v, huv, hx, hy⟩ := evalOs_two hs has
      obtain ⟨rfl, _⟩ := hx.inv_x
      obtain ⟨rfl, _⟩ := hy.inv_x
      refine OpOk.pure hs (v := .float k r) ?_ (HRep.mk_x rfl)
      rw [hrun, huv]
      unfold minF at hr
      split at hr <;> simp_all [builtin, Builtin.min_, Builtin.min2]
    · cases h
  · split at h
    · rename_i k p k' q
      simp only [Option.some.injEq] at h; subst h
      obtain ⟨u, v, huv, hx, hy⟩ := evalOs_two hs has
      obtain ⟨rfl, _⟩ := hx.inv_x
      obtain ⟨rfl, _⟩ := hy.inv_x
      refine OpOk.pure hs (v := .int k (if q > p then q else p)) ?_ (HRep.mk_int _ _)
      rw [hrun, huv]
      simp [builtin, Builtin.max_, Builtin.max2]
    · rename_i k p k' q
      obtain ⟨r, hr, rfl⟩ := Option.map_eq_some_iff.1 h
      obtain ⟨u, v, huv, hx, hy⟩ := evalOs_two hs has
      obtain ⟨rfl, _⟩ := hx.inv_x
      obtain ⟨rfl, _⟩ := hy.inv_x
      refine OpOk.pure hs (v := .float k r) ?_ (HRep.mk_x rfl)
      rw [hrun, huv]
      unfold maxF at hr
      split at hr <;> simp_all [builtin, Builtin.max_, Builtin.max2]
    · cases h
  · cases h
theorem newVar_run {t : TypeId} {v : Value} : (newVar t v).run P w = .ok ⟨w.heap.size, 0, none⟩ (w.alloc (.cells v.cells t)) := rfl
theorem nilA_sound {y : AV} {v : Value} (hr : HRep P w g s.stores y v) (h : nilA s y = true) : ∃ A, v = .pointer (some A) := by
  unfold nilA at h
  split at h
  · exact ⟨_, hr.inv_ref.2⟩
  · obtain ⟨b, o, vs, rfl, _⟩ := hr
    exact ⟨_, rfl⟩
  · split at h
    · rename_i fz e' xs hg
      obtain ⟨fz', xs', hg', _, hq⟩ := hr
      rw [hg] at hg'
      simp only [Option.some.injEq, Ob.arr.injEq] at hg'
      obtain ⟨_, _, rfl⟩ := hg'
      exact ⟨_, (hq (by simpa using h)).2⟩
    · cases h
  · cases h
theorem opA_sound (hs : Sim P may s a w g) (hm : ∀ b, w.heap.size ≤ b → may b) (h : opA P s o = some s') : OpOk P may s a w g s' o := by
  unfold opA at h
  split at h
  ·
    rename_i x ho
    obtain ⟨y, hy, rfl⟩ := Option.map_eq_some_iff.1 h
    exact .pure hs (v := a.eval x) (by simp [execOp, ho]) (hs.evalO hy)
  ·
    rename_i x ho
    obtain ⟨y, hy, rfl⟩ := Option.map_eq_some_iff.1 h
    exact .pure hs (v := a.eval x) (by simp [execOp, ho]) (hs.evalO hy)
  ·
    rename_i c x y ho
    split at h
    · rename_i t ht
      obtain ⟨hb, _⟩ := (hs.evalO ht).inv_x
      obtain ⟨z, hz, rfl⟩ := Option.map_eq_some_iff.1 h
      cases t with
      | true => exact .pure hs (v := a.eval x) (by simp [execOp, ho, hb, asBool]) (hs.evalO (by simpa using hz))
      | false => exact .pure hs (v := a.eval y) (by simp [execOp, ho, hb, asBool]) (hs.evalO (by simpa using hz))
    · cases h
  ·
    rename_i x ho
    split at h
    · rename_i y hx
      split at h
      · rename_i hnil
        simp only [Option.some.injEq] at h; subst h
        have hr := hs.evalO hx
        obtain ⟨A, he⟩ := nilA_sound hr hnil
        exact .pure hs (v := a.eval x) (by simp [execOp, ho, he]) hr
      · cases h
    · cases h
  ·
    rename_i e ho
    split at h
    · rename_i z hz
      obtain ⟨i, v, hi, hzv, hc⟩ := zeroT_some hz
      have hr : HRep P w g s.stores z v := HRep.of_rep (constAV_rep hc g.M)
      have hb := boxA_sound hs hm hr h
      refine .value (v := .pointer (some ⟨w.heap.size, 0, none⟩)) (w' := w.alloc (.cells v.cells e)) ?_ hb
      have h2 := newVar_run (P := P) (w := w) (t := e) (v := v)
      have hz2 : (zeroValue e).run P w = .ok v w := by simp [zeroValue, typeInfo, hi, hzv]
      simp [execOp, ho, Instr.alloc, hz2, h2]
    · cases h
  ·
    rename_i e x ho
    split at h
    · rename_i y hy
      have hr := hs.evalO hy
      have hb := boxA_sound hs hm hr h
      refine .value (v := .pointer (some ⟨w.heap.size, 0, none⟩)) (w' := w.alloc (.cells (a.eval x).cells e)) ?_ hb
      have h2 := newVar_run (P := P) (w := w) (t := e) (v := a.eval x)
      simp [execOp, ho, Instr.box, h2]
    · cases h
  ·
    rename_i t ps ho
    split at h
    · rename_i l hl
      have hp := partsA_sound hs hl
      obtain ⟨cs, v, rfl, hrun, hv⟩ := buildA_sound (m := ps.map fun x => (x.1, a.eval x.2)) rfl (by simpa using hp) h
      exact .pure hs (by simp [execOp, ho, hrun]) hv
    · cases h
  ·
    rename_i t len ps ho
    split at h
    · rename_i l hl
      have hp := partsA_sound hs hl
      obtain ⟨v, w', hrun, hv⟩ := buildSliceA_sound (m := ps.map fun x => (x.1, a.eval x.2)) hs hm (by simpa using hp) h
      exact .value (by simp [execOp, ho, hrun]) hv
    · cases h
  ·
    rename_i t lo co ho
    split at h
    · rename_i k1 l k2 c hl hc
      obtain ⟨e1, _⟩ := (hs.evalO hl).inv_x
      obtain ⟨e2, _⟩ := (hs.evalO hc).inv_x
      obtain ⟨v, w', hrun, hv⟩ := makeA_sound (kl := k1) (kc := k2) hs hm h
      exact .value (by simp [execOp, ho, e1, e2, hrun]) hv
    · cases h
  ·
    rename_i t x ho
    split at h
    · rename_i p hp
      obtain ⟨r, hr, rfl⟩ := Option.map_eq_some_iff.1 h
      obtain ⟨u, hrun, hu⟩ := loadA_sound hs.inv (hs.evalO hp) hr
      exact .pure hs (by simp [execOp, ho, hrun]) hu
    · cases h
  ·
    rename_i t x y ho
    split at h
    · rename_i p v hp hv
      obtain ⟨w', hrun, hl⟩ := storeA_sound hs hm (hs.evalO hp) (hs.evalO hv) h
      exact ⟨w', .inr ⟨by simp [execOp, ho, hrun], hl⟩⟩
    · cases h
  ·
    rename_i t x f ho
    split at h
    · rename_i fields p hu hp
      split at h
      · rename_i fd hf
        split at h
        · rename_i m hm'
          obtain ⟨r, hr, rfl⟩ := Option.map_eq_some_iff.1 h
          obtain ⟨u, hrun, hu⟩ := fieldAddr_sound hu hf hm' (hs.evalO hp) hr
          exact .pure hs (by simp [execOp, ho, hrun]) hu
        · cases h
      · cases h
    · cases h
  ·
    rename_i t x y ho
    split at h
    · rename_i p k i hp hi
      obtain ⟨e2, _⟩ := (hs.evalO hi).inv_x
      obtain ⟨r, hr, rfl⟩ := Option.map_eq_some_iff.1 h
      obtain ⟨u, hrun, hu⟩ := indexAddrA_sound (k := k) hs.inv (hs.evalO hp) hr
      exact .pure hs (by simp [execOp, ho, e2, hrun]) hu
    · cases h
  ·
    rename_i t x f ho
    split at h
    · rename_i fields cs hu hp
      split at h
      · rename_i fd hf
        obtain ⟨r, hr, rfl⟩ := Option.map_eq_some_iff.1 h
        obtain ⟨vs, hv, hc⟩ := (hs.evalO hp).inv_agg
        obtain ⟨u, hrun, hu'⟩ := partA_sound hc hr
        exact .pure hs (by simp [execOp, ho, Instr.field, run_underlying hu, hf, hv, asAgg, hrun]) hu'
      · cases h
    · cases h
  ·
    rename_i t x y ho
    split at h
    · rename_i p k i hp hi
      obtain ⟨e2, _⟩ := (hs.evalO hi).inv_x
      split at h
      · rename_i len e hu
        split at h
        · rename_i cs n hn
          split at h
          · rename_i hb
            obtain ⟨r, hr, rfl⟩ := Option.map_eq_some_iff.1 h
            obtain ⟨vs, hv, hc⟩ := (hs.evalO hp).inv_agg
            obtain ⟨u, hrun, hu'⟩ := partA_sound hc hr
            exact .pure hs (by simp [execOp, ho, Instr.index, asIntOf, run_underlying hu, hv, e2, hb, sizeT_run hn, hrun]) hu'
          · cases h
        · cases h
      · rename_i hu
        split at h
        · rename_i l
          split at h
          · rename_i h0
            split at h
            · rename_i b hb
              simp only [Option.some.injEq] at h; subst h
              have hv := (hs.evalO hp).inv_str
              have hb' : (⟨l.toArray⟩ : ByteArray)[i.toNat]? = some b := by
                have hlt : i.toNat < l.length := by
                  rcases Nat.lt_or_ge i.toNat l.length with h | h
                  · exact h
                  · simp [List.getElem?_eq_none h] at hb
                have hge : l[i.toNat] = b := by simpa [List.getElem?_eq_getElem hlt] using hb
                rw [getElem?_pos (⟨l.toArray⟩ : ByteArray) i.toNat (by simpa [ByteArray.size] using hlt)]
                rw [← hge]; rfl
              exact .pure hs (v := .int .u8 b.toNat) (by simp [execOp, ho, Instr.index, asIntOf, run_underlying hu, hv, e2, h0, hb']) (HRep.mk_int _ _)
            · cases h
          · cases h
        · cases h
      · cases h
    · cases h
  ·
    rename_i t x lo hi mx ho
    split at h
    · rename_i p hp
      obtain ⟨r, hr, rfl⟩ := Option.map_eq_some_iff.1 h
      obtain ⟨u, hrun, hu⟩ := sliceA_sound hs (hs.evalO hp) hr
      exact .pure hs (by simp [execOp, ho, hrun]) hu
    · cases h
  ·
    rename_i op t x y _ ho
    split at h
    · rename_i p q hp hq
      obtain ⟨r, hr, rfl⟩ := Option.map_eq_some_iff.1 h
      obtain ⟨u, h1, h2, hu⟩ := binA_sound (ox := x) (oy := y) hs.inv (hs.evalO hp) (hs.evalO hq) hr
      exact .pure hs (by simp [execOp, ho, h1, h2]) hu
    · cases h
  ·
    rename_i op t x ho
    split at h
    · rename_i p hp
      obtain ⟨r, hr, rfl⟩ := Option.map_eq_some_iff.1 h
      obtain ⟨u, h1, hu⟩ := unA_sound (hs.evalO hp) hr
      exact .pure hs (by simp [execOp, ho, h1]) hu
    · cases h
  ·
    rename_i src dst x ho
    split at h
    · rename_i p hp
      obtain ⟨z, w', hrun, hl⟩ := convertA_sound hs hm (hs.evalO hp) h
      exact .value (by simp [execOp, ho, hrun]) hl
    · cases h
  ·
    rename_i x i ho
    split at h
    · rename_i vs hx
      obtain ⟨r, hr, rfl⟩ := Option.map_eq_some_iff.1 h
      obtain ⟨us, hv, hl, hc⟩ := (hs.evalO hx).inv_tup
      have hlt : i < us.length := by
        rw [hl]
        rcases Nat.lt_or_ge i vs.length with h | h
        · exact h
        · simp [List.getElem?_eq_none h] at hr
      have h1 := hc i r us[i] hr (by simp [hlt])
      refine .pure hs (v := us[i]) (by simp [execOp, ho, Instr.extract, hv, hlt]) (HRep.of_one h1 fun l e => ?_)
      subst e; exact h1.of_tup
    · cases h
  ·
    rename_i c ho
    split at h
    · rename_i b hb
      split at h
      · rename_i as has
        exact builtinA_sound hs hm hb ho has h
      · cases h
    · cases h
  · cases h
end
end Go.AbsM
end

section
namespace Go.AbsM
section
variable {P : Program} {w w' : World} {g : Gh} {may : Nat → Prop} {s s' : St} {a : Act}
def AExit.toExit : AExit → Exit
  | .normal => .normal
  | .exit id => .exit id
  | .goto l => .goto l
  | .ret => .ret
def Goal (P : Program) (may : Nat → Prop) (s : St) (w : World) (g : Gh) (e : AExit) (s' : St) : Exit → Act → World → Prop := fun x a' w' => x = e.toExit ∧ Leaves P may s w g s' a' w'
def CodeOk (P : Program) (c : Code) (s : St) (e : AExit) (s' : St) : Prop :=
  ∀ (may : Nat → Prop) (a : Act) (w : World) (g : Gh), Sim P may s a w g → (∀ b, w.heap.size ≤ b → may b) → c.wp P (Goal P may s w g e s') a w
theorem results_run {fn : Func} {tmps : Array Value} {vs : List Value} {f : ResultVar → Sem Value} (hf : ∀ t, f (.tmp t) = pure (tmps.getD t undef)) (hf' : ∀ c t, f (.cell c t) = do loadVar t (← asAddr (tmps.getD c undef)))
    (h : (fn.results.toList.mapM f).run P w = .ok vs w) : (results fn tmps).run P w = .ok (if h : vs.toArray.size = 1 then vs.toArray[0] else .tuple vs.toArray) w := by
  have hm : (fn.results.mapM f).run P w = .ok vs.toArray w := by
    rw [Array.mapM_eq_mapM_toList]
    simp only [map_eq_pure_bind, Sem.run_bind, h, Result.andThen_ok, Sem.run_pure]
  have he : results fn tmps = (do let vs ← fn.results.mapM f; pure (if h : vs.size = 1 then vs[0] else .tuple vs)) := by
    unfold results
    congr 1
    congr 1
    funext x
    cases x with
    | tmp t => exact (hf t).symm
    | cell c t => exact (hf' c t).symm
  rw [he]
  simp only [Sem.run_bind, hm, Result.andThen_ok, Sem.run_pure]
theorem enter_sim {fn : Func} {args : List AV} {S : List Store} {vs : List Value} (hi : SInv P w g may S) (hl : vs.length = args.length)
    (hr : ∀ (i : Nat) (x : AV) (v : Value), args[i]? = some x → vs[i]? = some v → HRep P w g.push ([] :: S) x v) :
    Sim P may (enterA fn args S) { tmps := vs.toArray ++ Array.replicate (fn.ntmps - vs.toArray.size) undef, defers := [] } w g.push := by
  refine ⟨hi.push, ?_, fun t x hx => ?_, rfl, by simp [enterA]⟩
  · simp [enterA, hl]
  · simp only [enterA] at hx
    rw [List.getElem?_append] at hx
    split at hx
    · rename_i hlt
      have hv : vs[t]? = some (vs[t]'(by omega)) := List.getElem?_eq_getElem _
      have : (vs.toArray ++ Array.replicate (fn.ntmps - vs.toArray.size) undef).getD t undef = vs[t]'(by omega) := by
        rw [Array.getD_eq_getD_getElem?, Array.getElem?_append_left (by simp; omega)]
        simp [hl, hlt]
      rw [this]
      exact hr t x _ hx hv
    · rename_i hge
      rw [List.getElem?_replicate] at hx
      split at hx
      · rename_i hlt
        simp only [Option.some.injEq] at hx; subst hx
        show _ = undef
        rw [Array.getD_eq_getD_getElem?, Array.getElem?_append_right (by simp; omega)]
        simp only [List.size_toArray]
        rw [Array.getElem?_replicate, if_pos (by omega)]
        rfl
      · cases hx
theorem body_sound {f : FuncId} {fn : Func} {c : Code} {args : List AV} {S S' : List Store} {r : AV} {e : AExit} {s1 s2 : St} {l l1 ys : List AV} {t : Store} (hf : P.funcs[f]? = some fn) (hb : fn.body = some c) (hc : CodeOk P c (enterA fn args S) e s1)
    (he : e = .ret ∨ e = .normal) (hl : resultAll P s1 fn.results.toList = some l) (hse : settle s1 l = some (s2, l1)) (ho : outAll s2 [] l1 = some ys) (hst : s2.stores = t :: S') (hr : r = oneOf ys) : CallC P f args S S' r := by
  intro may w g vs hi hm hlen hargs
  refine calls_of_wp hf hb (wp_mono (hc may _ w _ (enter_sim hi hlen hargs) hm) fun x a' w' ⟨hx, g1, h1, h2, h3⟩ => ?_)
  have fin : a'.defers = [] ∧ ∃ v, (results fn a'.tmps).run P w' = .ok v w' ∧ (∃ v' g', Ending.returned v = Ending.returned v' ∧ Fr may w g.M w' g'.M ∧ SInv P w' g' may S' ∧ Kp 0 S g S' g' ∧ ResRep P may w' g' S' r v') := by
    refine ⟨h1.defers, ?_⟩
    obtain ⟨us, hrun, hus⟩ := resultAll_sound (f := (fun | .tmp t => pure (a'.tmps.getD t undef) | .cell c t => do loadVar t (← asAddr (a'.tmps.getD c undef)) : ResultVar → Sem Value)) h1 (fun _ => rfl) (fun _ _ => rfl) hl
    obtain ⟨g2, k1, hus1⟩ := settle_sound h1 hus hse
    obtain ⟨hul, ks, o1, o2, o3⟩ := outAll_sound hst k1.1.inv hus1 ho
    refine ⟨_, results_run (fun _ => rfl) (fun _ _ => rfl) hrun, _, g2.pop, rfl, h2.trans k1.2.1, ?_, ?_, ?_⟩
    · have := k1.1.inv; rw [hst] at this; exact this.pop
    · have := h3.trans (k1.2.2.1.mono (by omega)); rw [hst] at this; exact this.pop
    · subst hr
      have all : OReps P may w' g2.pop S' ys us := ⟨hul, fun i => g2.B 0 (ks i), o1, fun i j e xs e' xs' hi' hj' heq => by
        obtain ⟨_, o, ho1, ho2⟩ := o2 i _ _ hi'
        obtain ⟨_, p, hp1, hp2⟩ := o2 j _ _ hj'
        exact o3 i j _ _ _ _ hi' hj' (k1.1.inv.inj 0 (ks i) o 0 (ks j) p ho1 hp1 ho2 hp2 heq).2⟩
      match ys, us, hul, all with
      | [], [], _, all => exact ⟨[], rfl, all⟩
      | [y], [u], _, all =>
        obtain ⟨_, bl, q1, _⟩ := all
        have := q1 0 y u rfl rfl
        show ResRep P may w' g2.pop S' y u
        unfold ResRep
        split
        · exact this.elim
        · exact ⟨_, this⟩
      | y :: y' :: ys, u :: u' :: us, _, all => exact ⟨_, rfl, all⟩
  rcases he with rfl | rfl
  · subst hx; exact fin
  · subst hx; exact fin
theorem Sim.grow (hs : Sim P may s a w g) (hm : ∀ b, w.heap.size ≤ b → may b) (hx : Ext w w') {M' : Nat → Nat → Prop} (hM : ∀ b o, g.M b o → M' b o) (hMn : ∀ b o, M' b o → ¬ g.M b o → w.heap.size ≤ b ∧ b < w'.heap.size) :
    Sim P may s a w' { g with M := M' } ∧ Fr may w g.M w' M' ∧ Kp 0 s.stores g s.stores { g with M := M' } := by
  have hcell : ∀ b o, g.M b o → w'.cell? ⟨b, o, none⟩ = w.cell? ⟨b, o, none⟩ := fun b o h => hx.cell (hs.inv.mlt b o h) o
  let g' : Gh := { g with M := M' }
  have hkp : Kp 0 s.stores g s.stores g' := ⟨fun i k cs _ h => ⟨⟨cs, h⟩, rfl⟩, fun i k fz e xs _ h => ⟨fz, xs, h, Nat.le_refl _, fun _ => ⟨rfl, fun hf => ⟨hf, rfl⟩⟩⟩⟩
  have hnew : ∀ b o, b < w.heap.size → M' b o → g.M b o := fun b o hb h => Classical.byContradiction fun hn => by have := (hMn b o h hn).1; omega
  have hinv : SInv P w' g' may s.stores := by
    refine ⟨fun i k cs h => ?_, fun i k e xs h => ?_, fun i k e xs h => ?_, fun i k o i' k' o' h h' => hs.inv.inj i k o i' k' o' h h', fun b o h => ?_⟩
    · obtain ⟨h1, h2, vs, t, h3, h4, h5⟩ := hs.inv.box i k cs h
      exact ⟨h1, fun o ho => h2 o (hnew _ o (lt_of_heap h3) ho), vs, t, by rw [hx.heap _ (lt_of_heap h3)]; exact h3, h4, fun j c u hc hu => ⟨CRep.keep (g := g) (g' := g') (S := s.stores) hM hcell hkp (AV.from_zero _) (h5 j c u hc hu).1, (h5 j c u hc hu).2⟩⟩
    · obtain ⟨h1, h2, he, cur, us, cap, h3, h4, h5, h6, h7, h8, h9⟩ := hs.inv.arr i k e xs h
      exact ⟨h1, fun o ho => h2 o (hnew _ o (lt_of_heap h3) ho), he, cur, us, cap, by rw [hx.heap _ (lt_of_heap h3)]; exact h3, h4, h5, h6, h7, h8.mono hM hcell, h9⟩
    · obtain ⟨he, us, hr, hc⟩ := hs.inv.fz i k e xs h
      exact ⟨he, us, hr.mono hM hcell, fun m cv hm => ⟨(hcell _ _ (hc m cv hm).2).trans (hc m cv hm).1, hM _ _ (hc m cv hm).2⟩⟩
    · by_cases hg : g.M b o
      · exact Nat.lt_of_lt_of_le (hs.inv.mlt b o hg) hx.size
      · exact (hMn b o h hg).2
  exact ⟨hs.keep hM hcell hkp hinv hs.ne, ⟨hx.os, hx.tape, hx.output, hx.size, fun b hb => hx.heap b (Nat.lt_of_not_le fun hh => hb (hm b hh)), hM, hcell, fun b o hb h => hnew b o (Nat.lt_of_not_le fun hh => hb (hm b hh)) h⟩, hkp⟩
theorem Rep.flat0 {M M2 : Nat → Nat → Prop} {x : AV} {v : Value} (h : Rep P w M x v) (hx : x.flat0 = true) : Rep P w M2 x v := by
  cases h with
  | x h => exact .x h
  | str => exact .str
  | nils => exact .nils
  | cap0 => exact .cap0
  | sl => simp [AV.flat0] at hx
  | agg => simp [AV.flat0] at hx
theorem Rep.flat1 {M M2 : Nat → Nat → Prop} {x : AV} {v : Value} (h : Rep P w M x v) (hx : x.flat1 = true) : Rep P w M2 x v := by
  cases h with
  | agg hl hr hv => exact .agg hl (fun i c u hc hu => (hr i c u hc hu).flat0 (List.all_eq_true.1 hx c (List.mem_of_getElem? hc))) hv
  | x h => exact .x h
  | str => exact .str
  | nils => exact .nils
  | cap0 => exact .cap0
  | sl => simp [AV.flat1, AV.flat0] at hx
theorem RepL.flat1 {M M2 : Nat → Nat → Prop} {e : TypeId} {xs : List AV} {us : List Value} (h : RepL P w M e xs us) (hx : xs.all AV.flat1 = true) : RepL P w M2 e xs us :=
  ⟨h.1, fun i x u hc hu => (h.2.1 i x u hc hu).flat1 (List.all_eq_true.1 hx x (List.mem_of_getElem? hc)), h.2.2⟩
theorem HRep1.shut {S : List Store} {x : AV} {v : Value} (h : HRep1 P w g S x v) (hx : x.shut1 = true) (hno : ∀ e xs, x ≠ .own e xs) : Rep P w g.M x v := by
  cases x with
  | agg cs =>
    obtain ⟨vs, rfl, hl, hr⟩ := h
    have hv : ∀ c, c ∈ cs → c.isVal = true := fun c hc => List.all_eq_true.1 hx c hc
    exact .agg hl (fun i c u hc hu => (hr i c u hc hu).1.rep (hv c (List.mem_of_getElem? hc))) hv
  | own e xs => exact absurd rfl (hno e xs)
  | tup => exact h.elim
  | _ =>
    unfold HRep1 at h
    exact CRep.rep h hx
theorem HRep1.of_rep {S : List Store} {x : AV} {v : Value} (h : Rep P w g.M x v) : HRep1 P w g S x v := by
  have := HRep.of_rep (g := g) (S := S) h
  cases h <;> exact this
theorem ORep.shut {may0 : Nat → Prop} {g0 : Gh} {S0 : List Store} {g2 : Gh} {S2 : List Store} {x : AV} {v : Value} {b : Nat} (h : ORep P may0 w g0 S0 x v b) (hx : x.shut1 = true) (hM : x.flat2 = true ∨ ∀ b o, g0.M b o → g2.M b o)
    (hb : ∀ b, may0 b → (∀ o, ¬ g0.M b o) → may b ∧ (∀ o, ¬ g2.M b o) ∧ ∀ i k o, getOb S2 i k = some o → o.loose = true → g2.B i k ≠ b) : ORep P may w g2 S2 x v b := by
  by_cases ho : ∃ e xs, x = .own e xs
  · obtain ⟨e, xs, rfl⟩ := ho
    obtain ⟨h1, h2, h3, h4⟩ := h
    obtain ⟨k1, k2, k3⟩ := hb b h1 h2
    refine ⟨k1, k2, k3, ?_⟩
    rcases h4 with ⟨hbx, he, cur, us, cap, c, q1, q2, q3, q4, q5, q6, q7, q8, q9, q10⟩ | ⟨hbx, cs, rfl, q1, q2, vs, t, q3, q4, q5⟩
    · refine .inl ⟨hbx, he, cur, us, cap, c, q1, q2, q3, q4, q5, q6, q7, q8, ?_, q10⟩
      rcases hM with hM | hM
      · exact q9.flat1 hM
      · exact q9.mono hM (fun _ _ _ => rfl)
    · refine .inr ⟨hbx, cs, rfl, q1, q2, vs, t, q3, q4, fun j c u hc hu => ⟨?_, (q5 j c u hc hu).2⟩⟩
      rcases hM with hM | hM
      · have hM1 : cs.all AV.flat0 = true := by simpa [AV.flat2, AV.flat1] using hM
        exact (q5 j c u hc hu).1.flat0 (List.all_eq_true.1 hM1 c (List.mem_of_getElem? hc))
      · exact (q5 j c u hc hu).1.mono hM (fun _ _ _ => rfl)
  · have h' : HRep1 P w g0 S0 x v := by cases x <;> first | exact h | exact absurd ⟨_, _, rfl⟩ ho
    have hr := h'.shut hx fun e xs he => ho ⟨e, xs, he⟩
    have : Rep P w g2.M x v := by
      rcases hM with hM | hM
      · exact hr.flat1 (by cases x <;> first | exact hM | exact absurd ⟨_, _, rfl⟩ ho)
      · exact hr.mono hM (fun _ _ _ => rfl)
    have h2 := HRep1.of_rep (S := S2) this
    cases x <;> first | exact h2 | exact absurd ⟨_, _, rfl⟩ ho
theorem ResRep.shut {may0 : Nat → Prop} {g0 : Gh} {S0 : List Store} {g2 : Gh} {S2 : List Store} {r : AV} {v : Value} (h : ResRep P may0 w g0 S0 r v) (hx : r.shut = true) (hM : r.hasSl = false ∨ ∀ b o, g0.M b o → g2.M b o)
    (hb : ∀ b, may0 b → (∀ o, ¬ g0.M b o) → may b ∧ (∀ o, ¬ g2.M b o) ∧ ∀ i k o, getOb S2 i k = some o → o.loose = true → g2.B i k ≠ b) : ResRep P may w g2 S2 r v := by
  by_cases ht : ∃ as, r = .tup as
  · obtain ⟨as, rfl⟩ := ht
    obtain ⟨vs, rfl, hl, bl, h1, h2⟩ := h
    refine ⟨vs, rfl, hl, bl, fun i c u hc hu => (h1 i c u hc hu).shut (List.all_eq_true.1 hx c (List.mem_of_getElem? hc)) ?_ hb, h2⟩
    rcases hM with hM | hM
    · refine .inl ?_
      simp only [AV.hasSl, Bool.not_eq_false'] at hM
      exact List.all_eq_true.1 hM c (List.mem_of_getElem? hc)
    · exact .inr hM
  · obtain ⟨b, ho⟩ : ∃ b, ORep P may0 w g0 S0 r v b := by cases r <;> first | exact h | exact absurd ⟨_, rfl⟩ ht
    have := ho.shut (g2 := g2) (S2 := S2) (may := may) (by cases r <;> first | exact hx | exact absurd ⟨_, rfl⟩ ht) (by
      rcases hM with hM | hM
      · refine .inl ?_
        cases r <;> first | exact absurd ⟨_, rfl⟩ ht | (simp only [AV.hasSl, Bool.not_eq_false'] at hM; exact hM)
      · exact .inr hM) hb
    cases r <;> first | exact ⟨b, this⟩ | exact absurd ⟨_, rfl⟩ ht
end
end Go.AbsM
end

section
namespace Go.AbsM
section
variable {P : Program} {w w' : World} {g : Gh} {may : Nat → Prop} {s s' : St} {a : Act}
theorem HRep.shift1 {t : Store} {S : List Store} {x : AV} {v : Value} (h : HRep P w g S x v) (hx : ∀ l, x ≠ .agg l) (hx' : ∀ l, x ≠ .tup l) : HRep P w g.push (t :: S) (x.shift 1) v := by
  cases x <;> first | exact h | exact absurd rfl (hx _) | exact absurd rfl (hx' _)
theorem Rep.hrep_any {g' : Gh} {S : List Store} {x : AV} {v : Value} (h : Rep P w g.M x v) (hM : g'.M = g.M) : HRep P w g' S x v := HRep.of_rep (by rw [hM]; exact h)
def LRep (P : Program) (w : World) (g : Gh) (S : List Store) (y : AV) (v : Value) : Prop := (∃ x, y = x.shift 1 ∧ (∀ l, x ≠ .agg l) ∧ (∀ l, x ≠ .tup l) ∧ HRep P w g S x v) ∨ Rep P w g.M y v
theorem LRep.hrep {S : List Store} {y : AV} {v : Value} (h : LRep P w g S y v) : HRep P w g.push ([] :: S) y v := by
  rcases h with ⟨x, rfl, h1, h2, h3⟩ | h
  · exact h3.shift1 h1 h2
  · exact h.hrep_any rfl
theorem LRep.settles {s' : St} {g' : Gh} (h : Settles P may s a w g s' g') {y : AV} {v : Value} (k : LRep P w g s.stores y v) : LRep P w g' s'.stores y v := by
  rcases k with ⟨x, rfl, h1, h2, h3⟩ | k
  · exact .inl ⟨x, rfl, h1, h2, h.hrep (S := []) h3⟩
  · exact .inr (h.rep k)
theorem lendAll_sound (hs : Sim P may s a w g) {xs ys : List AV} {vs : List Value} (hv : HReps P w g s.stores xs vs) (h : lendAll s xs = some (s', ys)) :
    ∃ g', Settles P may s a w g s' g' ∧ vs.length = ys.length ∧ ∀ (i : Nat) (c : AV) (u : Value), ys[i]? = some c → vs[i]? = some u → LRep P w g' s'.stores c u := by
  induction xs generalizing s' ys vs with
  | nil =>
    simp only [lendAll, Option.some.injEq, Prod.mk.injEq] at h
    obtain ⟨rfl, rfl⟩ := h
    exact ⟨g, .refl hs, hv.1, fun i c u hc => by simp at hc⟩
  | cons x r ih =>
    simp only [lendAll] at h
    split at h
    · cases h
    · rename_i s1 l hl
      obtain ⟨v, us, rfl, hx, hr⟩ := hv.split
      obtain ⟨g1, h1, h2, h3⟩ := ih hr hl
      have fin : ∀ {s2 : St} {y : AV} {g2 : Gh}, Settles P may s1 a w g1 s2 g2 → LRep P w g2 s2.stores y v →
          ∃ g', Settles P may s a w g s2 g' ∧ (v :: us).length = (y :: l).length ∧ ∀ (i : Nat) (c : AV) (u : Value), (y :: l)[i]? = some c → (v :: us)[i]? = some u → LRep P w g' s2.stores c u := by
        intro s2 y g2 k hy
        refine ⟨g2, h1.trans k, by simp [h2], fun i c u hc hu => ?_⟩
        cases i with
        | zero => simp at hc hu; subst hc; subst hu; exact hy
        | succ i => simp at hc hu; exact (h3 i c u hc hu).settles k
      split at h
      · simp only [Option.some.injEq, Prod.mk.injEq] at h
        obtain ⟨rfl, rfl⟩ := h
        exact fin (.refl h1.1) (.inl ⟨.arr _ _ _ _ _ _, rfl, fun l => by simp, fun l => by simp, h1.hrep (S := []) hx⟩)
      · simp only [Option.some.injEq, Prod.mk.injEq] at h
        obtain ⟨rfl, rfl⟩ := h
        exact fin (.refl h1.1) (.inl ⟨.ref _ _ _, rfl, fun l => by simp, fun l => by simp, h1.hrep (S := []) hx⟩)
      · split at h
        · rename_i s2 b hb
          simp only [Option.some.injEq, Prod.mk.injEq] at h
          obtain ⟨rfl, rfl⟩ := h
          obtain ⟨g2, k1, k2⟩ := resolve_sound h1.1 (h1.hrep (S := []) hx) hb
          exact fin k1 (.inr k2)
        · cases h
theorem shut_call {f : FuncId} {as : List AV} {S' : List Store} {r : AV} {s1 : St} {args : List AV} {vs : List Value} {d : Option Nat} (hs : Sim P may s a w g) (hm : ∀ b, w.heap.size ≤ b → may b) (hv : HReps P w g s.stores args vs)
    (hra : resolveAll s args = some (s1, as)) (hc : CallC P f as [] S' r) (hsh : r.shut = true) :
    Calls P f vs.toArray w fun e w' => ∃ v, e = .returned v ∧ Leaves P may s w g (bindA (if r.hasSl then s1 else s) d r) (a.put d v) w' := by
  obtain ⟨g1, k1, k2, k3⟩ := resolveAll_sound hs hv.1 hv.2 hra
  let g0 : Gh := { M := g1.M, B := fun _ _ => 0, C := fun _ _ => 0 }
  have hi0 : SInv P w g0 (fun b => w.heap.size ≤ b) [] := ⟨(fun i k cs h => by cases h), (fun i k e xs h => by cases h), (fun i k e xs h => by cases h), (fun i k o i' k' o' h => by cases h), k1.1.inv.mlt⟩
  refine (hc _ w g0 vs hi0 (fun b h => h) k2 fun i x v hx hv' => ?_).mono fun e w' ⟨v, g', he, hF, hI, _, hR⟩ => ⟨v, he, ?_⟩
  · exact (k3 i x v hx hv').hrep_any rfl
  · have hx : Ext w w' := ⟨hF.os, hF.tape, hF.output, hF.size, fun b hb => hF.heap b (by omega)⟩
    by_cases hsl : r.hasSl = true
    · rw [if_pos hsl]
      obtain ⟨q1, q2, q3⟩ := k1.1.grow hm hx (M' := g'.M) hF.sub (fun b o h hn => by
        refine ⟨Classical.byContradiction fun hb => hn (hF.new b o hb h), hI.mlt b o h⟩)
      have hR' : ResRep P may w' { g1 with M := g'.M } s1.stores r v := hR.shut hsh (.inr fun b o h => h) fun b hb hno => ⟨hm b hb, hno, fun i k o hg hl he => by
        have := (k1.1.inv.lt hg hl).1
        simp only at he hb
        omega⟩
      obtain ⟨g2, p1, p2, p3⟩ := bindA_sound q1 hR' d
      exact ⟨g2, p1, (k1.2.1.trans q2).trans p2, ((k1.2.2.1.trans q3).mono (by omega)).trans p3⟩
    · have hsl : r.hasSl = false := by simpa using hsl
      rw [if_neg (by simp [hsl])]
      obtain ⟨q1, q2, q3⟩ := hs.grow hm hx (M' := fun b o => g.M b o ∨ (w.heap.size ≤ b ∧ g'.M b o)) (fun b o h => .inl h) (fun b o h hn => by
        rcases h with h | ⟨h, h'⟩
        · exact absurd h hn
        · exact ⟨h, hI.mlt b o h'⟩)
      have hR' : ResRep P may w' { g with M := fun b o => g.M b o ∨ (w.heap.size ≤ b ∧ g'.M b o) } s.stores r v := hR.shut hsh (.inl hsl) fun b hb hno => by
        refine ⟨hm b hb, fun o h => ?_, fun i k o hg hl he => ?_⟩
        · rcases h with h | ⟨_, h⟩
          · have := hs.inv.mlt b o h; omega
          · exact hno o h
        · have := (hs.inv.lt hg hl).1
          simp only at he hb
          omega
      obtain ⟨g2, p1, p2, p3⟩ := bindA_sound q1 hR' d
      exact ⟨g2, p1, q2.trans p2, (q3.mono (by omega)).trans p3⟩
theorem open_call {f : FuncId} {as : List AV} {S' : List Store} {t : Store} {r : AV} {s1 : St} {args : List AV} {vs : List Value} {d : Option Nat} (hs : Sim P may s a w g) (hm : ∀ b, w.heap.size ≤ b → may b) (hv : HReps P w g s.stores args vs)
    (hra : lendAll s args = some (s1, as)) (hc : CallC P f as s1.stores (t :: S') r) :
    Calls P f vs.toArray w fun e w' => ∃ v, e = .returned v ∧ Leaves P may s w g (bindA { s1 with stores := t :: S' } d r) (a.put d v) w' := by
  obtain ⟨g1, k1, k2, k3⟩ := lendAll_sound hs hv hra
  refine (hc may w g1 vs k1.1.inv hm k2 fun i x v hx hv' => (k3 i x v hx hv').hrep).mono fun e w' ⟨v, g', he, hF, hI, hK, hR⟩ => ⟨v, he, ?_⟩
  have q1 : Sim P may { s1 with stores := t :: S' } a w' g' := k1.1.keep hF.sub hF.cell hK hI (by simp)
  obtain ⟨g2, p1, p2, p3⟩ := bindA_sound q1 hR d
  exact ⟨g2, p1, (k1.2.1.trans hF).trans p2, ((k1.2.2.1.trans hK).mono (by omega)).trans p3⟩
end
end Go.AbsM
end

section
namespace Go.AbsM
section
variable {P : Program} {w w' : World} {g : Gh} {may : Nat → Prop} {s s' : St} {a : Act}
theorem Leaves.trans {s0 s1 s2 : St} {w0 w1 w2 : World} {g0 : Gh} {a1 a2 : Act} (h : Leaves P may s0 w0 g0 s1 a1 w1) (k : ∀ g1, Sim P may s1 a1 w1 g1 → Leaves P may s1 w1 g1 s2 a2 w2) : Leaves P may s0 w0 g0 s2 a2 w2 := by
  obtain ⟨g1, h1, h2, h3⟩ := h
  obtain ⟨g2, k1, k2, k3⟩ := k g1 h1
  exact ⟨g2, k1, h2.trans k2, h3.trans k3⟩
def OpWp (P : Program) (o : Oper) (s s' : St) : Prop :=
  ∀ (may : Nat → Prop) (a : Act) (w : World) (g : Gh), Sim P may s a w g → (∀ b, w.heap.size ≤ b → may b) → ∀ (next : Act → World → Prop) (Q : Exit → Act → World → Prop), (∀ a' w', Leaves P may s w g s' a' w' → next a' w') → o.wp P a w next Q
theorem opA_wp {o : Oper} (h : opA P s o = some s') : OpWp P o s s' := by
  intro may a w g hs hm next Q hn
  obtain ⟨w', h1 | h1⟩ := opA_sound hs hm h
  · obtain ⟨v, h1, h2⟩ := h1
    unfold Oper.wp; rw [h1]; exact hn _ _ h2
  · obtain ⟨h1, h2⟩ := h1
    unfold Oper.wp; rw [h1]; exact hn _ _ h2
theorem guardA_sound (hs : Sim P may s a w g) {ops : Array Oper} {o : Oper} {b : Bool} (h : guardA ops s o.guard = some b) : Region.wanted o (yielded ops a.tmps) = b := by
  unfold Region.wanted
  cases hg : o.guard with
  | none => rw [hg] at h; simp [guardA] at h; exact h.symm
  | some p =>
    obtain ⟨j, want⟩ := p
    rw [hg] at h
    simp only [guardA] at h
    split at h
    · rename_i t ht
      have hv := hs.get t
      have hy : yielded ops a.tmps j = match a.tmps[t]? with | some (.bool b) => some b | _ => none := by
        unfold yielded
        rw [ht]
        rfl
      split at h
      · rename_i c hc
        simp only [Option.some.injEq] at h
        rw [hc] at hv
        have := hv.inv_x.1
        have hsz : a.tmps[t]? = some (.bool c) := by
          rw [Array.getD_eq_getD_getElem?] at this
          cases hq : a.tmps[t]? with
          | none => rw [hq] at this; simp [undef] at this
          | some u => rw [hq] at this; simp at this; rw [this]
        simp only [hy, hsz, ← h]
        cases c <;> cases want <;> rfl
      · rename_i hc
        simp only [Option.some.injEq] at h
        rw [hc] at hv
        have hu : a.tmps.getD t undef = undef := hv
        have hn : yielded ops a.tmps j = none := by
          rw [hy]
          rw [Array.getD_eq_getD_getElem?] at hu
          cases hq : a.tmps[t]? with
          | none => rfl
          | some u => rw [hq] at hu; simp at hu; rw [hu]; rfl
        simp only [hn, ← h]
        cases want <;> rfl
      · cases h
    · cases h
theorem opsA_wp {st : Oper → St → Option St} (hst : ∀ (o : Oper) (s s' : St), st o s = some s' → OpWp P o s s') {ops : Array Oper} {Q : Exit → Act → World → Prop} {s0 s1 : St} {w0 : World} {g0 : Gh} (hm : ∀ b, w0.heap.size ≤ b → may b)
    (hQ : ∀ a' w', Leaves P may s0 w0 g0 s1 a' w' → Q .normal a' w') : ∀ (l : List Nat) (s : St) (a : Act) (w : World), opsA st ops l s = some s1 → Leaves P may s0 w0 g0 s a w → wpOps P ops Q l a w := by
  intro l
  induction l with
  | nil =>
    intro s a w h hl
    simp only [opsA, Option.some.injEq] at h; subst h
    exact hQ _ _ hl
  | cons i r ih =>
    intro s a w h hl
    simp only [opsA] at h
    simp only [wpOps]
    obtain ⟨g1, hs, hF, hK⟩ := hl
    have hl : Leaves P may s0 w0 g0 s a w := ⟨g1, hs, hF, hK⟩
    split at h
    · rename_i hi
      simp only [hi]
      exact ih s a w h hl
    · rename_i o hi
      simp only [hi]
      split at h
      · rename_i hg
        have hw := guardA_sound hs hg
        split at h
        · rename_i s2 h2
          rw [if_pos hw]
          refine .inl (hst o s s2 h2 may a w g1 hs (fun b hb => hm b (Nat.le_trans hF.size hb)) _ _ fun a' w' h' => ih s2 a' w' h ?_)
          obtain ⟨g2, k1, k2, k3⟩ := h'
          exact ⟨g2, k1, hF.trans k2, hK.trans k3⟩
        · cases h
      · rename_i hg
        have hw := guardA_sound hs hg
        rw [if_neg (by simp [hw])]
        refine ih _ _ w h ⟨g1, hs.put (x := .und) rfl o.dst, hF, ?_⟩
        rw [put_stores]; exact hK
      · cases h
structure EnvOk (P : Program) (E : Env) : Prop where
  fn : ∀ f fn, E.Φ f = some fn → P.funcs[f]? = some fn ∧ (fn.name == "runtime.NumGoroutine") = false
  ga : ∀ f args r, E.Γ f args = some r → (∃ fn c, P.funcs[f]? = some fn ∧ fn.body = some c ∧ (fn.name == "runtime.NumGoroutine") = false) ∧ ∀ S, CallC P f args S S r
  de : ∀ f args S S' r, E.Δ f args S = some (S', r) → (∃ fn c, P.funcs[f]? = some fn ∧ fn.body = some c ∧ (fn.name == "runtime.NumGoroutine") = false) ∧ CallC P f args S S' r
  wide : P.follows .mixedOrders = true
  draw : ∀ ops, E.ok ops = true → ∀ (rec : Rec) (s s1 : St) (t : Nat), opsA (fun o s => drawOp P E rec s o) ops (List.range ops.size) s = some s1 → opsA (fun o s => drawOp P E rec s o) ops (Region.schedule true ops t) s = some s1
  draw2 : ∀ ops, E.ok2 ops = true → ∀ (rec : Rec) (s s1 : St) (t : Nat), runL (ab2 (fun o s => drawIn P E rec s o) (newNames ops) ops) (List.range ops.size) s = some s1 → opsA (fun o s => drawIn P E rec s o) ops (Region.schedule true ops t) s = some s1
def Goes (P : Program) (t : Task) (Q : Exit → Act → World → Prop) (a : Act) (w : World) : Prop :=
  match t with
  | .code (.loop c) => ∀ (b : Frame) (k : List Item) (cs : List Frame), ∃ e a' w', Q e a' w' ∧ Arrives P (lone (b.at a (.code c :: .inLoop c :: k)) cs w) b k cs e a' w'
  | .code c => c.wp P Q a w
  | .within c rest => ∀ (b : Frame) (k : List Item) (cs : List Frame), ∃ e a' w', Q e a' w' ∧ Arrives P (lone (b.at a (.code rest :: .inScope c :: k)) cs w) b k cs e a' w'
def RecOk (P : Program) (rec : Rec) : Prop :=
  ∀ (t : Task) (s : St) (e : AExit) (s' : St), rec t s = some (e, s') → ∀ (may : Nat → Prop) (a : Act) (w : World) (g : Gh), Sim P may s a w g → (∀ b, w.heap.size ≤ b → may b) → Goes P t (Goal P may s w g e s') a w
theorem Goes.code {c : Code} {Q : Exit → Act → World → Prop} (h : Goes P (.code c) Q a w) : c.wp P Q a w := by
  cases c with
  | loop c =>
    intro b k cs
    obtain ⟨e, a', w', hq, harr⟩ := h b k cs
    exact ⟨e, a', w', hq, .of_steps (.one step_loop) harr⟩
  | _ => exact h
theorem RecOk.code {rec : Rec} (h : RecOk P rec) {c : Code} {e : AExit} (hr : rec (.code c) s = some (e, s')) : CodeOk P c s e s' := fun may a w g hs hm => (h _ _ _ _ hr may a w g hs hm).code
variable {E : Env}
theorem callA_sound (hE : EnvOk P E) {rec : Rec} (hrec : RecOk P rec) {f : FuncId} {args : List AV} {S S' : List Store} {r : AV} (h : callA P E rec f args S = some (S', r)) :
    (∃ fn c, P.funcs[f]? = some fn ∧ fn.body = some c ∧ (fn.name == "runtime.NumGoroutine") = false) ∧ CallC P f args S S' r := by
  unfold callA at h
  split at h
  · rename_i q hq
    simp only [Option.some.injEq, Prod.mk.injEq] at h
    obtain ⟨rfl, rfl⟩ := h
    obtain ⟨h1, h2⟩ := hE.ga _ _ _ hq
    exact ⟨h1, h2 S⟩
  · split at h
    · rename_i q hq
      simp only [Option.some.injEq] at h; subst h
      exact hE.de _ _ _ _ _ hq
    · split at h
      case h_2 => cases h
      rename_i fn hfn
      obtain ⟨hf, hname⟩ := hE.fn _ _ hfn
      split at h
      · rename_i c hc
        split at h
        · rename_i e s hb
          split at h
          · rename_i he
            split at h
            · rename_i l hl
              split at h
              · rename_i s1 l1 hse
                split at h
                · rename_i vs ho
                  split at h
                  · cases h
                  · rename_i t R hst
                    simp only [Option.some.injEq, Prod.mk.injEq] at h
                    obtain ⟨rfl, rfl⟩ := h
                    exact ⟨⟨fn, c, hf, hc, hname⟩, body_sound hf hc (hrec.code hb) he hl hse ho hst rfl⟩
                · cases h
              · cases h
            · cases h
          · cases h
        · cases h
      · cases h
theorem call_run {o : Oper} {c : Call} {f : FuncId} (ho : o.op = .call c) (hc : ∃ x, c.callee = .value x ∧ a.eval x = .func (.func f) #[] #[]) (hf : ∃ fn c, P.funcs[f]? = some fn ∧ fn.body = some c ∧ (fn.name == "runtime.NumGoroutine") = false) :
    (execOp a.eval o).run P w = .ok (.enter f (c.args.map a.eval)) w := by
  obtain ⟨fn, cd, h1, h2, h3⟩ := hf
  have hp : (callFunc f (c.args.map a.eval)).run P w = .ok (.enter f (c.args.map a.eval)) w := by
    simp only [callFunc, Sem.run_bind, run_program, Result.andThen_ok, h1, h3, h2]
    rfl
  obtain ⟨x, hc, hx⟩ := hc
  simp [execOp, ho, Go.resolve, hc, hx, Deferred.ofValue, invoke, hp]
theorem call_wp {o : Oper} {c : Call} {f : FuncId} (ho : o.op = .call c) (hc : ∃ x, c.callee = .value x ∧ a.eval x = .func (.func f) #[] #[]) (hf : ∃ fn c, P.funcs[f]? = some fn ∧ fn.body = some c ∧ (fn.name == "runtime.NumGoroutine") = false)
    {next : Act → World → Prop} {Q : Exit → Act → World → Prop} (h : Calls P f (c.args.map a.eval) w fun e w' => ∃ v, e = .returned v ∧ next (a.put o.dst v) w') : o.wp P a w next Q := by
  unfold Oper.wp
  rw [call_run ho hc hf]
  exact Calls.mono h fun e w' ⟨v, he, hn⟩ => by subst he; exact hn
theorem evalOs_reps (hs : Sim P may s a w g) {ps : Array Operand} {l : List AV} (h : evalOs s ps.toList = some l) : ∃ vs : List Value, ps.map a.eval = vs.toArray ∧ HReps P w g s.stores l vs := by
  obtain ⟨h1, h2⟩ := evalOs_sound hs h
  exact ⟨ps.toList.map a.eval, by rw [← Array.toList_map], h1, h2⟩
theorem calleeA_sound (hs : Sim P may s a w g) {c : Callee} {f : FuncId} (h : calleeA s c = some f) : ∃ x, c = .value x ∧ a.eval x = .func (.func f) #[] #[] := by
  unfold calleeA at h
  split at h
  · simp only [Option.some.injEq] at h; subst h
    exact ⟨_, rfl, rfl⟩
  · rename_i t
    refine ⟨_, rfl, ?_⟩
    have hg := hs.get t
    unfold funcOf at h
    split at h
    · rename_i f' x y he
      simp only [Option.some.injEq] at h; subst h
      rw [he] at hg
      obtain ⟨h1, h2⟩ := HRep.inv_x hg
      simp only [plain, Bool.and_eq_true, Array.isEmpty_iff] at h2
      obtain ⟨rfl, rfl⟩ := h2
      exact h1
    · cases h
  · cases h
theorem callOpA_wp (hE : EnvOk P E) {rec : Rec} (hrec : RecOk P rec) {o : Oper} {c : Call} {f : FuncId} (ho : o.op = .call c) (hc : calleeA s c.callee = some f) {as : List AV} (has : evalOs s c.args.toList = some as) (h : callOpA P E rec s o.dst f as = some s') : OpWp P o s s' := by
  intro may a w g hs hm next Q hn
  obtain ⟨vs, hvs, hreps⟩ := evalOs_reps hs has
  have hc := calleeA_sound hs hc
  unfold callOpA at h
  split at h
  · split at h
    · rename_i s1 bs hl
      split at h
      · rename_i t S r hcall
        simp only [Option.some.injEq] at h; subst h
        obtain ⟨hf, hcc⟩ := callA_sound hE hrec hcall
        refine call_wp ho hc hf ?_
        rw [hvs]
        exact (open_call hs hm hreps hl hcc).mono fun e w' ⟨v, he, hL⟩ => ⟨v, he, hn _ _ hL⟩
      · cases h
    · cases h
  · split at h
    · rename_i s1 bs hl
      split at h
      · rename_i S r hcall
        split at h
        · rename_i hsh
          simp only [Option.some.injEq] at h; subst h
          obtain ⟨hf, hcc⟩ := callA_sound hE hrec hcall
          refine call_wp ho hc hf ?_
          rw [hvs]
          exact (shut_call hs hm hreps hl hcc hsh).mono fun e w' ⟨v, he, hL⟩ => ⟨v, he, hn _ _ hL⟩
        · cases h
      · cases h
    · cases h
theorem stepOp_wp (hE : EnvOk P E) {rec : Rec} (hrec : RecOk P rec) {o : Oper} (h : stepOp P E rec s o = some s') : OpWp P o s s' := by
  unfold stepOp at h
  split at h
  · rename_i c ho
    split at h
    · rename_i f hc
      split at h
      · rename_i as has
        exact callOpA_wp hE hrec ho hc has h
      · cases h
    · exact opA_wp h
  · exact opA_wp h
theorem gotoIn_scope {l : Nat} {c rest : Code} {k : List Item} (h : findLabel c l = some rest) : gotoIn l (.inScope c :: k) = some (.code rest :: .inScope c :: k) := by simp [gotoIn, h]
theorem stepT_ok (hE : EnvOk P E) {rec : Rec} (hrec : RecOk P rec) (hq : ∀ (o : Oper) (s s' : St), drawOp P E rec s o = some s' → OpWp P o s s') (hq2 : ∀ (o : Oper) (s s' : St), drawIn P E rec s o = some s' → OpWp P o s s') : RecOk P (stepT P E rec) := by
  intro t s e s' h may a w g hs hm
  have self : ∀ {a' : Act} {w' : World}, a' = a → w' = w → Leaves P may s w g s a' w' := fun h1 h2 => by subst h1; subst h2; exact .same hs rfl
  unfold stepT at h
  split at h
  ·
    simp only [Option.some.injEq, Prod.mk.injEq] at h; obtain ⟨rfl, rfl⟩ := h
    exact wp_skip ⟨rfl, self rfl rfl⟩
  · simp only [Option.some.injEq, Prod.mk.injEq] at h; obtain ⟨rfl, rfl⟩ := h
    exact wp_label ⟨rfl, self rfl rfl⟩
  ·
    rename_i id ops
    split at h
    · rename_i s1 h1
      simp only [Option.some.injEq, Prod.mk.injEq] at h; obtain ⟨rfl, rfl⟩ := h
      exact wp_region (opsA_wp (fun o s s' h => stepOp_wp hE hrec h) hm (fun a' w' hl => ⟨rfl, hl⟩) _ _ _ _ h1 (self rfl rfl))
    · cases h
  · rename_i id ops
    split at h
    · rename_i hok
      split at h
      · rename_i s1 h1
        simp only [Option.some.injEq, Prod.mk.injEq] at h; obtain ⟨rfl, rfl⟩ := h
        refine wp_region_draw fun t => ?_
        rw [hE.wide]
        have h2 := hE.draw ops hok rec s _ t h1
        have hd : Ext w { w with drawn := w.drawn + 1 } := Ext.drew w
        obtain ⟨q1, q2, q3⟩ := hs.grow hm hd (M' := g.M) (fun b o h => h) (fun b o h hn => absurd h hn)
        exact opsA_wp hq hm (fun a' w' hl => ⟨rfl, hl⟩) _ _ _ _ h2 ⟨_, q1, q2, q3.mono (by omega)⟩
      · cases h
    · split at h
      · rename_i hok
        split at h
        · rename_i s1 h1
          simp only [Option.some.injEq, Prod.mk.injEq] at h; obtain ⟨rfl, rfl⟩ := h
          refine wp_region_draw fun t => ?_
          rw [hE.wide]
          have h2 := hE.draw2 ops hok rec s _ t h1
          have hd : Ext w { w with drawn := w.drawn + 1 } := Ext.drew w
          obtain ⟨q1, q2, q3⟩ := hs.grow hm hd (M' := g.M) (fun b o h => h) (fun b o h hn => absurd h hn)
          exact opsA_wp hq2 hm (fun a' w' hl => ⟨rfl, hl⟩) _ _ _ _ h2 ⟨_, q1, q2, q3.mono (by omega)⟩
        · cases h
      · cases h
  ·
    rename_i x y
    split at h
    · rename_i s1 h1
      refine wp_seq (wp_mono ((hrec _ _ _ _ h1 may a w g hs hm).code) fun ex a1 w1 ⟨hx, hl⟩ => ?_)
      subst hx
      obtain ⟨g1, k1, k2, k3⟩ := hl
      refine wp_mono ((hrec _ _ _ _ h may a1 w1 g1 k1 fun b hb => hm b (Nat.le_trans k2.size hb)).code) fun ex a2 w2 ⟨hx, hl2⟩ => ⟨hx, ?_⟩
      obtain ⟨g2, q1, q2, q3⟩ := hl2
      exact ⟨g2, q1, k2.trans q2, k3.trans q3⟩
    · rename_i hno
      refine wp_seq (wp_mono ((hrec _ _ _ _ h may a w g hs hm).code) fun ex a1 w1 ⟨hx, hl⟩ => ?_)
      subst hx
      cases e with
      | normal => exact absurd h (hno _)
      | exit id => exact ⟨rfl, hl⟩
      | goto l => exact ⟨rfl, hl⟩
      | ret => exact ⟨rfl, hl⟩
  ·
    rename_i c x y
    split at h
    · rename_i t ht
      have := (hs.evalO ht).inv_x.1
      exact wp_cond this ((hrec _ _ _ _ h may a w g hs hm).code)
    · cases h
  ·
    rename_i id c
    split at h
    · rename_i i s1 h1
      refine wp_block (wp_mono ((hrec _ _ _ _ h1 may a w g hs hm).code) fun ex a1 w1 ⟨hx, hl⟩ => ?_)
      subst hx
      simp only [AExit.toExit, Exit.inBlock]
      split at h
      · rename_i hid
        simp only [Option.some.injEq, Prod.mk.injEq] at h; obtain ⟨rfl, rfl⟩ := h
        rw [if_pos hid]; exact ⟨rfl, hl⟩
      · rename_i hid
        simp only [Option.some.injEq, Prod.mk.injEq] at h; obtain ⟨rfl, rfl⟩ := h
        rw [if_neg hid]; exact ⟨rfl, hl⟩
    · rename_i hno
      refine wp_block (wp_mono ((hrec _ _ _ _ h may a w g hs hm).code) fun ex a1 w1 ⟨hx, hl⟩ => ?_)
      subst hx
      cases e with
      | exit id => exact absurd h (hno _ _)
      | normal => exact ⟨rfl, hl⟩
      | goto l => exact ⟨rfl, hl⟩
      | ret => exact ⟨rfl, hl⟩
  ·
    rename_i c
    split at h
    · rename_i s1 h1
      intro b k cs
      obtain ⟨ex, a1, w1, ⟨hx, hl⟩, harr⟩ := (hrec _ _ _ _ h1 may a w g hs hm).code b (.inLoop c :: k) cs
      subst hx
      obtain ⟨g1, k1, k2, k3⟩ := hl
      obtain ⟨ex, a2, w2, ⟨hx, hl2⟩, harr2⟩ := hrec _ _ _ _ h may a1 w1 g1 k1 (fun b hb => hm b (Nat.le_trans k2.size hb)) b k cs
      obtain ⟨g2, q1, q2, q3⟩ := hl2
      exact ⟨ex, a2, w2, ⟨hx, g2, q1, k2.trans q2, k3.trans q3⟩, .of_steps (Steps.trans harr (.one step_inLoop)) harr2⟩
    · rename_i hno
      intro b k cs
      obtain ⟨ex, a1, w1, ⟨hx, hl⟩, harr⟩ := (hrec _ _ _ _ h may a w g hs hm).code b (.inLoop c :: k) cs
      subst hx
      cases e with
      | normal => exact absurd h (hno _)
      | exit id => exact ⟨_, a1, w1, ⟨rfl, hl⟩, .pass (x := .inLoop c) rfl (fun _ _ => .inl (by simp [AExit.toExit])) harr⟩
      | goto l => exact ⟨_, a1, w1, ⟨rfl, hl⟩, .pass (x := .inLoop c) rfl (fun _ _ => .inl (by simp [AExit.toExit])) harr⟩
      | ret => exact ⟨_, a1, w1, ⟨rfl, hl⟩, .pass (x := .inLoop c) rfl (fun _ _ => .inl (by simp [AExit.toExit])) harr⟩
  · simp only [Option.some.injEq, Prod.mk.injEq] at h; obtain ⟨rfl, rfl⟩ := h
    exact wp_exit ⟨rfl, self rfl rfl⟩
  · simp only [Option.some.injEq, Prod.mk.injEq] at h; obtain ⟨rfl, rfl⟩ := h
    exact wp_goto ⟨rfl, self rfl rfl⟩
  · simp only [Option.some.injEq, Prod.mk.injEq] at h; obtain ⟨rfl, rfl⟩ := h
    exact wp_ret ⟨rfl, self rfl rfl⟩
  ·
    rename_i c
    intro b k cs
    obtain ⟨ex, a1, w1, hq, harr⟩ := hrec _ _ _ _ h may a w g hs hm b k cs
    exact ⟨ex, a1, w1, hq, .of_steps (.one step_scope) harr⟩
  ·
    rename_i c rest
    split at h
    · rename_i l s1 h1
      intro b k cs
      obtain ⟨ex, a1, w1, ⟨hx, hl⟩, harr⟩ := (hrec _ _ _ _ h1 may a w g hs hm).code b (.inScope c :: k) cs
      subst hx
      split at h
      · rename_i rest1 hf
        obtain ⟨g1, k1, k2, k3⟩ := hl
        obtain ⟨ex, a2, w2, ⟨hx, hl2⟩, harr2⟩ := hrec _ _ _ _ h may a1 w1 g1 k1 (fun b hb => hm b (Nat.le_trans k2.size hb)) b k cs
        obtain ⟨g2, q1, q2, q3⟩ := hl2
        exact ⟨ex, a2, w2, ⟨hx, g2, q1, k2.trans q2, k3.trans q3⟩, .of_steps (harr _ (gotoIn_scope hf)) harr2⟩
      · rename_i hf
        simp only [Option.some.injEq, Prod.mk.injEq] at h; obtain ⟨rfl, rfl⟩ := h
        exact ⟨_, a1, w1, ⟨rfl, hl⟩, fun k' hk => harr k' (by simp [gotoIn, hf, hk])⟩
    · rename_i hno
      intro b k cs
      obtain ⟨ex, a1, w1, ⟨hx, hl⟩, harr⟩ := (hrec _ _ _ _ h may a w g hs hm).code b (.inScope c :: k) cs
      subst hx
      cases e with
      | normal => exact ⟨_, a1, w1, ⟨rfl, hl⟩, Steps.trans harr (.one step_inScope)⟩
      | exit id => exact ⟨_, a1, w1, ⟨rfl, hl⟩, fun k' hk => harr k' (by simp [exitTo, hk])⟩
      | goto l => exact absurd h (hno _ _)
      | ret => exact ⟨_, a1, w1, ⟨rfl, hl⟩, harr⟩
  · cases h
  · cases h
end
end Go.AbsM
end

section
namespace Go.AbsM
section
variable {P : Program} {w w' : World} {g : Gh} {may : Nat → Prop} {s s' : St} {a : Act} {E : Env}
theorem ORep.unown {may0 : Nat → Prop} {g0 g2 : Gh} {S0 S2 : List Store} {x : AV} {v : Value} {b : Nat} (h : ORep P may0 w g0 S0 x v b) (hx : x.shut1 = true) (hM : x.flat2 = true ∨ ∀ b o, g0.M b o → g2.M b o)
    (hb : ∀ b o, may0 b → b < w.heap.size → g2.M b o) : HRep1 P w g2 S2 x.unown v := by
  by_cases ho : ∃ e xs, x = .own e xs
  · obtain ⟨e, xs, rfl⟩ := ho
    obtain ⟨h1, h2, h3, h4⟩ := h
    rcases h4 with ⟨hbx, he, cur, us, cap, c, rfl, q2, q3, q4, q5, q6, q7, q8, q9, q10⟩ | ⟨hbx, _⟩
    case inr =>
      have : AV.unown (.own e xs) = .dead := by simp only [AV.unown, hbx]
      rw [this]; exact trivial
    have hu : AV.unown (.own e xs) = .sl e xs := by simp only [AV.unown, hbx]
    rw [hu]
    have hr : RepL P w g2.M e xs us := by
      rcases hM with hM | hM
      · exact q9.flat1 hM
      · exact q9.mono hM (fun _ _ _ => rfl)
    refine HRep1.of_rep (Rep.sl rfl hr.1 q2 q3 he hr.2.1 hr.2.2 fun _ => ⟨b, 0, rfl, fun j cv hj => ⟨?_, hb _ _ h1 (lt_of_heap q5)⟩⟩)
    rw [Nat.zero_add, cell_of_row w b j cur.toArray e (0, 0) q5]
    rw [← q10, List.getElem?_take] at hj
    split at hj
    · simpa using hj
    · cases hj
  · have h' : HRep1 P w g0 S0 x v := by cases x <;> first | exact h | exact absurd ⟨_, _, rfl⟩ ho
    have hr := h'.shut hx fun e xs he => ho ⟨e, xs, he⟩
    have : Rep P w g2.M x v := by
      rcases hM with hM | hM
      · exact hr.flat1 (by cases x <;> first | exact hM | exact absurd ⟨_, _, rfl⟩ ho)
      · exact hr.mono hM (fun _ _ _ => rfl)
    have h2 := HRep1.of_rep (S := S2) this
    cases x <;> first | exact h2 | exact absurd ⟨_, _, rfl⟩ ho
theorem ResRep.unown {may0 : Nat → Prop} {g0 g2 : Gh} {S0 S2 : List Store} {r : AV} {v : Value} (h : ResRep P may0 w g0 S0 r v) (hx : r.shut = true) (hM : r.hasSl = false ∨ ∀ b o, g0.M b o → g2.M b o)
    (hb : ∀ b o, may0 b → b < w.heap.size → g2.M b o) : HRep P w g2 S2 r.unowns v := by
  by_cases ht : ∃ as, r = .tup as
  · obtain ⟨as, rfl⟩ := ht
    obtain ⟨vs, rfl, hl, bl, h1, h2⟩ := h
    refine ⟨vs, rfl, by simpa using hl, fun i c u hc hu => ?_⟩
    simp only [List.getElem?_map, Option.map_eq_some_iff] at hc
    obtain ⟨c', hc, rfl⟩ := hc
    refine (h1 i c' u hc hu).unown (List.all_eq_true.1 hx c' (List.mem_of_getElem? hc)) ?_ hb
    rcases hM with hM | hM
    · refine .inl ?_
      simp only [AV.hasSl, Bool.not_eq_false'] at hM
      exact List.all_eq_true.1 hM c' (List.mem_of_getElem? hc)
    · exact .inr hM
  · obtain ⟨b, ho⟩ : ∃ b, ORep P may0 w g0 S0 r v b := by cases r <;> first | exact h | exact absurd ⟨_, rfl⟩ ht
    have h2 := ho.unown (g2 := g2) (S2 := S2) (by cases r <;> first | exact hx | exact absurd ⟨_, rfl⟩ ht) (by
      rcases hM with hM | hM
      · refine .inl ?_
        cases r <;> first | exact absurd ⟨_, rfl⟩ ht | (simp only [AV.hasSl, Bool.not_eq_false'] at hM; exact hM)
      · exact .inr hM) hb
    have hu : r.unowns = r.unown := by cases r <;> first | rfl | exact absurd ⟨_, rfl⟩ ht
    rw [hu]
    refine HRep.of_one h2 fun l e => ?_
    rw [e] at h2; exact h2.elim
theorem OpWp.of {o : Oper} (h : ∀ (may : Nat → Prop) (a : Act) (w : World) (g : Gh), Sim P may s a w g → (∀ b, w.heap.size ≤ b → may b) → OpOk P may s a w g s' o) : OpWp P o s s' := by
  intro may a w g hs hm next Q hn
  obtain ⟨w', h1 | h1⟩ := h may a w g hs hm
  · obtain ⟨v, h1, h2⟩ := h1
    unfold Oper.wp; rw [h1]; exact hn _ _ h2
  · obtain ⟨h1, h2⟩ := h1
    unfold Oper.wp; rw [h1]; exact hn _ _ h2
end
end Go.AbsM
end
