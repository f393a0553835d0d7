/-
  The abstract machine: append, copy, clear, make, slice literals, stores.
-/
import Derived.Test.YtmfegciehdjicaaAbsUpd
set_option linter.unusedVariables false
set_option linter.unusedSimpArgs false
namespace Go.AbsM

section
variable {P : Program} {w w' : World} {g : Gh} {may : Nat → Prop} {s : St} {a : Act}

/-- An object's contents have turned, and a slot takes a value. -/
theorem leave_arr (hs : Sim P may s a w g) (hm : ∀ b, w.heap.size ≤ b → may b) {i k : Nat} {e : TypeId} {xs xs' : List AV} (hg : getOb s.stores i k = some (.arr false e xs)) {b c0 : Nat} (hc : Chg (g.B i k) w w')
    (hlen : xs.length ≤ xs'.length) (hbb : (b = g.B i k ∧ c0 = g.C i k) ∨ (w.heap.size ≤ b ∧ xs.length < xs'.length))
    (hnew : ∃ (cur us : List Value) (cap : Nat), w'.heap[b]? = some (.cells cur.toArray e (0, 0)) ∧ cur.length = c0 ∧ c0 = cap * P.cellsOf e ∧ cap ≤ maxLen ∧ xs'.length ≤ cap ∧ RepL P w' g.M e xs' us ∧ cur.take (xs'.length * P.cellsOf e) = flat us)
    {d : Option Nat} {x : AV} {v : Value} (hx : HRep P w' (g.at i k b c0) (setOb s.stores i k (.arr false e xs')) x v) :
    Leaves P may s w g (St.put { s with stores := setOb s.stores i k (.arr false e xs') } d x) (a.put d v) w' := by
  obtain ⟨h1, h2, h3⟩ := hs.inv.setArr hm hg hc hlen hbb hnew
  have hsim : Sim P may { s with stores := setOb s.stores i k (.arr false e xs') } a w' (g.at i k b c0) := hs.keep h3.sub h3.cell h2 h1 (setOb_ne hs.ne _ _ _)
  refine ⟨_, hsim.put hx d, h3, ?_⟩
  have : (St.put { s with stores := setOb s.stores i k (.arr false e xs') } d x).stores = setOb s.stores i k (.arr false e xs') := by cases d <;> rfl
  rw [this]
  exact h2.mono (by omega)

theorem put_stores (s : St) (d : Option Nat) (x : AV) : (s.put d x).stores = s.stores := by cases d <;> rfl

theorem elemT_some {t e : TypeId} (h : elemT P t = some e) : P.underlying t = some (.slice e) := by
  unfold elemT at h
  split at h
  · simp only [Option.some.injEq] at h; subst h; assumption
  · cases h

/-- The mark of how append's second argument is taken: a slice or a string. -/
def SrcT (P : Program) (t2 : TypeId) : Prop := (∃ e, P.underlying t2 = some (.slice e)) ∨ P.underlying t2 = some .string

theorem append_run_room {t t2 ty e : TypeId} {i : TypeInfo} {A : Option Addr} {n c m : Nat} {v : Value} {cells : Array Value} (hu : P.underlying t = some (.slice e)) (h2 : SrcT P t2) (hi : P.info? e = some i)
    (hl : (Builtin.lenOf v).run P w = .ok m w) (hf : (Builtin.firstCells i.size m v).run P w = .ok cells w) (hroom : n + m ≤ c) :
    (Builtin.append_ #[t, t2] ty #[.slice A n c, v]).run P w = match A with
      | none => .ok (.slice A (n + m) c) w
      | some ad => ((storeCells (ad.add (n * i.size)) cells.toList).run P w).andThen fun _ w' => .ok (.slice A (n + m) c) w' := by
  rcases h2 with ⟨e2, h2⟩ | h2 <;> cases A <;> simp [Builtin.append_, run_underlying hu, run_underlying h2, sizeOf, typeInfo, hi, hl, hf, hroom]

theorem append_run_grow {t t2 ty e : TypeId} {i : TypeInfo} {z : Value} {A : Option Addr} {n c m : Nat} {v : Value} {cells olds : Array Value} (hu : P.underlying t = some (.slice e)) (h2 : SrcT P t2) (hi : P.info? e = some i) (hz : i.zero = some z)
    (hl : (Builtin.lenOf v).run P w = .ok m w) (hf : (Builtin.firstCells i.size m v).run P w.drew = .ok cells w.drew) (hfo : (Builtin.firstCells i.size n (.slice A n c)).run P w.drew = .ok olds w.drew) (hgr : c < n + m)
    (hb : (n + m) * i.bytes ≤ 140737488355328) (hbp : 0 < i.bytes) :
    (Builtin.append_ #[t, t2] ty #[.slice A n c, v]).run P w =
      .ok (.slice (some ⟨w.heap.size, 0, none⟩) (n + m) (grownCap w (n + m) c e)) (w.drew.alloc (.cells (olds ++ cells ++ Builtin.zeroCells z.cells (grownCap w (n + m) c e - (n + m))) e)) := by
  have hn : ¬ (n + m ≤ c) := by omega
  have h48' : ¬ (281474976710656 < Builtin.nextslicecap (n + m) c * i.bytes) := by
    have := growslice_fits (old := c) (need := n + m) (bytes := i.bytes) (by omega) hb
    omega
  have hb0 : i.bytes ≠ 0 := by omega
  rcases h2 with ⟨e2, h2⟩ | h2 <;> simp [Builtin.append_, run_underlying hu, run_underlying h2, sizeOf, typeInfo, zeroValue, hi, hz, hl, hf, hfo, hn, h48', hb0, Question.forced, newRow, grownCap]

/-- The elements behind a slice's value, read where the world has grown. -/
theorem flat_take_self {M : Nat → Nat → Prop} {e : TypeId} {xs : List AV} {us : List Value} (h : RepL P w M e xs us) : us.take xs.length = us := by rw [← h.1]; exact List.take_length

theorem grown_bound {n m c by_ : Nat} {e : TypeId} (hb : (n + m) * by_ ≤ 140737488355328) (hp : 0 < by_) : n + m ≤ maxLen := by
  have : n + m ≤ (n + m) * by_ := Nat.le_mul_of_pos_right _ hp
  simp only [maxLen]; omega

theorem zeroCells_size {z : AV} {zv : Value} (h : constAV zv = some z) (n : Nat) : (Builtin.zeroCells zv.cells n).size = n * z.cells.length := by
  have := (constAV_cells (P := default) (w := default) (g := ⟨fun _ _ => False, fun _ _ => 0, fun _ _ => 0⟩) (S := []) h).1.1
  simp only [Array.length_toList] at this
  simp [Builtin.zeroCells, this]

theorem cell_of_ext {w w' : World} (hx : Ext w w') {b o : Nat} {cv : Value} (h : w.cell? ⟨b, o, none⟩ = some cv) : w'.cell? ⟨b, o, none⟩ = some cv := by
  rw [hx.cell (World.block_lt_of_cell? w _ h) o]; exact h

theorem appendA_sound (hs : Sim P may s a w g) (hm : ∀ b, w.heap.size ≤ b → may b) {s' : St} {d : Option Nat} {t t2 ty : TypeId} {x y : AV} {u v : Value} (h2 : SrcT P t2) (hx : HRep P w g s.stores x u) (hy : HRep P w g s.stores y v) (h : appendA P s d t x y = some s') :
    ∃ z w', (Builtin.append_ #[t, t2] ty #[u, v]).run P w = .ok z w' ∧ Leaves P may s w g s' (a.put d z) w' := by
  unfold appendA at h
  split at h
  · cases h
  rename_i e he
  have hu := elemT_some he
  split at h
  · rename_i es by_ news z hes hby hsrc hz
    split at h
    · cases h
    rename_i hno
    have hce := sizeT_cells hes
    have hes0 : es ≠ 0 := fun e => hno (.inl e)
    have hby0 : by_ ≠ 0 := fun e => hno (.inr (.inl e))
    have hzl : z.cells.length = es := Decidable.byContradiction fun e => hno (.inr (.inr e))
    have hpos : 0 < P.cellsOf e := by rw [hce]; omega
    obtain ⟨i, hi, rfl⟩ := Option.map_eq_some_iff.1 hes
    obtain ⟨i', hi', hbi⟩ := Option.map_eq_some_iff.1 hby
    rw [hi] at hi'
    cases hi'
    subst hbi
    obtain ⟨i', zv, hi', hzv, hzc⟩ := zeroT_some hz
    rw [hi] at hi'
    cases hi'
    obtain ⟨us, hr, hlen, hfirst⟩ := hs.inv.src hy hsrc
    have hf0 : ∀ w', Ext w w' → (Builtin.firstCells i.size news.length v).run P w' = .ok (flat us).toArray w' := by
      intro w' hw'
      have := hfirst news.length (Nat.le_refl _) w' (fun b o cv h => cell_of_ext hw' h)
      rw [flat_take_self hr, hce] at this
      exact this
    have hl1 : (flat us).length = news.length * P.cellsOf e := hr.len
    -- a new row
    have fresh : ∀ (A : Option Addr), u = .slice A 0 0 → 0 < news.length → news.length * i.bytes ≤ 140737488355328 → s.fresh d e news = some s' →
        ∃ z w', (Builtin.append_ #[t, t2] ty #[u, v]).run P w = .ok z w' ∧ Leaves P may s w g s' (a.put d z) w' := by
      rintro A rfl hnp hnb hfr
      have hfo : (Builtin.firstCells i.size 0 (.slice A 0 0)).run P w.drew = .ok #[] w.drew := by
        cases A <;> simp [Builtin.firstCells, loadCells, loadCellsFrom]
      have hrun := append_run_grow (ty := ty) (n := 0) (c := 0) hu h2 hi hzv hlen (hf0 _ (Ext.drew w)) hfo (by omega) (by rw [Nat.zero_add]; exact hnb) (by omega)
      rw [Nat.zero_add] at hrun
      have hge := grownCap_ge w news.length 0 e
      have hnm : news.length ≤ maxLen := by
        have := grown_bound (n := 0) (m := news.length) (c := 0) (e := e) (by rw [Nat.zero_add]; exact hnb) (show 0 < i.bytes by omega)
        omega
      have hgm := grownCap_le_maxLen w news.length 0 e hnm
      refine ⟨_, _, hrun, ?_⟩
      refine fresh_sound (cur := flat us ++ (Builtin.zeroCells zv.cells (grownCap w news.length 0 e - news.length)).toList) (us := us) hs hm ((Ext.drew w).trans (Ext.alloc w.drew _)) hfr (by simp) ?_ hpos ?_ hgm hge hr ?_
      · rw [show (flat us ++ (Builtin.zeroCells zv.cells (grownCap w news.length 0 e - news.length)).toList).toArray = #[] ++ (flat us).toArray ++ Builtin.zeroCells zv.cells (grownCap w news.length 0 e - news.length) from by apply Array.ext'; simp]
        exact heap_alloc_new w.drew _
      · have := zeroCells_size hzc (grownCap w news.length 0 e - news.length)
        rw [hzl, ← hce] at this
        simp only [List.length_append, hl1, Array.length_toList, this, ← Nat.add_mul]
        congr 1; omega
      · rw [← hl1]; simp
    split at h
    · -- nil
      have e1 := hx.inv_nils; subst e1
      split at h
      · simp only [Option.some.injEq] at h; subst h
        refine ⟨.slice none 0 0, w, ?_, Leaves.same (hs.put (HRep.of_rep .nils) d) (put_stores _ _ _)⟩
        have := append_run_room (A := none) (ty := ty) (n := 0) (c := 0) hu h2 hi hlen (hf0 w (Ext.refl w)) (by simp)
        simpa using this
      · split at h
        · rename_i hb
          exact fresh none rfl (by simp) hb h
        · cases h
    · obtain ⟨A, rfl⟩ := hx.inv_cap0
      split at h
      · simp only [Option.some.injEq] at h; subst h
        refine ⟨.slice A 0 0, w, ?_, Leaves.same (hs.put (HRep.of_rep .cap0) d) (put_stores _ _ _)⟩
        have := append_run_room (A := A) (ty := ty) (n := 0) (c := 0) hu h2 hi hlen (hf0 w (Ext.refl w)) (by simp)
        have hus : us = [] := List.eq_nil_of_length_eq_zero (by rw [hr.1]; rfl)
        subst hus
        cases A <;> simpa [flat, storeCells] using this
      · split at h
        · rename_i hb
          exact fresh A rfl (by simp) hb h
        · cases h
    · -- a slice that some frame owns
      rename_i i0 k e1 lo n tot
      split at h
      · rename_i e2 xs hg
        split at h
        · rename_i hcond
          obtain ⟨rfl, rfl, rfl, rfl, hxt, hb⟩ := hcond
          simp only [Option.some.injEq] at h; subst h
          obtain ⟨fz, xs', hg', ht, hq, _⟩ := hx.inv_arr
          rw [hg] at hg'
          simp only [Option.some.injEq, Ob.arr.injEq] at hg'
          obtain ⟨rfl, _, rfl⟩ := hg'
          obtain ⟨_, A, c, rfl, hnc, hcm, hA, hC⟩ := hq hxt
          have hA' := hA (.inl rfl)
          rw [Nat.zero_mul] at hA'
          subst hA'
          have hC' := hC rfl
          rw [Nat.zero_add] at hC'
          obtain ⟨hmay, hnM, _, cur, us0, cap, hh, hcl, hcc, hcapm, hxc, hr0, htk⟩ := hs.inv.arr i0 k _ xs hg
          have hl0 : (flat us0).length = xs.length * P.cellsOf e2 := hr0.len
          have hcap : c ≤ cap := by
            rw [hcc] at hC'
            exact Nat.le_of_mul_le_mul_right hC' hpos
          subst hxt
          by_cases hroom : xs.length + news.length ≤ c
          · -- there is room
            have hrun := append_run_room (A := some ⟨g.B i0 k, 0, none⟩) (ty := ty) (n := xs.length) (c := c) hu h2 hi hlen (hf0 w (Ext.refl w)) hroom
            have hfit : 0 + 0 + xs.length * P.cellsOf e2 + (flat us).length ≤ cur.length := by
              rw [hl1, hcl]
              have : (xs.length + news.length) * P.cellsOf e2 ≤ c * P.cellsOf e2 := Nat.mul_le_mul_right _ hroom
              rw [Nat.add_mul] at this
              omega
            have hst := run_storeCells_at P (g.B i0 k) (xs.length * P.cellsOf e2) e2 (flat us) 0 cur.toArray w hh (by simpa using hfit) hr.ones
            simp only [Addr.add_lit, Nat.zero_add, ← hce, hst, Result.andThen_ok, Nat.add_zero] at hrun
            refine ⟨_, _, hrun, ?_⟩
            refine leave_arr hs hm hg (b := g.B i0 k) (c0 := g.C i0 k) (Chg.setRow w _ _) (by simp) (.inl ⟨rfl, rfl⟩)
              ⟨cur.take (xs.length * P.cellsOf e2) ++ flat us ++ cur.drop (xs.length * P.cellsOf e2 + (flat us).length), us0 ++ us, cap, ?_, ?_, hcc, hcapm, by simp; omega, ?_, ?_⟩ ?_
            · have := setRow_heap w (g.B i0 k) cur.toArray (cur.take (xs.length * P.cellsOf e2) ++ flat us ++ cur.drop (xs.length * P.cellsOf e2 + (flat us).length)).toArray e2 (0, 0) hh
              simpa using this
            · rw [← hcl]; simp; omega
            · have hfr := (Chg.setRow w (g.B i0 k) (cur.take (xs.length * P.cellsOf e2) ++ flat us ++ cur.drop (xs.length * P.cellsOf e2 + (flat us).length)).toArray).fr hs.inv hm hmay hnM
              have h3 := (hr0.append hr).mono hfr.sub hfr.cell
              simpa using h3
            · rw [flat_append, htk]
              have e1 : (xs ++ news).length * P.cellsOf e2 = (flat us0 ++ flat us).length := by
                rw [List.length_append, List.length_append, hl0, hl1, Nat.add_mul]
              rw [e1, List.take_append_of_le_length (Nat.le_refl _), List.take_length]
            · refine ⟨false, xs ++ news, by rw [getOb_set]; simp [hg], by simp, fun _ => ⟨by simp, _, c, rfl, hroom, hcm, fun _ => by simp [Gh.at], fun _ => ?_⟩, rfl⟩
              simp only [Gh.at, and_self, if_true, Nat.zero_add]
              exact hC'
          · -- it grows
            have hfo : (Builtin.firstCells i.size xs.length (.slice (some ⟨g.B i0 k, 0, none⟩) xs.length c)).run P w.drew = .ok (flat us0).toArray w.drew := by
              refine run_firstCells_some (P := P) w.drew i.size xs.length ⟨g.B i0 k, 0, none⟩ xs.length c (flat us0) (by rw [hl0, hce]) fun j cv hj => ?_
              rw [Addr.add_lit, Nat.zero_add]
              show w.cell? _ = _
              rw [cell_of_row w (g.B i0 k) j cur.toArray e2 (0, 0) hh]
              rw [← htk, List.getElem?_take] at hj
              split at hj
              · simpa using hj
              · cases hj
            have hrun := append_run_grow (ty := ty) (n := xs.length) (c := c) hu h2 hi hzv hlen (hf0 _ (Ext.drew w)) hfo (by omega) hb (by omega)
            have hge := grownCap_ge w (xs.length + news.length) c e2
            have hnm := grown_bound (c := c) (e := e2) hb (show 0 < i.bytes by omega)
            have hgm := grownCap_le_maxLen w (xs.length + news.length) c e2 hnm
            have hext : Ext w (w.drew.alloc (.cells ((flat us0).toArray ++ (flat us).toArray ++ Builtin.zeroCells zv.cells (grownCap w (xs.length + news.length) c e2 - (xs.length + news.length))) e2)) := (Ext.drew w).trans (Ext.alloc w.drew _)
            refine ⟨_, _, hrun, ?_⟩
            refine leave_arr hs hm hg (b := w.heap.size) (c0 := grownCap w (xs.length + news.length) c e2 * P.cellsOf e2) (Chg.of_ext hext) (by simp) (.inr ⟨Nat.le_refl _, by simp; omega⟩)
              ⟨flat us0 ++ flat us ++ (Builtin.zeroCells zv.cells (grownCap w (xs.length + news.length) c e2 - (xs.length + news.length))).toList, us0 ++ us, grownCap w (xs.length + news.length) c e2, ?_, ?_, rfl, hgm, by simpa using hge, ?_, ?_⟩ ?_
            · rw [show (flat us0 ++ flat us ++ (Builtin.zeroCells zv.cells (grownCap w (xs.length + news.length) c e2 - (xs.length + news.length))).toList).toArray = (flat us0).toArray ++ (flat us).toArray ++ Builtin.zeroCells zv.cells (grownCap w (xs.length + news.length) c e2 - (xs.length + news.length)) from by apply Array.ext'; simp]
              exact heap_alloc_new w.drew _
            · have := zeroCells_size hzc (grownCap w (xs.length + news.length) c e2 - (xs.length + news.length))
              rw [hzl, ← hce] at this
              simp only [List.length_append, hl0, hl1, Array.length_toList, this, ← Nat.add_mul]
              congr 1; omega
            · have hfr := hext.fr hm hs.inv.mlt
              exact (hr0.append hr).mono hfr.sub hfr.cell
            · rw [flat_append]
              have e1 : (xs ++ news).length * P.cellsOf e2 = (flat us0 ++ flat us).length := by
                rw [List.length_append, List.length_append, hl0, hl1, Nat.add_mul]
              rw [e1, List.take_append_of_le_length (Nat.le_refl _), List.take_length]
            · refine ⟨false, xs ++ news, by rw [getOb_set]; simp [hg], by simp, fun _ => ⟨by simp, _, _, rfl, hge, hgm, fun _ => by simp [Gh.at], fun _ => ?_⟩, rfl⟩
              simp [Gh.at]
        · cases h
      · cases h
    · cases h
  · cases h
end
end Go.AbsM
