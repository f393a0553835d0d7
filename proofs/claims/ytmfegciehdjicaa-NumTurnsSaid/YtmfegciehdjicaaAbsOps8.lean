/-
  The abstract machine: clear, stores, bytes out of strings.
-/
import Derived.Test.YtmfegciehdjicaaAbsOps7
set_option linter.unusedVariables false
set_option linter.unusedSimpArgs false
namespace Go.AbsM

theorem splice_elem {α : Type} (cur vals : List α) (N J es off : Nat) (h1 : J + es ≤ N) (h2 : N ≤ cur.length) (h3 : off + vals.length ≤ es) :
    (cur.take (J + off) ++ vals ++ cur.drop (J + off + vals.length)).take N = (cur.take N).take J ++ ((((cur.take N).drop J).take es).take off ++ (vals ++ (((cur.take N).drop J).take es).drop (off + vals.length)) ++ (cur.take N).drop (J + es)) := by
  apply List.ext_getElem?
  intro m
  have e0 : (cur.take N).length = N := by simp; omega
  have e1 : ((cur.take N).take J).length = J := by simp; omega
  have e2 : (((cur.take N).drop J).take es).length = es := by simp; omega
  have e3 : ((((cur.take N).drop J).take es).take off).length = off := by simp; omega
  have e4 : ((((cur.take N).drop J).take es).take off ++ (vals ++ (((cur.take N).drop J).take es).drop (off + vals.length))).length = es := by simp; omega
  by_cases hN : m < N
  · rw [List.getElem?_take, if_pos hN]
    by_cases hJ : m < J
    · rw [List.append_assoc, List.getElem?_append_left (by simp; omega), List.getElem?_append_left (by omega), List.getElem?_take, if_pos (by omega), List.getElem?_take, if_pos hJ, List.getElem?_take, if_pos hN]
    · rw [List.getElem?_append_right (l₁ := (cur.take N).take J) (by omega), e1]
      by_cases hE : m < J + es
      · rw [List.getElem?_append_left (l₁ := (((cur.take N).drop J).take es).take off ++ (vals ++ (((cur.take N).drop J).take es).drop (off + vals.length))) (by omega)]
        by_cases ho : m < J + off
        · rw [List.append_assoc, List.getElem?_append_left (by simp; omega), List.getElem?_take, if_pos ho, List.getElem?_append_left (by omega), List.getElem?_take, if_pos (by omega), List.getElem?_take, if_pos (by omega), List.getElem?_drop, List.getElem?_take, if_pos (by omega)]
          congr 1; omega
        · rw [List.append_assoc, List.getElem?_append_right (by simp; omega), List.getElem?_append_right (l₁ := (((cur.take N).drop J).take es).take off) (by omega), e3]
          have e5 : (cur.take (J + off)).length = J + off := by simp; omega
          rw [e5]
          by_cases hv : m < J + off + vals.length
          · rw [List.getElem?_append_left (by omega), List.getElem?_append_left (by omega)]
            congr 1; omega
          · rw [List.getElem?_append_right (by omega), List.getElem?_append_right (by omega), List.getElem?_drop, List.getElem?_drop, List.getElem?_take, if_pos (by omega), List.getElem?_drop, List.getElem?_take, if_pos (by omega)]
            congr 1; omega
      · rw [List.getElem?_append_right (l₁ := (((cur.take N).drop J).take es).take off ++ (vals ++ (((cur.take N).drop J).take es).drop (off + vals.length))) (by omega), e4]
        have e6 : (cur.take (J + off) ++ vals).length = J + off + vals.length := by simp; omega
        rw [List.getElem?_append_right (by omega), e6, List.getElem?_drop, List.getElem?_drop, List.getElem?_take, if_pos (by omega)]
        congr 1; omega
  · rw [List.getElem?_eq_none (by simp; omega), List.getElem?_eq_none (by simp; omega)]

section
variable {P : Program} {w w' : World} {g : Gh} {may : Nat → Prop} {s : St} {a : Act}

theorem zeroCells_flat {zv : Value} {n : Nat} (h : 0 < zv.cells.size) : (Builtin.zeroCells zv.cells n).toList = flat (List.replicate n zv) := by
  have := madeCells_flat (zv := zv) (es := zv.cells.size) (n := n) rfl h
  rw [← this]
  rfl

theorem clearA_sound (hs : Sim P may s a w g) (hm : ∀ b, w.heap.size ≤ b → may b) {s' : St} {d : Option Nat} {t ty : TypeId} {rest : List TypeId} {x : AV} {u : Value} (hx : HRep P w g s.stores x u) (h : clearA P s d t x = some s') :
    ∃ z w', (Builtin.clear_ (t :: rest).toArray ty #[u]).run P w = .ok z w' ∧ Leaves P may s w g s' (a.put d z) w' := by
  unfold clearA at h
  split at h
  · cases h
  rename_i e he
  have hu := elemT_some he
  split at h
  · simp only [Option.some.injEq] at h; subst h
    have e1 := hx.inv_nils; subst e1
    exact ⟨undef, w, by simp [Builtin.clear_, run_underlying hu, undef], Leaves.same (hs.put (x := .und) rfl d) (put_stores _ _ _)⟩
  · simp only [Option.some.injEq] at h; subst h
    obtain ⟨A, rfl⟩ := hx.inv_cap0
    exact ⟨undef, w, by cases A <;> simp [Builtin.clear_, run_underlying hu, undef], Leaves.same (hs.put (x := .und) rfl d) (put_stores _ _ _)⟩
  · rename_i i k e' lo n tot
    split at h
    · rename_i z es e2 xs hz hes hg
      split at h
      · rename_i hc
        obtain ⟨rfl, rfl, hxt, hln, hzl, hn⟩ := hc
        simp only [Option.some.injEq] at h; subst h
        obtain ⟨fz, xs', hg', ht, hq, _⟩ := hx.inv_arr
        rw [hg] at hg'
        simp only [Option.some.injEq, Ob.arr.injEq] at hg'
        obtain ⟨rfl, _, rfl⟩ := hg'
        obtain ⟨_, A, c, rfl, hnc, hcm, hA, hC⟩ := hq hxt
        have hpos := (hs.inv.arr i k _ xs hg).2.2.1
        obtain ⟨it, zv, hit, hzz, hzc⟩ := zeroT_some hz
        have hce := sizeT_cells hes
        have hzs : zv.cells.size = P.cellsOf e2 := by
          have := (constAV_cells (P := P) (w := w) (g := g) (S := s.stores) hzc).1.1
          simp only [Array.length_toList] at this
          rw [this, hzl, hce]
        have hr := RepL.replicate (P := P) (w := w) (M := g.M) (e := e2) (constAV_rep hzc g.M) hzs n
        obtain ⟨w', hst, hlv⟩ := lay_arr hs hm (lo := lo) hg hr (by simp; omega) (d := d) (x := .und) (v := undef) (fun _ _ _ => rfl)
        simp only [List.length_replicate] at hlv
        refine ⟨undef, w', ?_, hlv⟩
        rw [hA (.inr hn)]
        have hzr : (zeroValue e2).run P w = .ok zv w := by simp [zeroValue, typeInfo, hit, hzz]
        have hzf := zeroCells_flat (zv := zv) (n := n) (by rw [hzs]; exact hpos)
        obtain ⟨n', rfl⟩ : ∃ n', n = n' + 1 := ⟨n - 1, by omega⟩
        simp [Builtin.clear_, run_underlying hu, hzr, hzf, hst, undef]
      · cases h
    · cases h
  · cases h

/-- A box has turned, and a slot takes a value. -/
theorem leave_box (hs : Sim P may s a w g) (hm : ∀ b, w.heap.size ≤ b → may b) {i k off : Nat} {cs ds es : List AV} {us : List Value} (hg : getOb s.stores i k = some (.box cs)) (hl : layA cs off ds = some es)
    (hd : us.length = ds.length) (hr : ∀ (j : Nat) (c : AV) (u : Value), ds[j]? = some c → us[j]? = some u → CRep P w g s.stores (c.shift i) u ∧ u.oneCell' = true) (d : Option Nat) :
    ∃ w', (storeCells ⟨g.B i k, off, none⟩ us).run P w = .ok () w' ∧ Leaves P may s w g (St.put { s with stores := setOb s.stores i k (.box es) } d .und) (a.put d undef) w' := by
  obtain ⟨hmay, hnM, vs, t, hh, hvl, hvr⟩ := hs.inv.box i k cs hg
  unfold layA at hl
  split at hl
  · rename_i hle
    simp only [Option.some.injEq] at hl; subst hl
    have hone : ∀ v, v ∈ us → v.oneCell' = true := by
      intro v hv
      obtain ⟨j, hj, rfl⟩ := List.getElem_of_mem hv
      exact (hr j ds[j] us[j] (by simp [← hd, hj]) (by simp [hj])).2
    have hst := run_storeCells_at P (g.B i k) off t us 0 vs.toArray w hh (by simp; omega) hone
    simp only [Nat.add_zero] at hst
    refine ⟨_, hst, ?_⟩
    obtain ⟨h1, h2, h3⟩ := hs.inv.setBox (ds := cs.take off ++ (ds ++ cs.drop (off + ds.length))) hm hg (Chg.setRow w (g.B i k) (vs.take off ++ us ++ vs.drop (off + us.length)).toArray)
      ⟨vs.take off ++ us ++ vs.drop (off + us.length), t, by simpa using setRow_heap w (g.B i k) vs.toArray (vs.take off ++ us ++ vs.drop (off + us.length)).toArray t (0, 0) hh, by simp [hvl, hd], fun j c u hc hu => by
        rw [List.append_assoc] at hu
        by_cases hj1 : j < off
        · rw [List.getElem?_append_left (by simp; omega), List.getElem?_take, if_pos hj1] at hc hu
          exact hvr j c u hc hu
        · rw [List.getElem?_append_right (by simp; omega)] at hc hu
          have e1 : (cs.take off).length = off := by simp; omega
          have e2 : (vs.take off).length = off := by simp; omega
          rw [e1] at hc; rw [e2] at hu
          by_cases hj2 : j - off < ds.length
          · rw [List.getElem?_append_left hj2] at hc
            rw [List.getElem?_append_left (by omega)] at hu
            exact hr _ c u hc hu
          · rw [List.getElem?_append_right (by omega), List.getElem?_drop] at hc
            rw [List.getElem?_append_right (by omega), List.getElem?_drop, hd] at hu
            exact hvr _ c u hc hu⟩
    have e3 : (w.setRow (g.B i k) (vs.take off ++ us ++ vs.drop (off + us.length)).toArray) = w.setRow (g.B i k) ((vs.toArray.toList.take off ++ us ++ vs.toArray.toList.drop (off + us.length)).toArray) := by simp
    rw [← e3]
    have hsim := hs.keep h3.sub h3.cell h2 h1 (setOb_ne hs.ne _ _ _)
    refine ⟨g, hsim.put (x := .und) rfl d, h3, ?_⟩
    rw [put_stores]
    exact h2.mono (by omega)
  · cases hl

theorem storeVar_run {t : TypeId} {n : Nat} {ad : Addr} {v : Value} (hn : sizeT P t = some n) (hv : v.cells.size = n) : (storeVar t ad v).run P w = (storeCells ad v.cells.toList).run P w := by
  simp [storeVar, sizeT_run hn, hv]

theorem sinkCell_sound (hs : Sim P may s a w g) {i : Nat} {x y : AV} {v : Value} {s' : St} (hv : CRep P w g s.stores x v) (hx : x.isCell = true) (h : sinkCell s i x = some (s', y)) :
    ∃ g', Settles P may s a w g s' g' ∧ CRep P w g' s'.stores (y.shift (i + 1)) v := by
  have val : ∀ {y : AV} {s' : St}, resolve1 s x = some (s', y) → ∃ g', Settles P may s a w g s' g' ∧ CRep P w g' s'.stores (y.shift (i + 1)) v := by
    intro y s' h
    obtain ⟨g', q1, q2, q3⟩ := resolve1_sound hs hv h
    refine ⟨g', q1, ?_⟩
    have : y.shift (i + 1) = y := by cases y <;> first | rfl | simp [AV.isVal] at q3
    rw [this]
    exact CRep.of_rep q2 q3
  cases x with
  | arr j k e lo n tot =>
    simp only [sinkCell] at h
    split at h
    · rename_i hj
      simp only [Option.some.injEq, Prod.mk.injEq] at h
      obtain ⟨rfl, rfl⟩ := h
      refine ⟨g, .refl hs, ?_⟩
      simp only [AV.shift]
      rw [Nat.sub_add_cancel hj]
      exact hv
    · exact val h
  | ref j k off =>
    simp only [sinkCell] at h
    split at h
    · rename_i hj
      simp only [Option.some.injEq, Prod.mk.injEq] at h
      obtain ⟨rfl, rfl⟩ := h
      refine ⟨g, .refl hs, ?_⟩
      simp only [AV.shift]
      rw [Nat.sub_add_cancel hj]
      exact hv
    · cases h
  | _ => first | exact val h | (simp [AV.isCell] at hx)

theorem sinkCells_sound (hs : Sim P may s a w g) {i : Nat} {xs ys : List AV} {vs : List Value} {s' : St} (hv : CellsRep P w g s.stores xs vs) (hx : xs.all AV.isCell = true) (h : sinkCells s i xs = some (s', ys)) :
    ∃ g', Settles P may s a w g s' g' ∧ vs.length = ys.length ∧ ∀ (j : Nat) (c : AV) (u : Value), ys[j]? = some c → vs[j]? = some u → CRep P w g' s'.stores (c.shift (i + 1)) u ∧ u.oneCell' = true := by
  induction xs generalizing s g vs ys s' with
  | nil =>
    simp only [sinkCells, Option.some.injEq, Prod.mk.injEq] at h
    obtain ⟨rfl, rfl⟩ := h
    exact ⟨g, .refl hs, hv.1, fun i c u hc => by simp at hc⟩
  | cons x r ih =>
    simp only [sinkCells] at h
    simp only [List.all_cons, Bool.and_eq_true] at hx
    split at h
    · rename_i s1 b h1
      split at h
      · rename_i s2 l h2
        simp only [Option.some.injEq, Prod.mk.injEq] at h
        obtain ⟨rfl, rfl⟩ := h
        cases vs with
        | nil => exact absurd hv.1 (by simp)
        | cons v0 vr =>
          obtain ⟨g1, q1, q2⟩ := sinkCell_sound hs (hv.2 0 x v0 rfl rfl).1 hx.1 h1
          have hv' : CellsRep P w g1 s1.stores r vr := ⟨by simpa using hv.1, fun i c u hc hu => ⟨q1.crep (hv.2 (i + 1) c u (by simpa using hc) (by simpa using hu)).1, (hv.2 (i + 1) c u (by simpa using hc) (by simpa using hu)).2⟩⟩
          obtain ⟨g2, p1, p2, p3⟩ := ih q1.1 hv' hx.2 h2
          refine ⟨g2, q1.trans p1, by simp [p2], fun j c u hc hu => ?_⟩
          cases j with
          | zero => simp at hc hu; subst hc; subst hu; exact ⟨p1.crep q2, (hv.2 0 x v0 rfl rfl).2⟩
          | succ j => exact p3 j c u (by simpa using hc) (by simpa using hu)
      · cases h
    · cases h

theorem flat_set {es : Nat} {us : List Value} (h : ∀ u, u ∈ us → u.cells.size = es) {j : Nat} {u' : Value} (hj : j < us.length) : flat (us.set j u') = (flat us).take (j * es) ++ (u'.cells.toList ++ (flat us).drop ((j + 1) * es)) := by
  have e1 : us.set j u' = us.take j ++ (u' :: us.drop (j + 1)) := by rw [List.set_eq_take_append_cons_drop, if_pos hj]
  rw [e1, flat_append, flat_cons, flat_take h, flat_drop h]

/-- Cells laid into one element of a slice that some frame owns. -/
theorem lay_elem (hs : Sim P may s a w g) (hm : ∀ b, w.heap.size ≤ b → may b) {i k : Nat} {e : TypeId} {xs : List AV} {y y' : AV} {ds : List AV} {vals : List Value} {j off : Nat} (hg : getOb s.stores i k = some (.arr false e xs)) (hy : xs[j]? = some y)
    (hvl : vals.length = ds.length) (hvr : ∀ (m : Nat) (c : AV) (u : Value), ds[m]? = some c → vals[m]? = some u → Rep P w g.M c u) (hdv : ∀ c, c ∈ ds → c.isVal = true) {es : List AV} (hl : layA y.cells off ds = some es)
    (hy' : (aggT P e = some true ∧ y' = .agg es) ∨ es = [y']) (d : Option Nat) :
    ∃ w', (storeCells ⟨g.B i k, j * P.cellsOf e + off, none⟩ vals).run P w = .ok () w' ∧ Leaves P may s w g (St.put { s with stores := setOb s.stores i k (.arr false e (xs.set j y')) } d .und) (a.put d undef) w' := by
  obtain ⟨hmay, hnM, hpos, cur, us0, cap, hh, hcl, hcc, hcapm, hxc, hr0, htk⟩ := hs.inv.arr i k _ xs hg
  have hjx : j < xs.length := (List.getElem?_eq_some_iff.1 hy).1
  have hju : j < us0.length := by rw [hr0.1]; exact hjx
  have hus : us0[j]? = some us0[j] := List.getElem?_eq_getElem hju
  have hry := hr0.2.1 j y _ hy hus
  obtain ⟨hp1, hp2, hp3⟩ := hry.parts
  have hsz : us0[j].cells.size = P.cellsOf e := hr0.2.2 _ (List.getElem_mem hju)
  have hyl : y.cells.length = P.cellsOf e := by rw [← hp1]; simpa using hsz
  have hones : ∀ v, v ∈ vals → v.oneCell' = true := by
    intro v hv
    obtain ⟨m, hm', rfl⟩ := List.getElem_of_mem hv
    have hmd : m < ds.length := by omega
    exact (hvr m ds[m] vals[m] (by simp [hmd]) (by simp [hm'])).oneCell (hdv _ (List.getElem_mem hmd))
  unfold layA at hl
  split at hl
  · rename_i hle
    simp only [Option.some.injEq] at hl
    have hl0 : (flat us0).length = xs.length * P.cellsOf e := hr0.len
    have hxcap : xs.length * P.cellsOf e ≤ cur.length := by rw [hcl, hcc]; exact Nat.mul_le_mul_right _ hxc
    have hj1 : (j + 1) * P.cellsOf e ≤ xs.length * P.cellsOf e := Nat.mul_le_mul_right _ hjx
    have hj2 : (j + 1) * P.cellsOf e = j * P.cellsOf e + P.cellsOf e := by rw [Nat.add_mul]; omega
    have hst := run_storeCells_at P (g.B i k) (j * P.cellsOf e + off) e vals 0 cur.toArray w hh (by simp; omega) hones
    simp only [Nat.add_zero] at hst
    refine ⟨_, hst, ?_⟩
    -- the element's new value
    have hel : es.length = P.cellsOf e := by rw [← hl]; simp; omega
    have hcells : ∀ (m : Nat) (c : AV) (u : Value), es[m]? = some c → (us0[j].cells.toList.take off ++ (vals ++ us0[j].cells.toList.drop (off + vals.length)))[m]? = some u → Rep P w g.M c u ∧ c.isVal = true := by
      intro m c u hc hu
      rw [← hl] at hc
      have e1 : (y.cells.take off).length = off := by simp; omega
      have e2 : (us0[j].cells.toList.take off).length = off := by simp; omega
      by_cases hm1 : m < off
      · rw [List.getElem?_append_left (by omega), List.getElem?_take, if_pos hm1] at hc hu
        exact ⟨hp2 m c u hc hu, hp3 c (List.mem_of_getElem? hc)⟩
      · rw [List.getElem?_append_right (by omega)] at hc hu
        rw [e1] at hc; rw [e2] at hu
        by_cases hm2 : m - off < ds.length
        · rw [List.getElem?_append_left hm2] at hc
          rw [List.getElem?_append_left (by omega)] at hu
          exact ⟨hvr _ c u hc hu, hdv c (List.mem_of_getElem? hc)⟩
        · rw [List.getElem?_append_right (by omega), List.getElem?_drop] at hc
          rw [List.getElem?_append_right (by omega), List.getElem?_drop, hvl] at hu
          exact ⟨hp2 _ c u hc hu, hp3 c (List.mem_of_getElem? hc)⟩
    have hnl : (us0[j].cells.toList.take off ++ (vals ++ us0[j].cells.toList.drop (off + vals.length))).length = P.cellsOf e := by simp; omega
    have hu' : ∃ u' : Value, Rep P w g.M y' u' ∧ u'.cells.toList = us0[j].cells.toList.take off ++ (vals ++ us0[j].cells.toList.drop (off + vals.length)) := by
      generalize us0[j].cells.toList.take off ++ (vals ++ us0[j].cells.toList.drop (off + vals.length)) = nv at hcells hnl
      rcases hy' with ⟨_, rfl⟩ | he1
      · refine ⟨.agg nv.toArray, .agg (by omega) (fun m c u hc hu => (hcells m c u hc hu).1) fun c hc => ?_, by simp [Value.cells]⟩
        obtain ⟨m, hm', rfl⟩ := List.getElem_of_mem hc
        exact (hcells m es[m] (nv[m]'(by omega)) (by simp [hm']) (by simp)).2
      · rw [he1] at hel
        simp at hel
        match nv, hnl with
        | [u], _ =>
          have h0 := hcells 0 y' u (by rw [he1]; rfl) rfl
          exact ⟨u, h0.1, by rw [cells_of_one (h0.1.oneCell h0.2)]⟩
        | [], hh => simp at hh; omega
        | _ :: _ :: _, hh => simp at hh; omega
    obtain ⟨u', hru, huc⟩ := hu'
    have hfr := (Chg.setRow w (g.B i k) (cur.take (j * P.cellsOf e + off) ++ vals ++ cur.drop (j * P.cellsOf e + off + vals.length)).toArray).fr hs.inv hm hmay hnM
    have hrset : RepL P w g.M e (xs.set j y') (us0.set j u') := by
      refine ⟨by simp [hr0.1], fun m x u hx hu => ?_, fun u hu => ?_⟩
      · by_cases hmj : j = m
        · subst hmj
          rw [List.getElem?_set_self hjx] at hx
          rw [List.getElem?_set_self hju] at hu
          simp only [Option.some.injEq] at hx hu
          subst hx; subst hu; exact hru
        · rw [List.getElem?_set_ne hmj] at hx hu
          exact hr0.2.1 m x u hx hu
      · rcases List.mem_or_eq_of_mem_set hu with hu | rfl
        · exact hr0.2.2 u hu
        · have : u.cells.toList.length = P.cellsOf e := by rw [huc]; exact hnl
          simpa using this
    refine leave_arr hs hm hg (b := g.B i k) (c0 := g.C i k) (Chg.setRow w _ _) (by simp) (.inl ⟨rfl, rfl⟩)
      ⟨cur.take (j * P.cellsOf e + off) ++ vals ++ cur.drop (j * P.cellsOf e + off + vals.length), us0.set j u', cap, ?_, ?_, hcc, hcapm, by simpa using hxc, ?_, ?_⟩ rfl
    · have := setRow_heap w (g.B i k) cur.toArray (cur.take (j * P.cellsOf e + off) ++ vals ++ cur.drop (j * P.cellsOf e + off + vals.length)).toArray e (0, 0) hh
      simpa using this
    · rw [← hcl]; simp; omega
    · have := hrset.mono hfr.sub hfr.cell
      simpa using this
    · rw [flat_set hr0.2.2 hju, huc, List.length_set, ← htk]
      have hfj : us0[j].cells.toList = ((flat us0).drop (j * P.cellsOf e)).take (P.cellsOf e) := by
        rw [← flat_drop hr0.2.2, List.drop_eq_getElem_cons hju, flat_cons, List.take_append_of_le_length (by simp [hsz]), List.take_of_length_le (by simp [hsz])]
      rw [hfj, ← htk, hj2]
      exact splice_elem cur vals _ _ _ off (by omega) hxcap (by omega)
  · cases hl

theorem storeA_sound (hs : Sim P may s a w g) (hm : ∀ b, w.heap.size ≤ b → may b) {s' : St} {d : Option Nat} {t : TypeId} {p x : AV} {u v : Value} (hp : HRep P w g s.stores p u) (hv : HRep P w g s.stores x v) (h : storeA P s d t p x = some s') :
    ∃ w', (Instr.storeAt t u v).run P w = .ok () w' ∧ Leaves P may s w g s' (a.put d undef) w' := by
  unfold storeA at h
  split at h
  · cases h
  rename_i n hn
  split at h
  · rename_i hc
    have hcr := hv.cellsRep hc.2
    have hvs : v.cells.size = n := by
      have := hcr.1
      simp only [Array.length_toList] at this
      rw [this, hc.1]
    have hrun : ∀ ad w', (storeCells ad v.cells.toList).run P w = .ok () w' → u = .pointer (some ad) → (Instr.storeAt t u v).run P w = .ok () w' := by
      rintro ad w' hst rfl
      simp [Instr.storeAt, Instr.sureAddr, storeVar_run hn hvs, hst]
    split at h
    · rename_i k off
      split at h
      · rename_i cs hg
        split at h
        · rename_i ds hl
          simp only [Option.some.injEq] at h; subst h
          obtain ⟨_, rfl⟩ := hp.inv_ref
          obtain ⟨w', hst, hlv⟩ := leave_box hs hm hg hl hcr.1 (fun j c u hc hu => by rw [AV.shift_zero]; exact hcr.2 j c u hc hu) d
          exact ⟨w', hrun _ w' hst rfl, hlv⟩
        · cases h
      · cases h
    · rename_i i k off
      split at h
      · rename_i s1 vs hsk
        split at h
        · rename_i cs hg
          split at h
          · rename_i ds hl
            simp only [Option.some.injEq] at h; subst h
            obtain ⟨g1, q1, q2, q3⟩ := sinkCells_sound hs hcr hc.2 hsk
            obtain ⟨⟨cs0, hg0⟩, rfl⟩ := hp.inv_ref
            have hB : g1.B (i + 1) k = g.B (i + 1) k := (q1.2.2.1.box (i + 1) k cs0 (Nat.zero_le _) hg0).2
            obtain ⟨w', hst, hlv⟩ := leave_box q1.1 hm hg hl q2 q3 d
            rw [hB] at hst
            exact ⟨w', hrun _ w' hst rfl, q1.leaves hlv⟩
          · cases h
        · cases h
      · cases h
    · rename_i i k e tot j off
      split at h
      · rename_i s1 vs hrs
        split at h
        · rename_i e' xs hg
          split at h
          · rename_i hcond
            obtain ⟨hxt, rfl⟩ := hcond
            obtain ⟨g1, q1, q2, q3, q4⟩ := resolveL_sound hs hcr hrs
            obtain ⟨fz, xs0, hg0, ht, hq⟩ := (q1.hrep (S := s.stores) hp)
            rw [hg] at hg0
            simp only [Option.some.injEq, Ob.arr.injEq] at hg0
            obtain ⟨rfl, _, rfl⟩ := hg0
            obtain ⟨hj, rfl⟩ := hq hxt
            split at h
            · rename_i y hy
              split at h
              · rename_i ds hl ha
                simp only [Option.some.injEq] at h; subst h
                obtain ⟨w', hst, hlv⟩ := lay_elem q1.1 hm hg hy q2 q3 q4 hl (.inl ⟨ha, rfl⟩) d
                exact ⟨w', hrun _ w' hst rfl, q1.leaves hlv⟩
              · rename_i c hl ha
                simp only [Option.some.injEq] at h; subst h
                obtain ⟨w', hst, hlv⟩ := lay_elem q1.1 hm hg hy q2 q3 q4 hl (.inr rfl) d
                exact ⟨w', hrun _ w' hst rfl, q1.leaves hlv⟩
              · cases h
            · cases h
          · cases h
        · cases h
      · cases h
    · cases h
  · cases h

/-! ### Bytes out of strings; bytes that a string may share -/
theorem Leaves.put_rep {w' : World} (hs : Sim P may s a w g) (hm : ∀ b, w.heap.size ≤ b → may b) (hx : Ext w w') {M' : Nat → Nat → Prop} (hM : ∀ b o, g.M b o → M' b o) (hMn : ∀ b o, M' b o → ¬ g.M b o → w.heap.size ≤ b ∧ b < w'.heap.size) {x : AV} {v : Value} (hr : Rep P w' M' x v) (d : Option Nat) :
    Leaves P may s w g (s.put d x) (a.put d v) w' := by
  have hcell : ∀ b o, g.M b o → w'.cell? ⟨b, o, none⟩ = w.cell? ⟨b, o, none⟩ := fun b o h => hx.cell (hs.inv.mlt b o h) o
  let g' : Gh := { g with M := M' }
  have hkp : Kp 0 s.stores g s.stores g' := ⟨fun i k cs _ h => ⟨⟨cs, h⟩, rfl⟩, fun i k fz e xs _ h => ⟨fz, xs, h, Nat.le_refl _, fun _ => ⟨rfl, fun hf => ⟨hf, rfl⟩⟩⟩⟩
  have hnew : ∀ b o, b < w.heap.size → M' b o → g.M b o := fun b o hb h => Classical.byContradiction fun hn => by have := (hMn b o h hn).1; omega
  have hinv : SInv P w' g' may s.stores := by
    refine ⟨fun i k cs h => ?_, fun i k e xs h => ?_, fun i k e xs h => ?_, fun i k o i' k' o' h h' => hs.inv.inj i k o i' k' o' h h', fun b o h => ?_⟩
    · obtain ⟨h1, h2, vs, t, h3, h4, h5⟩ := hs.inv.box i k cs h
      exact ⟨h1, fun o ho => h2 o (hnew _ o (lt_of_heap h3) ho), vs, t, by rw [hx.heap _ (lt_of_heap h3)]; exact h3, h4, fun j c u hc hu => ⟨CRep.keep (g := g) (g' := g') (S := s.stores) hM hcell hkp (AV.from_zero _) (h5 j c u hc hu).1, (h5 j c u hc hu).2⟩⟩
    · obtain ⟨h1, h2, he, cur, us, cap, h3, h4, h5, h6, h7, h8, h9⟩ := hs.inv.arr i k e xs h
      exact ⟨h1, fun o ho => h2 o (hnew _ o (lt_of_heap h3) ho), he, cur, us, cap, by rw [hx.heap _ (lt_of_heap h3)]; exact h3, h4, h5, h6, h7, h8.mono hM hcell, h9⟩
    · obtain ⟨he, us, hr, hc⟩ := hs.inv.fz i k e xs h
      exact ⟨he, us, hr.mono hM hcell, fun m cv hm => ⟨(hcell _ _ (hc m cv hm).2).trans (hc m cv hm).1, hM _ _ (hc m cv hm).2⟩⟩
    · by_cases hg : g.M b o
      · exact Nat.lt_of_lt_of_le (hs.inv.mlt b o hg) hx.size
      · exact (hMn b o h hg).2
  have hsim : Sim P may s a w' g' := hs.keep hM hcell hkp hinv hs.ne
  refine ⟨g', hsim.put (HRep.of_rep hr) d, ⟨hx.os, hx.tape, hx.output, hx.size, fun b hb => hx.heap b (Nat.lt_of_not_le fun hh => hb (hm b hh)), hM, hcell, fun b o hb h => hnew b o (Nat.lt_of_not_le fun hh => hb (hm b hh)) h⟩, ?_⟩
  rw [put_stores]
  exact hkp.mono (by omega)
end
end Go.AbsM
