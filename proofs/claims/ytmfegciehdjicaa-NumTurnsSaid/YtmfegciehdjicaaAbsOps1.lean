/-
  The abstract machine: addresses, loads, cuts, conversions, comparisons, parts of structs: what reads memory and changes nothing.
-/
import Derived.Test.YtmfegciehdjicaaAbsMem
set_option linter.unusedVariables false
set_option linter.unusedSimpArgs false
namespace Go.AbsM

section
variable {P : Program} {w : World} {g : Gh} {may : Nat → Prop} {s : St}

theorem Rep.parts {M : Nat → Nat → Prop} {a : AV} {u : Value} (h : Rep P w M a u) :
    u.cells.toList.length = a.cells.length ∧ (∀ (j : Nat) (c : AV) (v : Value), a.cells[j]? = some c → u.cells.toList[j]? = some v → Rep P w M c v) ∧ ∀ c, c ∈ a.cells → c.isVal = true := by
  have single : ∀ (a : AV) (u : Value), Rep P w M a u → a.isVal = true → a.cells = [a] → u.cells.toList.length = a.cells.length ∧ (∀ (j : Nat) (c : AV) (v : Value), a.cells[j]? = some c → u.cells.toList[j]? = some v → Rep P w M c v) ∧ ∀ c, c ∈ a.cells → c.isVal = true := by
    intro a u h hv hc
    have hone := h.oneCell hv
    have hcl : u.cells = #[u] := by cases u <;> simp_all [Value.cells, Value.oneCell']
    rw [hc, hcl]
    refine ⟨rfl, fun j c v h1 h2 => ?_, fun c hc => by simp at hc; subst hc; exact hv⟩
    cases j with
    | zero => simp at h1 h2; subst h1; subst h2; exact h
    | succ j => simp at h1
  cases h with
  | x h => exact single _ _ (.x h) rfl rfl
  | str => exact single _ _ .str rfl rfl
  | nils => exact single _ _ .nils rfl rfl
  | cap0 => exact single _ _ .cap0 rfl rfl
  | sl h1 h2 h3 h4 h5 h6 h7 h8 => exact single _ _ (.sl h1 h2 h3 h4 h5 h6 h7 h8) rfl rfl
  | agg hl hr hv =>
    refine ⟨by simpa [Value.cells, AV.cells] using hl, fun j c v h1 h2 => hr j c v h1 (by simpa [Value.cells] using h2), hv⟩

theorem fwd_sound {n : Nat} {p p' : AV} {v : Value} (hv : HRep P w g s.stores p v) (h : s.fwd n p = some p') : ∃ b o, v = .pointer (some ⟨b, o, none⟩) ∧ HRep P w g s.stores p' (.pointer (some ⟨b, o + n, none⟩)) := by
  cases p with
  | ref i k off =>
    simp only [St.fwd, Option.some.injEq] at h; subst h
    obtain ⟨hb, rfl⟩ := hv.inv_ref
    exact ⟨_, _, rfl, hb, rfl⟩
  | efz cs off =>
    simp only [St.fwd, Option.some.injEq] at h; subst h
    obtain ⟨b, o, vs, rfl, h1, h2, h3, h4⟩ := hv
    exact ⟨_, _, rfl, b, o, vs, by rw [Nat.add_assoc], h1, h2, h3, h4⟩
  | ear i k e tot j off =>
    obtain ⟨fz, xs, hg, ht, hq⟩ := hv
    simp only [St.fwd, hg] at h
    split at h
    · rename_i hl
      simp only [Option.some.injEq] at h; subst h
      obtain ⟨hj, rfl⟩ := hq hl
      exact ⟨_, _, rfl, fz, xs, hg, ht, fun _ => ⟨hj, by rw [Nat.add_assoc]⟩⟩
    · cases h
  | _ => simp [St.fwd] at h

theorem fieldAddr_sound {t : TypeId} {fields : Array Field} {f : Nat} {fd : Field} {m : Nat} {p p' : AV} {v : Value} (hu : P.underlying t = some (.struct fields)) (hf : fields[f]? = some fd) (hm : sizeT P fd.type = some (m + 1))
    (hv : HRep P w g s.stores p v) (h : s.fwd fd.offset p = some p') : ∃ r, (Instr.fieldAt t v f).run P w = .ok r w ∧ HRep P w g s.stores p' r := by
  obtain ⟨b, o, rfl, hr⟩ := fwd_sound hv h
  refine ⟨_, ?_, hr⟩
  simp [Instr.fieldAt, run_underlying hu, hf, Instr.sureAddr, fieldPlace, sizeT_run hm, Addr.add_lit]

theorem indexAddrA_sound (hi : SInv P w g may s.stores) {t : TypeId} {p p' : AV} {v : Value} {k : IntKind} {i : Int} (hv : HRep P w g s.stores p v) (h : indexAddrA P s t p i = some p') :
    ∃ r, (Instr.indexAt t v (.int k i)).run P w = .ok r w ∧ HRep P w g s.stores p' r := by
  unfold indexAddrA at h
  split at h
  · rename_i e hu
    split at h
    · rename_i h0
      split at h
      · rename_i e' xs
        split at h
        · rename_i he
          subst he
          split at h
          · rename_i a ha
            simp only [Option.some.injEq] at h; subst h
            obtain ⟨A, c, us, rfl, h1, h2, hpos, hr, hA⟩ := hv.inv_sl
            have hlt : i.toNat < xs.length := (List.getElem?_eq_some_iff.1 ha).1
            obtain ⟨b, o, rfl, hj⟩ := hA (by rintro rfl; simp at hlt)
            have hlu : i.toNat < us.length := by rw [hr.1]; exact hlt
            have hus : us[i.toNat]? = some us[i.toNat] := List.getElem?_eq_getElem hlu
            have hsz : us[i.toNat].cells.size = P.cellsOf e' := hr.2.2 _ (List.getElem_mem hlu)
            have hra := hr.2.1 i.toNat a _ ha hus
            have hcs : ∃ n, sizeT P e' = some n := by
              unfold sizeT
              cases hinf : P.info? e' with
              | none => simp [Program.cellsOf, hinf] at hpos
              | some i => exact ⟨_, rfl⟩
            obtain ⟨n, hn⟩ := hcs
            have hn' := sizeT_cells hn
            refine ⟨.pointer (some ⟨b, o + i.toNat * P.cellsOf e', none⟩), ?_, ?_⟩
            · have hil : i < (xs.length : Int) := by omega
              simp [Instr.indexAt, asIntOf, run_underlying hu, h0, hil, sizeT_run hn, Addr.add_lit, hn']
            · -- the element's cells
              have hcell : ∀ (j : Nat) (u : Value), us[i.toNat].cells.toList[j]? = some u → w.cell? ⟨b, o + i.toNat * P.cellsOf e' + j, none⟩ = some u ∧ g.M b (o + i.toNat * P.cellsOf e' + j) := by
                intro j u hju
                have hj' : j < P.cellsOf e' := by
                  have := (List.getElem?_eq_some_iff.1 hju).1
                  simpa [hsz] using this
                have := flat_at hr.2.2 hus hj'
                rw [Nat.add_assoc]
                exact hj _ u (by rw [this]; simpa using hju)
              obtain ⟨hl, hrr, hval⟩ := hra.parts
              exact ⟨b, o + i.toNat * P.cellsOf e', us[i.toNat].cells.toList, rfl, hl, hrr, hval, hcell⟩
          · cases h
        · cases h
      · rename_i j k' e' lo n tot
        split at h
        · rename_i he
          obtain ⟨rfl, hin⟩ := he
          split at h
          · rename_i xs hx
            simp only [Option.some.injEq] at h; subst h
            obtain ⟨fz, ys, hg, ht, hq, _⟩ := hv.inv_arr
            have hl : ys.length = tot := by
              simp only [St.elems, hg] at hx
              split at hx
              · assumption
              · cases hx
            obtain ⟨hln, A, c, rfl, hnc, hcm, hA, hC⟩ := hq hl
            have hcs : ∃ n, sizeT P e' = some n := by
              have hpos : 0 < P.cellsOf e' := by
                cases fz with
                | true => exact (hi.fz j k' e' ys hg).1
                | false => exact (hi.arr j k' e' ys hg).2.2.1
              unfold sizeT
              cases hinf : P.info? e' with
              | none => simp [Program.cellsOf, hinf] at hpos
              | some i => exact ⟨_, rfl⟩
            obtain ⟨m, hn⟩ := hcs
            have hn' := sizeT_cells hn
            rw [hA (.inr (by omega))]
            refine ⟨.pointer (some ⟨g.B j k', lo * P.cellsOf e' + i.toNat * P.cellsOf e', none⟩), ?_, fz, ys, hg, ht, fun _ => ⟨by omega, by rw [Nat.add_mul, Nat.add_zero]⟩⟩
            simp [Instr.indexAt, asIntOf, run_underlying hu, h0, hin, sizeT_run hn, Addr.add_lit, hn']
          · cases h
        · cases h
      · cases h
    · cases h
  · rename_i len e hu
    split at h
    · rename_i n hn
      split at h
      · rename_i hb
        obtain ⟨b, o, rfl, hr⟩ := fwd_sound hv h
        refine ⟨_, ?_, hr⟩
        simp [Instr.indexAt, asIntOf, run_underlying hu, Instr.sureAddr, hb.1, hb.2, sizeT_run hn, Addr.add_lit]
      · cases h
    · cases h
  · cases h

/-- A run of cells in memory, as loadVar reads it. -/
theorem loadVar_run {t : TypeId} {cs : List AV} {vs : List Value} {off : Nat} {r : AV} {b o : Nat} {S : List Store} {w0 : World} (hc : CellsRep P w0 g S cs vs) (hm : ∀ (j : Nat) (u : Value), vs[j]? = some u → w.cell? ⟨b, o + j, none⟩ = some u)
    (h : partA P t cs off = some r) : ∃ v, (loadVar t ⟨b, o + off, none⟩).run P w = .ok v w ∧ HRep P w0 g S r v := by
  unfold partA at h
  split at h
  · rename_i n hn ha
    split at h
    · rename_i hl
      simp only [Option.some.injEq] at h; subst h
      refine ⟨.agg ((vs.drop off).take n).toArray, ?_, HRep.mk_agg ((hc.drop off).take n)⟩
      have hlen : ((vs.drop off).take n).length = n := by simp [hc.1]; omega
      have hld := run_loadCells_list (P := P) w ⟨b, o + off, none⟩ ((vs.drop off).take n) (fun j v hj => by
        rw [Addr.add_lit]
        rw [List.getElem?_take] at hj
        split at hj
        · rw [List.getElem?_drop] at hj
          rw [Nat.add_assoc]
          exact hm _ v hj
        · cases hj)
      rw [hlen] at hld
      simp [loadVar, aggT_run ha, sizeT_run hn, hld]
    · cases h
  · rename_i n hn ha
    have hlt : off < cs.length := by
      rcases Nat.lt_or_ge off cs.length with h1 | h1
      · exact h1
      · rw [List.getElem?_eq_none h1] at h; cases h
    have hlv : off < vs.length := by rw [hc.1]; exact hlt
    refine ⟨vs[off], ?_, HRep.of_cell (hc.2 off r vs[off] h (List.getElem?_eq_getElem hlv)).1⟩
    have := hm off vs[off] (List.getElem?_eq_getElem hlv)
    simp [loadVar, aggT_run ha, this]
  · cases h

theorem partA_map {t : TypeId} {cs : List AV} {off : Nat} {r : AV} (f : AV → AV) (h : partA P t cs off = some r) :
    (∃ ds, r = .agg ds ∧ partA P t (cs.map f) off = some (.agg (ds.map f))) ∨ (cs[off]? = some r ∧ partA P t (cs.map f) off = some (f r)) := by
  unfold partA at h
  split at h
  · rename_i n hn ha
    split at h
    · rename_i hl
      simp only [Option.some.injEq] at h; subst h
      exact .inl ⟨_, rfl, by simp [partA, hn, ha, hl]⟩
    · cases h
  · rename_i n hn ha
    exact .inr ⟨h, by simp [partA, hn, ha, h]⟩
  · cases h

theorem loadA_sound (hi : SInv P w g may s.stores) {t : TypeId} {p r : AV} {v : Value} (hv : HRep P w g s.stores p v) (h : loadA P s t p = some r) : ∃ u, (Instr.loadAt t v).run P w = .ok u w ∧ HRep P w g s.stores r u := by
  unfold loadA at h
  split at h
  · rename_i i k off
    split at h
    · rename_i cs hg
      obtain ⟨_, rfl⟩ := hv.inv_ref
      obtain ⟨_, _, vs, tt, hh, hl, hr⟩ := hi.box i k cs hg
      obtain ⟨r', hp, rfl⟩ := Option.map_eq_some_iff.1 h
      have hc : CellsRep P w g s.stores (cs.map (AV.shift i)) vs := ⟨by simpa using hl, fun j c u h1 h2 => by
        simp only [List.getElem?_map, Option.map_eq_some_iff] at h1
        obtain ⟨c0, h1, rfl⟩ := h1
        exact hr j c0 u h1 h2⟩
      have hm : ∀ (j : Nat) (u : Value), vs[j]? = some u → w.cell? ⟨g.B i k, 0 + j, none⟩ = some u := fun j u hu => by
        rw [Nat.zero_add, cell_of_row w (g.B i k) j vs.toArray tt (0, 0) hh]
        simpa using hu
      rcases partA_map (AV.shift i) hp with ⟨ds, rfl, hp'⟩ | ⟨hin, hp'⟩
      · obtain ⟨u, hrun, hu⟩ := loadVar_run hc hm hp'
        rw [Nat.zero_add] at hrun
        exact ⟨u, by simp [Instr.loadAt, Instr.sureAddr, hrun], hu⟩
      · obtain ⟨u, hrun, hu⟩ := loadVar_run hc hm hp'
        rw [Nat.zero_add] at hrun
        refine ⟨u, by simp [Instr.loadAt, Instr.sureAddr, hrun], ?_⟩
        have : shiftCells i r' = r'.shift i := by
          have hlt : off < vs.length := by rw [hl]; exact (List.getElem?_eq_some_iff.1 hin).1
          have hx := (hr off _ vs[off] hin (List.getElem?_eq_getElem hlt)).1
          cases r' <;> first | rfl | exact hx.elim
        rw [this]
        exact hu
    · cases h
  · rename_i cs off
    obtain ⟨b, o, vs, rfl, hl, hr, hval, hcell⟩ := hv
    have hc : CellsRep P w g s.stores cs vs := ⟨hl, fun j c u h1 h2 => ⟨CRep.of_rep (hr j c u h1 h2) (hval c (List.mem_of_getElem? h1)), (hr j c u h1 h2).oneCell (hval c (List.mem_of_getElem? h1))⟩⟩
    obtain ⟨u, hrun, hu⟩ := loadVar_run hc (fun j u hj => (hcell j u hj).1) h
    exact ⟨u, by simp [Instr.loadAt, Instr.sureAddr, hrun], hu⟩
  · rename_i i k e tot j off
    split at h
    · rename_i fz e' xs hg
      split at h
      · rename_i hl
        split at h
        · rename_i y hy
          obtain ⟨fz', xs', hg', ht, hq⟩ := hv
          rw [hg] at hg'
          simp only [Option.some.injEq, Ob.arr.injEq] at hg'
          obtain ⟨rfl, rfl, rfl⟩ := hg'
          obtain ⟨hj, rfl⟩ := hq hl
          -- the element's value and cells
          have key : ∀ us : List Value, RepL P w g.M e' xs us → (∀ (m : Nat) (cv : Value), (flat us)[m]? = some cv → w.cell? ⟨g.B i k, m, none⟩ = some cv) → ∃ u, (Instr.loadAt t (.pointer (some ⟨g.B i k, j * P.cellsOf e' + off, none⟩))).run P w = .ok u w ∧ HRep P w g s.stores r u := by
            intro us hr hcell
            have hlu : j < us.length := by rw [hr.1]; omega
            have hus : us[j]? = some us[j] := List.getElem?_eq_getElem hlu
            have hra := hr.2.1 j y _ hy hus
            obtain ⟨h1, h2, h3⟩ := hra.parts
            have hc : CellsRep P w g s.stores y.cells us[j].cells.toList := ⟨h1, fun m c u hc hu => ⟨CRep.of_rep (h2 m c u hc hu) (h3 c (List.mem_of_getElem? hc)), (h2 m c u hc hu).oneCell (h3 c (List.mem_of_getElem? hc))⟩⟩
            have hm : ∀ (m : Nat) (u : Value), us[j].cells.toList[m]? = some u → w.cell? ⟨g.B i k, j * P.cellsOf e' + m, none⟩ = some u := by
              intro m u hmu
              have hm' : m < P.cellsOf e' := by
                have h5 := (List.getElem?_eq_some_iff.1 hmu).1
                have h6 := hr.2.2 _ (List.getElem_mem hlu)
                simp only [Array.length_toList] at h5
                omega
              have := flat_at hr.2.2 hus hm'
              exact hcell _ u (by rw [this]; simpa using hmu)
            obtain ⟨u, hrun, hu⟩ := loadVar_run hc hm h
            exact ⟨u, by simp [Instr.loadAt, Instr.sureAddr, hrun], hu⟩
          cases fz with
          | true =>
            obtain ⟨he, us, hr, hcell⟩ := hi.fz i k e' xs hg
            exact key us hr fun m cv hm => (hcell m cv hm).1
          | false =>
            obtain ⟨_, _, he, cur, us, cap, hh, _, _, _, _, hr, htake⟩ := hi.arr i k e' xs hg
            refine key us hr fun m cv hm => ?_
            rw [← htake, List.getElem?_take] at hm
            split at hm
            · rw [cell_of_row w (g.B i k) m cur.toArray e' (0, 0) hh]
              simpa using hm
            · cases hm
        · cases h
      · cases h
    · cases h
  · cases h
end
end Go.AbsM
