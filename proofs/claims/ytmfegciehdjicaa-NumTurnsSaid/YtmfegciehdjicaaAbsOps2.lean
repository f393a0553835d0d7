/-
  The abstract machine: cuts of slices and strings.
-/
import Derived.Test.YtmfegciehdjicaaAbsOps1
set_option linter.unusedVariables false
set_option linter.unusedSimpArgs false
namespace Go.AbsM

section
variable {P : Program} {w : World} {g : Gh} {may : Nat → Prop} {s : St} {a : Act}

/-- A bound as the machine takes it. -/
theorem boundA_some {d most : Nat} {o : Operand} {n : Nat} (hs : Sim P may s a w g) (h : boundA s d most (some o) = some n) : ∃ k i, a.eval o = .int k i ∧ 0 ≤ i ∧ i ≤ most ∧ n = i.toNat := by
  simp only [boundA] at h
  split at h
  · rename_i k i he
    split at h
    · rename_i hb
      simp only [Option.some.injEq] at h
      obtain ⟨e1, _⟩ := (hs.evalO he).inv_x
      exact ⟨k, i, e1, hb.1, hb.2, h.symm⟩
    · cases h
  · cases h

theorem boundA_le {d most : Nat} {o : Option Operand} {n : Nat} (hs : Sim P may s a w g) (h : boundA s d most o = some n) (hd : d ≤ most) : n ≤ most := by
  cases o with
  | none => simp [boundA] at h; omega
  | some o =>
    obtain ⟨k, i, _, h0, h1, rfl⟩ := boundA_some hs h
    omega

theorem sliceBound_run {k : IntKind} {i : Int} {y : Nat} (c : BoundsCode) (h0 : 0 ≤ i) (h1 : i ≤ y) : (Instr.sliceBound (.int k i) y c).run P w = .ok i.toNat w := by
  simp [Instr.sliceBound, asIntOf, h0, h1]

theorem sliceBounds_plain {isS : Bool} {len cap : Nat} {lo hi : Option Operand} {h l : Nat} (hs : Sim P may s a w g) (hlc : len ≤ cap) (hh : boundA s len len hi = some h) (hl : boundA s 0 h lo = some l) :
    (Instr.sliceBounds isS len cap (lo.map a.eval) (hi.map a.eval) none).run P w = .ok (l, h, cap) w := by
  have fin : ∀ x : Option Value, (match x, (none : Option Value) with
      | some v, some _ => Instr.sliceBound v cap .slice3B
      | some v, none => Instr.sliceBound v cap (if isS then .sliceAcap else .sliceAlen)
      | none, none => pure len
      | none, some _ => stuck "Slice: max without high").run P w = .ok h w →
      (match (lo.map a.eval) with | some v => Instr.sliceBound v h .sliceB | none => pure 0).run P w = .ok l w → True := fun _ _ _ => trivial
  cases hi with
  | none =>
    simp [boundA] at hh
    subst hh
    cases lo with
    | none => simp [boundA] at hl; subst hl; simp [Instr.sliceBounds]
    | some o =>
      obtain ⟨k, i, he, h0, h1, rfl⟩ := boundA_some hs hl
      simp [Instr.sliceBounds, he, sliceBound_run _ h0 h1]
  | some o1 =>
    obtain ⟨k1, i1, he1, h01, h11, rfl⟩ := boundA_some hs hh
    have h12 : i1 ≤ (cap : Int) := by omega
    cases lo with
    | none => simp [boundA] at hl; subst hl; simp [Instr.sliceBounds, he1, sliceBound_run _ h01 h12]
    | some o =>
      obtain ⟨k, i, he, h0, h1, rfl⟩ := boundA_some hs hl
      simp [Instr.sliceBounds, he, he1, sliceBound_run _ h01 h12, sliceBound_run _ h0 h1]

theorem sliceBounds_max {isS : Bool} {len cap mm : Nat} {lo : Option Operand} {o1 om : Operand} {m h l d d2 : Nat} (hs : Sim P may s a w g) (hmc : mm ≤ cap) (hm : boundA s d2 mm (some om) = some m) (hh : boundA s d m (some o1) = some h) (hl : boundA s 0 h lo = some l) :
    (Instr.sliceBounds isS len cap (lo.map a.eval) ((some o1).map a.eval) ((some om).map a.eval)).run P w = .ok (l, h, m) w := by
  obtain ⟨km, im, hem, h0m, h1m, rfl⟩ := boundA_some hs hm
  have h2m : im ≤ (cap : Int) := by omega
  obtain ⟨k1, i1, he1, h01, h11, rfl⟩ := boundA_some hs hh
  cases lo with
  | none => simp [boundA] at hl; subst hl; simp [Instr.sliceBounds, he1, hem, sliceBound_run _ h0m h2m, sliceBound_run _ h01 h11]
  | some o =>
    obtain ⟨k, i, he, h0, h1, rfl⟩ := boundA_some hs hl
    simp [Instr.sliceBounds, he, he1, hem, sliceBound_run _ h0m h2m, sliceBound_run _ h01 h11, sliceBound_run _ h0 h1]

theorem slice_run {t e : TypeId} {A : Option Addr} {len cap l h m n : Nat} {lo hi mx : Option Value} (hu : P.underlying t = some (.slice e)) (hn : sizeT P e = some n) (hb : (Instr.sliceBounds true len cap lo hi mx).run P w = .ok (l, h, m) w) :
    (Instr.sliceAt t (.slice A len cap) lo hi mx).run P w = .ok (.slice (if m = l then A else A.map (·.add (l * n))) (h - l) (m - l)) w := by
  simp [Instr.sliceAt, Instr.slice, run_underlying hu, hb, sizeT_run hn]

theorem sizeT_of_pos {e : TypeId} (h : 0 < P.cellsOf e) : sizeT P e = some (P.cellsOf e) := by
  unfold sizeT
  cases hinf : P.info? e with
  | none => simp [Program.cellsOf, hinf] at h
  | some i => simp [Program.cellsOf, hinf]

/-- A part of a slice that is read. -/
theorem sl_cut {S : List Store} {e : TypeId} {xs : List AV} {A : Option Addr} {c l h m : Nat} (hv : HRep P w g S (.sl e xs) (.slice A xs.length c)) (hlh : l ≤ h) (hhm : h ≤ m) (hhx : h ≤ xs.length) (hmc : m ≤ c) :
    HRep P w g S (.sl e ((xs.take h).drop l)) (.slice (if m = l then A else A.map (·.add (l * P.cellsOf e))) (h - l) (m - l)) := by
  obtain ⟨A', c', us, heq, h1, h2, hpos, hr, hA⟩ := hv.inv_sl
  injection heq with e1 e2 e3
  subst e1; subst e3
  have hlen : ((xs.take h).drop l).length = h - l := by simp; omega
  refine HRep.of_rep (.sl (us := (us.take h).drop l) hlen.symm (by simp [hr.1]) (by rw [hlen]; omega) (by omega) hpos ((hr.take h).drop l).2.1 ((hr.take h).drop l).2.2 fun hne => ?_)
  have hlt : l < h := by
    rcases Nat.lt_or_ge l h with h3 | h3
    · exact h3
    · exact absurd (List.eq_nil_of_length_eq_zero (by rw [hlen]; omega)) hne
  obtain ⟨b, o, rfl, hj⟩ := hA (by rintro rfl; simp at hhx; omega)
  rw [if_neg (by omega)]
  refine ⟨b, o + l * P.cellsOf e, by simp [Addr.add_lit], fun j cv hcv => ?_⟩
  rw [flat_drop (fun u hu => hr.2.2 u (List.mem_of_mem_take hu)), flat_take hr.2.2, List.getElem?_drop, List.getElem?_take] at hcv
  split at hcv
  · rw [Nat.add_assoc]; exact hj _ cv hcv
  · cases hcv

theorem arr_cut {S : List Store} {i k : Nat} {e : TypeId} {lo n tot : Nat} {A : Option Addr} {c l h m : Nat} {ys : List AV} {fz : Bool} (hv : HRep P w g S (.arr i k e lo n tot) (.slice A n c)) (hg : getOb S i k = some (.arr fz e ys)) (hl : ys.length = tot)
    (hlh : l ≤ h) (hhm : h ≤ m) (hhx : h ≤ n) (hmc : m ≤ c) :
    HRep P w g S (.arr i k e (lo + l) (h - l) tot) (.slice (if m = l then A else A.map (·.add (l * P.cellsOf e))) (h - l) (m - l)) := by
  obtain ⟨fz', xs', hg', ht, hq, _⟩ := hv.inv_arr
  rw [hg] at hg'
  simp only [Option.some.injEq, Ob.arr.injEq] at hg'
  obtain ⟨rfl, _, rfl⟩ := hg'
  refine ⟨fz, ys, hg, ht, fun _ => ?_, rfl⟩
  obtain ⟨hln, A', c', heq, hnc, hcm, hA, hC⟩ := hq hl
  injection heq with e1 e2 e3
  subst e1; subst e3
  refine ⟨by omega, _, _, rfl, by omega, by omega, fun h3 => ?_, fun hf => ?_⟩
  · by_cases hml : m = l
    · rw [if_pos hml]
      have hl0 : l = 0 := by
        rcases h3 with h3 | h3 <;> omega
      subst hl0
      rw [Nat.add_zero]
      exact hA (by rcases h3 with h3 | h3
                   · exact .inl (by omega)
                   · omega)
    · rw [if_neg hml]
      rw [hA (by rcases h3 with h3 | h3
                 · exact .inl (by omega)
                 · exact .inr (by omega))]
      simp [Addr.add_lit, Nat.add_mul]
  · have := hC hf
    refine Nat.le_trans (Nat.mul_le_mul_right _ ?_) this
    omega

theorem sliceA_sound (hs : Sim P may s a w g) {t : TypeId} {x r : AV} {v : Value} {lo hi mx : Option Operand} (hv : HRep P w g s.stores x v) (h : sliceA P s t x lo hi mx = some r) :
    ∃ u, (Instr.sliceAt t v (lo.map a.eval) (hi.map a.eval) (mx.map a.eval)).run P w = .ok u w ∧ HRep P w g s.stores r u := by
  unfold sliceA at h
  split at h
  · rename_i hu
    split at h
    · rename_i l
      split at h
      · rename_i hh hhe
        split at h
        · rename_i b hb
          simp only [Option.some.injEq] at h; subst h
          have e1 := hv.inv_str; subst e1
          have hsz : (⟨l.toArray⟩ : ByteArray).size = l.length := by simp [ByteArray.size]
          have hbd := sliceBounds_plain (isS := false) hs (Nat.le_refl l.length) hhe hb
          refine ⟨_, ?_, HRep.mk_str _⟩
          simp only [Instr.sliceAt, Instr.slice, run_underlying hu, Sem.run_bind, Result.andThen_ok, hsz, Option.map_none, Option.isSome_none, Bool.false_eq_true, if_false, hbd, Sem.run_pure]
          congr 2
          rw [ByteArray.extract_mk]
          congr 2
          rw [List.drop_take]
        · cases h
      · cases h
    · cases h
  · rename_i e hu
    split at h
    · cases h
    rename_i n hn
    have hce := sizeT_cells hn
    split at h
    · -- no third bound
      rename_i hi0
      split at h
      · rename_i e' xs
        split at h
        · rename_i he
          subst he
          split at h
          · rename_i hh hhe
            split at h
            · rename_i b hb
              simp only [Option.some.injEq] at h; subst h
              obtain ⟨A, c, us, rfl, h1, h2, hpos, hr, hA⟩ := hv.inv_sl
              have hle := boundA_le hs hhe (Nat.le_refl _)
              have hlb := boundA_le hs hb (Nat.zero_le _)
              refine ⟨_, slice_run hu hn (sliceBounds_plain (isS := true) hs h1 hhe hb), ?_⟩
              rw [← hce]
              exact sl_cut hv hlb (by omega) hle (Nat.le_refl _)
            · cases h
          · cases h
        · cases h
      · rename_i i k e' lo' n' tot
        split at h
        · rename_i he
          subst he
          split at h
          · rename_i ys hh hx hhe
            split at h
            · rename_i b hb
              simp only [Option.some.injEq] at h; subst h
              obtain ⟨hyl, A, c, us, rfl, h1, h2, hr, hA⟩ := hs.inv.elems hv hx
              obtain ⟨fz, zs, hg, ht, hq, _⟩ := hv.inv_arr
              have hl : zs.length = tot := by
                simp only [St.elems, hg] at hx
                split at hx
                · assumption
                · cases hx
              rw [hyl] at hv h1
              have hle := boundA_le hs hhe (Nat.le_refl _)
              have hlb := boundA_le hs hb (Nat.zero_le _)
              rw [hyl]
              refine ⟨_, slice_run hu hn (sliceBounds_plain (isS := true) hs h1 hhe hb), ?_⟩
              rw [← hce]
              exact arr_cut hv hg hl hlb (by omega) hle (Nat.le_refl _)
            · cases h
          · cases h
        · cases h
      · split at h
        · rename_i hh hhe
          split at h
          · rename_i b hb
            simp only [Option.some.injEq] at h; subst h
            have e1 := hv.inv_nils; subst e1
            have hle := boundA_le hs hhe (Nat.le_refl _)
            have hlb := boundA_le hs hb (Nat.zero_le _)
            refine ⟨_, slice_run hu hn (sliceBounds_plain (isS := true) hs (Nat.le_refl 0) hhe hb), ?_⟩
            have h1 : hh = 0 := by omega
            have h2 : b = 0 := by omega
            subst h1; subst h2
            exact HRep.of_rep .nils
          · cases h
        · cases h
      · split at h
        · rename_i hh hhe
          split at h
          · rename_i b hb
            simp only [Option.some.injEq] at h; subst h
            obtain ⟨A, rfl⟩ := hv.inv_cap0
            have hle := boundA_le hs hhe (Nat.le_refl _)
            have hlb := boundA_le hs hb (Nat.zero_le _)
            refine ⟨_, slice_run hu hn (sliceBounds_plain (isS := true) hs (Nat.le_refl 0) hhe hb), ?_⟩
            have h1 : hh = 0 := by omega
            have h2 : b = 0 := by omega
            subst h1; subst h2
            exact HRep.of_rep .cap0
          · cases h
        · cases h
      · cases h
    · -- three bounds
      rename_i m o1
      split at h
      · split at h
        · rename_i m' hm
          split at h
          · rename_i hh hhe
            split at h
            · rename_i b hb
              simp only [Option.some.injEq] at h; subst h
              have e1 := hv.inv_nils; subst e1
              have hlm := boundA_le hs hm (Nat.le_refl _)
              have hle := boundA_le hs hhe (Nat.zero_le _)
              have hlb := boundA_le hs hb (Nat.zero_le _)
              refine ⟨_, slice_run hu hn (sliceBounds_max (isS := true) (len := 0) hs (Nat.le_refl 0) hm hhe hb), ?_⟩
              have h0 : m' = 0 := by omega
              have h1 : hh = 0 := by omega
              have h2 : b = 0 := by omega
              subst h0; subst h1; subst h2
              exact HRep.of_rep .nils
            · cases h
          · cases h
        · cases h
      · split at h
        · rename_i m' hm
          split at h
          · rename_i hh hhe
            split at h
            · rename_i b hb
              simp only [Option.some.injEq] at h; subst h
              obtain ⟨A, rfl⟩ := hv.inv_cap0
              have hlm := boundA_le hs hm (Nat.le_refl _)
              have hle := boundA_le hs hhe (Nat.zero_le _)
              have hlb := boundA_le hs hb (Nat.zero_le _)
              refine ⟨_, slice_run hu hn (sliceBounds_max (isS := true) (len := 0) hs (Nat.le_refl 0) hm hhe hb), ?_⟩
              have h0 : m' = 0 := by omega
              have h1 : hh = 0 := by omega
              have h2 : b = 0 := by omega
              subst h0; subst h1; subst h2
              exact HRep.of_rep .cap0
            · cases h
          · cases h
        · cases h
      · rename_i e' xs
        split at h
        · rename_i he
          subst he
          split at h
          · rename_i m' hm
            split at h
            · rename_i hh hhe
              split at h
              · rename_i b hb
                obtain ⟨A, c, us, rfl, h1, h2, hpos, hr, hA⟩ := hv.inv_sl
                have hlm := boundA_le hs hm (Nat.zero_le _)
                have hle := boundA_le hs hhe (Nat.zero_le _)
                have hlb := boundA_le hs hb (Nat.zero_le _)
                have hrun := slice_run (A := A) hu hn (sliceBounds_max (isS := true) (len := xs.length) hs h1 hm hhe hb)
                refine ⟨_, hrun, ?_⟩
                split at h
                · simp only [Option.some.injEq] at h; subst h
                  have h1 : hh = 0 := by omega
                  have h2 : b = 0 := by omega
                  subst h1; subst h2
                  exact HRep.of_rep .cap0
                · simp only [Option.some.injEq] at h; subst h
                  rw [← hce]
                  exact sl_cut hv hlb hle (by omega) (by omega)
              · cases h
            · cases h
          · cases h
        · cases h
      · rename_i i k e' lo' n' tot
        split at h
        · rename_i he
          subst he
          split at h
          · rename_i ys m' hx hm
            split at h
            · rename_i hh hhe
              split at h
              · rename_i b hb
                obtain ⟨hyl, A, c, us, rfl, h1, h2, hr, hA⟩ := hs.inv.elems hv hx
                obtain ⟨fz, zs, hg, ht, hq, _⟩ := hv.inv_arr
                have hl : zs.length = tot := by
                  simp only [St.elems, hg] at hx
                  split at hx
                  · assumption
                  · cases hx
                rw [hyl] at hv h1
                have hlm := boundA_le hs hm (Nat.zero_le _)
                have hle := boundA_le hs hhe (Nat.zero_le _)
                have hlb := boundA_le hs hb (Nat.zero_le _)
                rw [hyl]
                have hrun := slice_run (A := A) hu hn (sliceBounds_max (isS := true) (len := n') hs h1 hm hhe hb)
                refine ⟨_, hrun, ?_⟩
                split at h
                · simp only [Option.some.injEq] at h; subst h
                  have h1 : hh = 0 := by omega
                  have h2 : b = 0 := by omega
                  subst h1; subst h2
                  exact HRep.of_rep .cap0
                · simp only [Option.some.injEq] at h; subst h
                  rw [← hce]
                  exact arr_cut hv hg hl hlb hle (by omega) (by omega)
              · cases h
            · cases h
          · cases h
        · cases h
      · cases h
    · cases h
  · cases h
end
end Go.AbsM
