/-
  The typed machine: each operation is the abstract machine's.
-/
import Derived.Test.YtmfegciehdjicaaAbtEmb
set_option linter.unusedVariables false
set_option linter.unusedSimpArgs false
namespace Go.AbsM

theorem need_some {α : Type} {o : Option α} {f : α → Prop} (h : need o f) : ∃ a, o = some a ∧ f a := by
  cases o with
  | none => exact h.elim
  | some a => exact ⟨a, rfl, h⟩
theorem brc_iff {t : Bool} {A B : Prop} : brc t A B ↔ (t = true → A) ∧ (t = false → B) := by
  unfold brc
  cases t <;> simp
theorem grd_iff {t : Bool} {A : Prop} : grd t A ↔ t = true ∧ A := by
  unfold grd
  cases t <;> simp
theorem brc_cases {t : Bool} {A B : Prop} (h : brc t A B) : (t = true ∧ A) ∨ (t = false ∧ B) := by
  obtain ⟨h1, h2⟩ := brc_iff.1 h
  cases t
  · exact .inr ⟨rfl, h2 rfl⟩
  · exact .inl ⟨rfl, h1 rfl⟩

section
variable {P : Program} {R : List Store} {s : TSt}

theorem put_st (d : Option Nat) (v : TV) : (s.put d v).st = s.st := by cases d <;> rfl

theorem constCell_one {v : Value} {a : AV} (h : constCell v = some a) : a.one = a := by
  unfold constCell at h
  split at h <;> cases h <;> rfl
theorem constCells_one : ∀ {l : List Value} {cs : List AV}, constCells l = some cs → cs.map AV.one = cs
  | [], cs, h => by simp [constCells] at h; subst h; rfl
  | v :: r, cs, h => by
    simp only [constCells] at h
    split at h
    · rename_i a l h1 h2
      simp only [Option.some.injEq] at h; subst h
      simp only [List.map_cons, constCell_one h1, constCells_one h2]
    · cases h
theorem constT_emb {v : Value} {a : AV} (h : constAV v = some a) (S : TStore) : (constT a).emb S = a := by
  unfold constAV at h
  split at h
  · simp only [Option.map_eq_some_iff] at h
    obtain ⟨cs, hc, rfl⟩ := h
    show AV.agg ((cs.map TC.a).map (TC.emb S)) = _
    rw [List.map_map]
    congr 1
    exact constCells_one hc
  · have := constCell_one h
    unfold constT
    split
    · rename_i cs; simp [AV.one] at this
    · exact this

theorem evalT_ok {o : Operand} {v : TV} (h : evalT s o = some v) : evalO (s.emb R) o = some (v.emb s.st) := by
  cases o with
  | tmp t => simp only [evalT, Option.some.injEq] at h; subst h; simp only [evalO, emb_get]
  | const c =>
    simp only [evalT, Option.map_eq_some_iff] at h
    obtain ⟨a, ha, rfl⟩ := h
    simp only [evalO, ha, constT_emb ha]
  | _ => cases h

theorem eval1_ok {o : Operand} {K : T1 → Prop} (h : eval1 s o K) : ∃ x, evalT s o = some (.o x) ∧ evalO (s.emb R) o = some (x.emb s.st) ∧ K x := by
  unfold eval1 at h
  split at h
  · rename_i x hx; exact ⟨x, hx, evalT_ok hx, h⟩
  · exact h.elim
theorem evalA_ok {o : Operand} {K : AV → Prop} (h : evalA s o K) : ∃ x, evalO (s.emb R) o = some x.one ∧ K x := by
  unfold evalA at h
  split at h
  · rename_i x hx; exact ⟨x, evalT_ok hx, h⟩
  · exact h.elim
theorem evalI_ok {o : Operand} {K : Int → Prop} (h : evalI s o K) : ∃ k i, evalO (s.emb R) o = some (.x (.int k i)) ∧ K i := by
  unfold evalI at h
  split at h
  · rename_i k i hx; exact ⟨k, i, evalT_ok hx, h⟩
  · exact h.elim
theorem evalOsT_ok {l : List Operand} {K : List T1 → Prop} (h : evalOsT s l K) : ∃ xs, evalOs (s.emb R) l = some (xs.map (T1.emb s.st)) ∧ K xs := by
  induction l generalizing K with
  | nil => exact ⟨[], rfl, h⟩
  | cons o r ih =>
    obtain ⟨x, _, hx, h⟩ := eval1_ok (R := R) h
    obtain ⟨xs, hxs, h⟩ := ih h
    exact ⟨x :: xs, by simp only [evalOs, hx, hxs, List.map_cons], h⟩
theorem partsT_ok {l : List (Nat × Operand)} {K : List (Nat × T1) → Prop} (h : partsT s l K) : ∃ xs, partsA (s.emb R) l = some (xs.map fun p => (p.1, p.2.emb s.st)) ∧ K xs := by
  induction l generalizing K with
  | nil => exact ⟨[], rfl, h⟩
  | cons p r ih =>
    obtain ⟨i, o⟩ := p
    obtain ⟨x, _, hx, h⟩ := eval1_ok (R := R) h
    obtain ⟨xs, hxs, h⟩ := ih h
    exact ⟨(i, x) :: xs, by simp only [partsA, hx, hxs, List.map_cons], h⟩

/-! ### Read only -/
theorem resC_ok {c : TC} {K : TSt → TC → Prop} (h : resC s c K) : ∃ s1 d, resolve1 (s.emb R) (c.emb s.st) = some (s1.emb R, d.emb []) ∧ d.isVal = true ∧ Alike s.st s1.st ∧ K s1 d := by
  unfold resC at h
  split at h
  · rename_i k
    split at h
    · rename_i f e t xs hl
      refine ⟨_, _, ?_, rfl, fz_alike s k, h⟩
      have hsh : shapeT s.st k = some (e, xs.length) := by simp only [shapeT, hl]
      simp only [TC.emb, hsh, resolve1, St.elems, getOb_emb, hl, Option.map_some, TOb.emb, List.length_map, if_true, emb_fz, nlAV, List.drop_zero]
      rw [List.take_of_length_le (by simp)]
    · exact h.elim
  · rename_i k e lo n tot
    split at h
    · rename_i f e' t xs hl
      obtain ⟨ht, h⟩ := grd_iff.1 h
      refine ⟨_, _, ?_, rfl, fz_alike s k, h⟩
      have ht : xs.length = tot := of_decide_eq_true ht
      simp only [TC.emb, AV.one, resolve1, St.elems, getOb_emb, hl, Option.map_some, TOb.emb, List.length_map, ht, if_true, emb_fz, W.take, W.drop, nlAV]
      simp [List.map_take, List.map_drop]
    · exact h.elim
  · exact ⟨s, _, rfl, rfl, fun _ => rfl, h⟩
  · exact ⟨s, _, rfl, rfl, fun _ => rfl, h⟩
  · exact ⟨s, _, rfl, rfl, fun _ => rfl, h⟩
  · exact ⟨s, _, rfl, rfl, fun _ => rfl, h⟩
  · rename_i e t x
    refine ⟨s, _, ?_, rfl, fun _ => rfl, h⟩
    cases x <;> rfl
  · exact h.elim

theorem isVal_empty {c : TC} (h : c.isVal = true) (S : TStore) : c.emb S = c.emb [] := isVal_emb h S []

theorem resCs_ok {cs : List TC} {K : TSt → List TC → Prop} (h : resCs s cs K) : ∃ s1 ds, resolveL (s.emb R) (cs.map (TC.emb s.st)) = some (s1.emb R, ds.map (TC.emb [])) ∧ (∀ d, d ∈ ds → d.isVal = true) ∧ Alike s.st s1.st ∧ ds.length = cs.length ∧ K s1 ds := by
  induction cs generalizing s K with
  | nil => exact ⟨s, [], rfl, (fun d hd => by cases hd), fun _ => rfl, rfl, h⟩
  | cons c r ih =>
    obtain ⟨s1, d, h1, hv, ha, h⟩ := resC_ok (R := R) h
    obtain ⟨s2, ds, h2, hvs, ha2, hl, h⟩ := ih h
    refine ⟨s2, d :: ds, ?_, fun x hx => ?_, fun k => (ha k).trans (ha2 k), by simp [hl], h⟩
    · rw [← ha.tcs r] at h2
      simp only [List.map_cons, resolveL, h1, h2]
    · rcases List.mem_cons.1 hx with rfl | hx
      · exact hv
      · exact hvs x hx

theorem resT_ok {x : T1} {K : TSt → T1 → Prop} (h : resT s x K) : ∃ s1 d, resolve (s.emb R) (x.emb s.st) = some (s1.emb R, d.emb []) ∧ d.noH = true ∧ Alike s.st s1.st ∧ K s1 d := by
  unfold resT at h
  split at h
  · rename_i c
    obtain ⟨s1, d, h1, hv, ha, h⟩ := resC_ok (R := R) h
    refine ⟨s1, .c d, ?_, hv, ha, h⟩
    show resolve (s.emb R) (c.emb s.st) = some (s1.emb R, d.emb [])
    rw [← h1]
    unfold resolve
    split
    · rename_i cs he; exact absurd he ((tc_simple c s.st).1 cs)
    · rfl
  · rename_i cs
    obtain ⟨s1, ds, h1, hv, ha, hl, h⟩ := resCs_ok (R := R) h
    refine ⟨s1, .agg ds, ?_, List.all_eq_true.2 hv, ha, h⟩
    simp only [T1.emb, resolve, h1]
  · exact h.elim

theorem noH_empty {c : T1} (h : c.noH = true) (S : TStore) : c.emb S = c.emb [] := noH_emb h S []

theorem resAllT_ok {cs : List T1} {K : TSt → List T1 → Prop} (h : resAllT s cs K) : ∃ s1 ds, resolveAll (s.emb R) (cs.map (T1.emb s.st)) = some (s1.emb R, ds.map (T1.emb [])) ∧ (∀ d, d ∈ ds → d.noH = true) ∧ Alike s.st s1.st ∧ K s1 ds := by
  induction cs generalizing s K with
  | nil => exact ⟨s, [], rfl, (fun d hd => by cases hd), fun _ => rfl, h⟩
  | cons c r ih =>
    obtain ⟨s1, d, h1, hv, ha, h⟩ := resT_ok (R := R) h
    obtain ⟨s2, ds, h2, hvs, ha2, h⟩ := ih h
    refine ⟨s2, d :: ds, ?_, fun x hx => ?_, fun k => (ha k).trans (ha2 k), h⟩
    · rw [← ha.t1s r] at h2
      simp only [List.map_cons, resolveAll, h1, h2]
    · rcases List.mem_cons.1 hx with rfl | hx
      · exact hv
      · exact hvs x hx

/-! ### Parts -/
theorem t1_cells (x : T1) (S : TStore) (h : ∀ e t xs, x ≠ .own e t xs) : (x.emb S).cells = x.cells.map (TC.emb S) := by
  cases x with
  | c x =>
    show (x.emb S).cells = _
    have := (tc_simple x S).1
    simp only [T1.cells, List.map_cons, List.map_nil]
    cases hx : x.emb S <;> first | rfl | exact absurd hx (this _)
  | agg cs => rfl
  | own e t xs => exact absurd rfl (h e t xs)

theorem partT_ok {t : TypeId} {cs : List TC} {off : Nat} {K : T1 → Prop} (S : TStore) (h : partT P t cs off K) : ∃ x, partA P t (cs.map (TC.emb S)) off = some (x.emb S) ∧ K x := by
  unfold partT at h
  unfold partA
  split at h
  · rename_i n hn ha
    obtain ⟨hc, h⟩ := grd_iff.1 h
    refine ⟨_, ?_, h⟩
    rw [hn, ha]
    simp only [List.length_map]
    rw [if_pos (by simpa using hc)]
    simp [T1.emb, List.map_take, List.map_drop]
  · rename_i n hn ha
    split at h
    · rename_i c hc
      refine ⟨_, ?_, h⟩
      rw [hn, ha]
      simp [hc, T1.emb]
    · exact h.elim
  · exact h.elim

theorem layC_ok {cs ds es : List TC} {off : Nat} (S : TStore) (h : layC cs off ds = some es) : layA (cs.map (TC.emb S)) off (ds.map (TC.emb S)) = some (es.map (TC.emb S)) := by
  unfold layC at h
  unfold layA
  split at h
  · rename_i hc
    simp only [Option.some.injEq] at h; subst h
    simp only [List.length_map]
    rw [if_pos hc]
    simp [List.map_take, List.map_drop]
  · cases h

theorem isCell_emb {c : TC} (S : TStore) (h : c.isCell S = true) : (c.emb S).isCell = true := by
  cases c with
  | a x => simp only [TC.isCell] at h; simp only [TC.emb, one_cell h]; exact h
  | sl e t x => cases x <;> rfl
  | h k =>
    simp only [TC.isCell] at h
    simp only [TC.emb]
    cases hs : shapeT S k with
    | none => rw [hs] at h; cases h
    | some p => rfl
  | eh => cases h
theorem isCells_emb {cs : List TC} (S : TStore) (h : cs.all (TC.isCell S) = true) : (cs.map (TC.emb S)).all AV.isCell = true := by
  rw [List.all_map, List.all_eq_true]
  exact fun c hc => isCell_emb S (List.all_eq_true.1 h c hc)
theorem isVals_emb {cs : List TC} (S : TStore) (h : cs.all TC.isVal = true) : (cs.map (TC.emb S)).all AV.isVal = true := by
  rw [List.all_map, List.all_eq_true]
  exact fun c hc => isVal_is (List.all_eq_true.1 h c hc) S
end
end Go.AbsM
