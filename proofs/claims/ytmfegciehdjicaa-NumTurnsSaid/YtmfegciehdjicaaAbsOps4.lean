/-
  The abstract machine: structs and arrays that are made out of parts.
-/
import Derived.Test.YtmfegciehdjicaaAbsOps3
import Derived.Great.BuildSlice
set_option linter.unusedVariables false
set_option linter.unusedSimpArgs false
namespace Go.AbsM

section
variable {P : Program} {w : World} {g : Gh} {S : List Store}

theorem cells_of_one {v : Value} (h : v.oneCell' = true) : v.cells = #[v] := by cases v <;> simp_all [Value.cells, Value.oneCell']

theorem CRep.one {c : AV} {v : Value} (h : CRep P w g S c v) (hc : c.isCell = true) : v.oneCell' = true := by
  cases c <;> first
    | (simp [AV.isCell] at hc; done)
    | exact Rep.oneCell h rfl
    | skip
  · obtain ⟨fz, xs, _, _, _, h1⟩ := h; exact h1
  · obtain ⟨_, rfl⟩ := h; rfl

theorem HRep.cellsRep {a : AV} {v : Value} (h : HRep P w g S a v) (hc : a.cells.all AV.isCell = true) : CellsRep P w g S a.cells v.cells.toList := by
  have single : ∀ (a : AV), a.cells = [a] → CRep P w g S a v → a.isCell = true → CellsRep P w g S a.cells v.cells.toList := by
    intro a ha h hc
    have h1 := h.one hc
    rw [ha, cells_of_one h1]
    refine ⟨rfl, fun i c u h2 h3 => ?_⟩
    cases i with
    | zero => simp at h2 h3; subst h2; subst h3; exact ⟨h, h1⟩
    | succ i => simp at h2
  cases a with
  | agg cs =>
    obtain ⟨vs, rfl, hr⟩ := h.inv_agg
    simpa [AV.cells, Value.cells] using hr
  | tup => simp [AV.cells, AV.isCell] at hc
  | own => simp [AV.cells, AV.isCell] at hc
  | obj => simp [AV.cells, AV.isCell] at hc
  | efz => simp [AV.cells, AV.isCell] at hc
  | ear => simp [AV.cells, AV.isCell] at hc
  | und => simp [AV.cells, AV.isCell] at hc
  | dead => simp [AV.cells, AV.isCell] at hc
  | _ => exact single _ rfl h rfl

theorem layA_sound {cs ds es : List AV} {vs us : List Value} {off : Nat} (hc : CellsRep P w g S cs vs) (hd : CellsRep P w g S ds us) (h : layA cs off ds = some es) :
    off + us.length ≤ vs.length ∧ CellsRep P w g S es (vs.take off ++ (us ++ vs.drop (off + us.length))) := by
  unfold layA at h
  split at h
  · rename_i hl
    simp only [Option.some.injEq] at h; subst h
    refine ⟨by rw [hc.1, hd.1]; exact hl, (hc.take off).append (hd.append ?_)⟩
    rw [hd.1]
    exact hc.drop _
  · cases h

theorem foldl_lay (off : Nat) (us : List Value) (vs : List Value) (h : off + us.length ≤ vs.length) :
    (us.zipIdx.foldl (fun (cs : Array Value) (x : Value × Nat) => cs.setIfInBounds (off + x.2) x.1) vs.toArray) = (vs.take off ++ (us ++ vs.drop (off + us.length))).toArray := by
  obtain ⟨h1, h2⟩ := Great.foldl_set off us 0 vs.toArray
  apply Array.ext_getElem?
  intro k
  rw [h2 k]
  simp only [List.size_toArray, Nat.add_zero, List.getElem?_toArray]
  by_cases hk : off ≤ k
  · by_cases hk2 : k < off + us.length
    · rw [if_pos ⟨hk, hk2, by omega⟩, List.getElem?_append_right (by simp; omega), List.getElem?_append_left (by simp; omega)]
      congr 1; simp; omega
    · rw [if_neg (by omega), List.getElem?_append_right (by simp; omega), List.getElem?_append_right (by simp; omega), List.getElem?_drop]
      congr 1; simp; omega
  · rw [if_neg (by omega), List.getElem?_append_left (by simp; omega), List.getElem?_take, if_pos (by omega)]

/-- Parts, one by one: numbers alike, values that stand to each other. -/
def PartsRep (P : Program) (w : World) (g : Gh) (S : List Store) (l : List (Nat × AV)) (m : List (Nat × Value)) : Prop :=
  m.length = l.length ∧ ∀ (i : Nat) (x : Nat × AV) (y : Nat × Value), l[i]? = some x → m[i]? = some y → x.1 = y.1 ∧ HRep P w g S x.2 y.2

theorem fillA_sound {place : Nat → Option (Nat × Nat)} {l : List (Nat × AV)} {m : List (Nat × Value)} {cells cs : List AV} {vs : List Value} (hl : PartsRep P w g S l m) (hc : CellsRep P w g S cells vs) (h : fillA place cells l = some cs) :
    ∃ us : List Value, Instr.fill place vs.toArray m = some us.toArray ∧ CellsRep P w g S cs us := by
  induction l generalizing m cells vs with
  | nil =>
    have : m = [] := List.eq_nil_of_length_eq_zero hl.1
    subst this
    simp only [fillA, Option.some.injEq] at h; subst h
    exact ⟨vs, rfl, hc⟩
  | cons x r ih =>
    obtain ⟨i, a⟩ := x
    cases m with
    | nil => exact absurd hl.1 (by simp)
    | cons y m' =>
      obtain ⟨i', v⟩ := y
      obtain ⟨e1, hv⟩ := hl.2 0 _ _ rfl rfl
      simp only at e1 hv
      subst e1
      have hl' : PartsRep P w g S r m' := ⟨by simpa using hl.1, fun j x y hx hy => hl.2 (j + 1) x y (by simpa using hx) (by simpa using hy)⟩
      simp only [fillA] at h
      split at h
      · cases h
      · rename_i off size hp
        split at h
        · rename_i hsz
          split at h
          · rename_i cells' hla
            have hcr := hv.cellsRep hsz.2
            obtain ⟨hle, hcr'⟩ := layA_sound hc hcr hla
            have hvs : v.cells.size = size := by
              have := hcr.1
              simp only [Array.length_toList] at this
              rw [this, hsz.1]
            obtain ⟨us, hfill, hus⟩ := ih hl' hcr' h
            refine ⟨us, ?_, hus⟩
            simp only [Instr.fill, hp]
            have hno : ¬ ((v.cells.size ≠ size || decide (off + v.cells.size > vs.toArray.size)) = true) := by
              simp [hvs]
              simp at hle
              omega
            have hf := foldl_lay off v.cells.toList vs hle
            have hz : v.cells.zipIdx.foldl (fun (cs : Array Value) (x : Value × Nat) => cs.setIfInBounds (off + x.2) x.1) vs.toArray = (v.cells.toList.zipIdx).foldl (fun (cs : Array Value) (x : Value × Nat) => cs.setIfInBounds (off + x.2) x.1) vs.toArray := by
              rw [← Array.foldl_toList]
              simp
            simp only [ne_eq] at hno ⊢
            rw [if_neg (by simpa using hno)]
            have : (fun (cs : Array Value) (x : Value × Nat) => match x with | (c, j) => cs.setIfInBounds (off + j) c) = fun (cs : Array Value) (x : Value × Nat) => cs.setIfInBounds (off + x.2) x.1 := by
              funext cs x; rfl
            rw [this, hz, hf]
            exact hfill
          · cases h
        · cases h

theorem placesT_eq {fs : List Field} {l : List (Nat × Nat)} (h : placesT P fs = some l) : fs.mapM (fun f => (P.info? f.type).map fun i => (f.offset, i.size)) = some l := by
  induction fs generalizing l with
  | nil => simp [placesT] at h; subst h; rfl
  | cons f r ih =>
    simp only [placesT] at h
    split at h
    · rename_i n l' hn hl
      simp only [Option.some.injEq] at h; subst h
      obtain ⟨i, hi, rfl⟩ := Option.map_eq_some_iff.1 hn
      simp [List.mapM_cons, hi, ih hl]
    · cases h

theorem zeroT_some {t : TypeId} {z : AV} (h : zeroT P t = some z) : ∃ (i : TypeInfo) (v : Value), P.info? t = some i ∧ i.zero = some v ∧ constAV v = some z := by
  unfold zeroT at h
  cases hi : P.info? t with
  | none => simp [hi] at h
  | some i =>
    cases hz : i.zero with
    | none => simp [hi, hz] at h
    | some v => simp [hi, hz] at h; exact ⟨i, v, rfl, hz, h⟩

theorem constAV_cells {v : Value} {z : AV} (h : constAV v = some z) : CellsRep P w g S z.cells v.cells.toList ∧ z.cells.all AV.isVal = true := by
  have hr := constAV_rep (P := P) (w := w) h g.M
  obtain ⟨h1, h2, h3⟩ := hr.parts
  refine ⟨⟨h1, fun i c u hc hu => ⟨CRep.of_rep (h2 i c u hc hu) (h3 c (List.mem_of_getElem? hc)), (h2 i c u hc hu).oneCell (h3 c (List.mem_of_getElem? hc))⟩⟩, ?_⟩
  rw [List.all_eq_true]
  exact h3

theorem buildA_sound {s s' : St} (hS : S = s.stores) {d : Option Nat} {t : TypeId} {l : List (Nat × AV)} {m : Array (Nat × Value)} (hl : PartsRep P w g S l m.toList) (h : buildA P s d t l = some s') :
    ∃ cs v, s' = s.put d (.agg cs) ∧ (Instr.build t m).run P w = .ok v w ∧ HRep P w g S (.agg cs) v := by
  unfold buildA at h
  split at h
  · rename_i z fields hz hu
    split at h
    · rename_i places hp
      split at h
      · rename_i cs hf
        simp only [Option.some.injEq] at h; subst h
        obtain ⟨i, v, hi, hzv, hc⟩ := zeroT_some hz
        obtain ⟨us, hfill, hus⟩ := fillA_sound hl (constAV_cells (P := P) (w := w) (g := g) (S := S) hc).1 hf
        refine ⟨cs, .agg us.toArray, rfl, ?_, HRep.mk_agg hus⟩
        apply run_build
        simp only [Program.built, hi, hu, hzv, placesT_eq hp]
        simpa using hfill
      · cases h
    · cases h
  · rename_i z n e hz hu
    split at h
    · rename_i k hk
      split at h
      · rename_i cs hf
        simp only [Option.some.injEq] at h; subst h
        obtain ⟨i, v, hi, hzv, hc⟩ := zeroT_some hz
        obtain ⟨us, hfill, hus⟩ := fillA_sound hl (constAV_cells (P := P) (w := w) (g := g) (S := S) hc).1 hf
        obtain ⟨ie, hie, rfl⟩ := Option.map_eq_some_iff.1 hk
        refine ⟨cs, .agg us.toArray, rfl, ?_, HRep.mk_agg hus⟩
        apply run_build
        simp only [Program.built, hi, hu, hzv, hie]
        simpa using hfill
      · cases h
    · cases h
  · cases h
end
end Go.AbsM
