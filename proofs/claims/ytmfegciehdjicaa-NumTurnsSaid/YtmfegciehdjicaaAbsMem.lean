/-
  The abstract machine: slices in memory; lengths, addresses, loads, cuts, conversions.
-/
import Derived.Test.YtmfegciehdjicaaAbsPure
set_option linter.unusedVariables false
set_option linter.unusedSimpArgs false
namespace Go.AbsM

/-! ### Flat rows of cells -/
theorem flat_cons (u : Value) (us : List Value) : flat (u :: us) = u.cells.toList ++ flat us := by simp [flat]
theorem flat_append (us vs : List Value) : flat (us ++ vs) = flat us ++ flat vs := by simp [flat]
theorem flat_length {es : Nat} {us : List Value} (h : ∀ u, u ∈ us → u.cells.size = es) : (flat us).length = us.length * es := by
  induction us with
  | nil => simp [flat]
  | cons u r ih =>
    rw [flat_cons, List.length_append, ih (fun x hx => h x (by simp [hx]))]
    have := h u (by simp)
    simp [this, Nat.add_mul]; omega
theorem flat_drop {es : Nat} {us : List Value} (h : ∀ u, u ∈ us → u.cells.size = es) (n : Nat) : flat (us.drop n) = (flat us).drop (n * es) := by
  induction us generalizing n with
  | nil => simp [flat]
  | cons u r ih =>
    cases n with
    | zero => simp
    | succ n =>
      rw [List.drop_succ_cons, ih (fun x hx => h x (by simp [hx])), flat_cons]
      have hu : u.cells.toList.length = es := by simpa using h u (by simp)
      rw [show (n + 1) * es = u.cells.toList.length + n * es by rw [hu, Nat.add_mul]; omega, List.drop_append]
      simp
theorem flat_take {es : Nat} {us : List Value} (h : ∀ u, u ∈ us → u.cells.size = es) (n : Nat) : flat (us.take n) = (flat us).take (n * es) := by
  induction us generalizing n with
  | nil => simp [flat]
  | cons u r ih =>
    cases n with
    | zero => simp [flat]
    | succ n =>
      rw [List.take_succ_cons, flat_cons, ih (fun x hx => h x (by simp [hx])), flat_cons]
      have hu : u.cells.toList.length = es := by simpa using h u (by simp)
      have e1 : (n + 1) * es = u.cells.toList.length + n * es := by rw [hu, Nat.add_mul]; omega
      rw [e1, List.take_append]
      rw [List.take_of_length_le (Nat.le_add_right _ _)]
      simp
theorem flat_at {es : Nat} {us : List Value} (h : ∀ u, u ∈ us → u.cells.size = es) {n j : Nat} {u : Value} (hu : us[n]? = some u) (hj : j < es) : (flat us)[n * es + j]? = u.cells[j]? := by
  have h1 : (flat us)[n * es + j]? = ((flat us).drop (n * es))[j]? := by simp
  rw [h1, ← flat_drop h]
  have hlt : n < us.length := (List.getElem?_eq_some_iff.1 hu).1
  rw [List.drop_eq_getElem_cons hlt, flat_cons]
  have hg : us[n] = u := (List.getElem?_eq_some_iff.1 hu).2
  rw [hg]
  have hs : u.cells.toList.length = es := by simpa using h u (List.mem_of_getElem? hu)
  rw [List.getElem?_append_left (by omega)]
  simp

section
variable {P : Program} {w : World} {M : Nat → Nat → Prop} {e : TypeId}

theorem RepL.nil : RepL P w M e [] [] := ⟨rfl, fun i x u h => by simp at h, fun u h => by simp at h⟩
theorem RepL.drop {xs : List AV} {us : List Value} (h : RepL P w M e xs us) (n : Nat) : RepL P w M e (xs.drop n) (us.drop n) :=
  ⟨by simp [h.1], fun i x u hx hu => h.2.1 (n + i) x u (by simpa using hx) (by simpa using hu), fun u hu => h.2.2 u (List.mem_of_mem_drop hu)⟩
theorem RepL.take {xs : List AV} {us : List Value} (h : RepL P w M e xs us) (n : Nat) : RepL P w M e (xs.take n) (us.take n) :=
  ⟨by simp [h.1], (fun i x u hx hu => by
    rw [List.getElem?_take] at hx hu
    split at hx
    · rename_i hi; rw [if_pos hi] at hu; exact h.2.1 i x u hx hu
    · cases hx), fun u hu => h.2.2 u (List.mem_of_mem_take hu)⟩
theorem RepL.append {xs ys : List AV} {us vs : List Value} (h : RepL P w M e xs us) (k : RepL P w M e ys vs) : RepL P w M e (xs ++ ys) (us ++ vs) := by
  refine ⟨by simp [h.1, k.1], fun i x u hx hu => ?_, fun u hu => ?_⟩
  · by_cases hi : i < xs.length
    · rw [List.getElem?_append_left hi] at hx
      rw [List.getElem?_append_left (by rw [h.1]; exact hi)] at hu
      exact h.2.1 i x u hx hu
    · rw [List.getElem?_append_right (by omega)] at hx
      rw [List.getElem?_append_right (by rw [h.1]; omega), h.1] at hu
      exact k.2.1 _ x u hx hu
  · rcases List.mem_append.1 hu with hu | hu
    · exact h.2.2 u hu
    · exact k.2.2 u hu
theorem RepL.mono {w' : World} {M' : Nat → Nat → Prop} {xs : List AV} {us : List Value} (hM : ∀ b o, M b o → M' b o) (hc : ∀ b o, M b o → w'.cell? ⟨b, o, none⟩ = w.cell? ⟨b, o, none⟩) (h : RepL P w M e xs us) : RepL P w' M' e xs us :=
  ⟨h.1, fun i x u hx hu => (h.2.1 i x u hx hu).mono hM hc, h.2.2⟩
theorem RepL.len {xs : List AV} {us : List Value} (h : RepL P w M e xs us) : (flat us).length = xs.length * P.cellsOf e := by rw [flat_length h.2.2, h.1]
theorem Rep.cellsOne {a : AV} {v : Value} (h : Rep P w M a v) : ∀ c, c ∈ v.cells.toList → c.oneCell' = true := by
  cases h with
  | x h => intro c hc; cases v <;> simp_all [plain, Value.cells, Value.oneCell']
  | str => intro c hc; simp [Value.cells] at hc; subst hc; rfl
  | nils => intro c hc; simp [Value.cells] at hc; subst hc; rfl
  | cap0 => intro c hc; simp [Value.cells] at hc; subst hc; rfl
  | sl => intro c hc; simp [Value.cells] at hc; subst hc; rfl
  | agg hl hr hv =>
    rename_i cs vs
    intro c hc
    simp [Value.cells] at hc
    obtain ⟨i, hi, rfl⟩ := List.getElem_of_mem hc
    have hlt : i < cs.length := by omega
    exact (hr i cs[i] vs[i] (by simp [hlt]) (by simp [hi])).oneCell (hv cs[i] (List.getElem_mem hlt))
theorem RepL.ones {xs : List AV} {us : List Value} (h : RepL P w M e xs us) : ∀ c, c ∈ flat us → c.oneCell' = true := by
  intro c hc
  obtain ⟨u, hu, hcu⟩ := List.mem_flatMap.1 hc
  obtain ⟨i, hi, rfl⟩ := List.getElem_of_mem hu
  have hlt : i < xs.length := by rw [← h.1]; exact hi
  exact (h.2.1 i xs[i] us[i] (by simp [hlt]) (by simp [hi])).cellsOne c hcu
end

/-- A slice's value, as its elements tell. -/
def Elems (P : Program) (w : World) (M : Nat → Nat → Prop) (e : TypeId) (xs : List AV) (v : Value) : Prop :=
  ∃ A c us, v = .slice A xs.length c ∧ xs.length ≤ c ∧ c ≤ maxLen ∧ RepL P w M e xs us ∧
    (xs ≠ [] → 0 < P.cellsOf e ∧ ∃ b o, A = some ⟨b, o, none⟩ ∧ ∀ (j : Nat) (cv : Value), (flat us)[j]? = some cv → w.cell? ⟨b, o + j, none⟩ = some cv)

section
variable {P : Program} {w : World} {g : Gh} {may : Nat → Prop}

theorem SInv.elems {s : St} (hi : SInv P w g may s.stores) {i k : Nat} {e : TypeId} {lo n tot : Nat} {v : Value} {xs : List AV} (hv : HRep P w g s.stores (.arr i k e lo n tot) v) (h : s.elems i k lo n tot = some xs) :
    xs.length = n ∧ Elems P w g.M e xs v := by
  obtain ⟨fz, ys, hg, ht, hq, _⟩ := hv.inv_arr
  simp only [St.elems, hg] at h
  split at h
  · rename_i hl
    simp only [Option.some.injEq] at h
    obtain ⟨hln, A, c, rfl, hnc, hcm, hA, hC⟩ := hq hl
    have hxl : xs.length = n := by subst h; simp; omega
    refine ⟨hxl, ?_⟩
    have fin : ∀ (us : List Value), 0 < P.cellsOf e → RepL P w g.M e ys us → (∀ (j : Nat) (cv : Value), (flat us)[j]? = some cv → w.cell? ⟨g.B i k, j, none⟩ = some cv) → Elems P w g.M e xs (.slice A n c) := by
      intro us he hr hcell
      subst h
      refine ⟨A, c, (us.drop lo).take n, by rw [hxl], by omega, hcm, (hr.drop lo).take n, fun hne => ⟨he, g.B i k, lo * P.cellsOf e, hA (.inr ?_), fun j cv hj => ?_⟩⟩
      · rcases Nat.eq_zero_or_pos n with h0 | h0
        · exact absurd (List.eq_nil_of_length_eq_zero (by rw [hxl]; exact h0)) hne
        · exact h0
      · rw [flat_take (fun u hu => hr.2.2 u (List.mem_of_mem_drop hu)), flat_drop hr.2.2, List.getElem?_take] at hj
        split at hj
        · rw [List.getElem?_drop] at hj
          exact hcell _ _ hj
        · cases hj
    cases fz with
    | true =>
      obtain ⟨he, us, hr, hcell⟩ := hi.fz i k e ys hg
      exact fin us he hr fun j cv hj => (hcell j cv hj).1
    | false =>
      obtain ⟨_, _, he, cur, us, cap, hh, _, _, _, _, hr, htake⟩ := hi.arr i k e ys hg
      refine fin us he hr fun j cv hj => ?_
      rw [← htake, List.getElem?_take] at hj
      split at hj
      · rw [cell_of_row w (g.B i k) j cur.toArray e (0, 0) hh]
        simpa using hj
      · cases hj
  · cases h

theorem HRep.elems_sl {S : List Store} {e : TypeId} {xs : List AV} {v : Value} (h : HRep P w g S (.sl e xs) v) : Elems P w g.M e xs v := by
  obtain ⟨A, c, us, rfl, h1, h2, h3, h4, h5⟩ := h.inv_sl
  refine ⟨A, c, us, rfl, h1, h2, h4, fun hne => ?_⟩
  obtain ⟨b, o, hA, hj⟩ := h5 hne
  exact ⟨h3, b, o, hA, fun j cv hcv => (hj j cv hcv).1⟩

theorem avs_getElem? (l : List UInt8) (i : Nat) : (avsOfBytes l)[i]? = (l[i]?).map fun b => AV.int .u8 b.toNat := by simp [avsOfBytes]

/-- What is copied out of a source: a slice's cells, a string's bytes. -/
theorem SInv.src {s : St} (hi : SInv P w g may s.stores) {a : AV} {v : Value} {e : TypeId} {xs : List AV} (hv : HRep P w g s.stores a v) (h : s.src P e a = some xs) :
    ∃ us, RepL P w g.M e xs us ∧ (Builtin.lenOf v).run P w = .ok xs.length w ∧ ∀ n, n ≤ xs.length → ∀ w', (∀ b o cv, w.cell? ⟨b, o, none⟩ = some cv → w'.cell? ⟨b, o, none⟩ = some cv) → (Builtin.firstCells (P.cellsOf e) n v).run P w' = .ok (flat (us.take n)).toArray w' := by
  have slices : ∀ (xs : List AV), Elems P w g.M e xs v → ∃ us, RepL P w g.M e xs us ∧ (Builtin.lenOf v).run P w = .ok xs.length w ∧ ∀ n, n ≤ xs.length → ∀ w', (∀ b o cv, w.cell? ⟨b, o, none⟩ = some cv → w'.cell? ⟨b, o, none⟩ = some cv) → (Builtin.firstCells (P.cellsOf e) n v).run P w' = .ok (flat (us.take n)).toArray w' := by
    rintro xs ⟨A, c, us, rfl, h1, h2, hr, hA⟩
    refine ⟨us, hr, by simp [Builtin.lenOf], fun n hn w' hw' => ?_⟩
    by_cases hne : xs = []
    · subst hne
      have hus : us = [] := List.eq_nil_of_length_eq_zero hr.1
      subst hus
      have : n = 0 := by simpa using hn
      subst this
      cases A with
      | none => simp [Builtin.firstCells, flat]
      | some ad => simp [Builtin.firstCells, flat, loadCells, loadCellsFrom]
    · obtain ⟨he, b, o, rfl, hj⟩ := hA hne
      have hl : (flat (us.take n)).length = n * P.cellsOf e := by
        rw [flat_length (fun u hu => hr.2.2 u (List.mem_of_mem_take hu)), List.length_take, hr.1, Nat.min_eq_left hn]
      refine run_firstCells_some (P := P) w' (P.cellsOf e) n ⟨b, o, none⟩ xs.length c _ hl fun j cv hcv => ?_
      rw [Addr.add_lit]
      rw [flat_take hr.2.2, List.getElem?_take] at hcv
      split at hcv
      · exact hw' _ _ _ (hj j cv hcv)
      · cases hcv
  cases a with
  | str l =>
    simp only [St.src] at h
    split at h
    · rename_i he
      simp only [Option.some.injEq] at h; subst h
      have e1 := hv.inv_str
      subst e1
      refine ⟨l.map fun b => .int .u8 b.toNat, ⟨by simp [avsOfBytes], fun i x u hx hu => ?_, fun u hu => ?_⟩, by simp [Builtin.lenOf, avsOfBytes, ByteArray.size], fun n hn w' _ => ?_⟩
      · rw [avs_getElem?] at hx
        simp only [List.getElem?_map] at hu
        cases hl : l[i]? with
        | none => simp [hl] at hx
        | some b => simp [hl] at hx hu; subst hx; subst hu; exact .x rfl
      · obtain ⟨b, _, rfl⟩ := List.mem_map.1 hu
        rw [he]; rfl
      · simp only [Builtin.firstCells, Sem.run_pure]
        congr 1
        apply Array.ext'
        have hf : ∀ m : List UInt8, flat (m.map fun b => Value.int .u8 b.toNat) = m.map fun b => Value.int .u8 b.toNat := by
          intro m; induction m with
          | nil => rfl
          | cons b r ih => rw [List.map_cons, flat_cons, ih]; rfl
        rw [← List.map_take, hf]
        rw [ByteArray.extract_mk]
        simp
    · cases h
  | nils =>
    simp only [St.src, Option.some.injEq] at h; subst h
    have e1 := hv.inv_nils
    subst e1
    exact ⟨[], RepL.nil, by simp [Builtin.lenOf], fun n hn w' _ => by simp [Builtin.firstCells, flat]⟩
  | cap0 =>
    simp only [St.src, Option.some.injEq] at h; subst h
    obtain ⟨A, rfl⟩ := hv.inv_cap0
    exact slices [] ⟨A, 0, [], rfl, by simp, by simp [maxLen], RepL.nil, fun h => absurd rfl h⟩
  | sl e' ys =>
    simp only [St.src] at h
    split at h
    · rename_i he
      subst he
      simp only [Option.some.injEq] at h; subst h
      exact slices _ hv.elems_sl
    · cases h
  | arr i k e' lo n tot =>
    simp only [St.src] at h
    split at h
    · rename_i he
      subst he
      exact slices _ (hi.elems hv h).2
    · cases h
  | _ => simp [St.src] at h

theorem lenOfA_sound {s : St} (hi : SInv P w g may s.stores) {t : TypeId} {a : AV} {v : Value} {n : Nat} (hv : HRep P w g s.stores a v) (h : lenOfA P s t a = some n) (ts : List TypeId) (ty : TypeId) :
    (Builtin.len_ (t :: ts).toArray ty #[v]).run P w = .ok (.int .i64 n) w := by
  unfold lenOfA at h
  split at h
  · rename_i hu
    split at h
    · rename_i l
      simp only [Option.some.injEq] at h; subst h
      have e1 := hv.inv_str; subst e1
      have hsz : (⟨l.toArray⟩ : ByteArray).size = l.length := by simp [ByteArray.size]
      simp [Builtin.len_, run_underlying hu, goInt]
      first | done | exact congrArg Int.ofNat hsz
    · cases h
  · rename_i e hu
    split at h
    · simp only [Option.some.injEq] at h; subst h
      have e1 := hv.inv_nils; subst e1
      simp [Builtin.len_, run_underlying hu, goInt]
    · simp only [Option.some.injEq] at h; subst h
      obtain ⟨A, rfl⟩ := hv.inv_cap0
      simp [Builtin.len_, run_underlying hu, goInt]
    · simp only [Option.some.injEq] at h; subst h
      obtain ⟨A, c, us, rfl, _⟩ := hv.elems_sl
      simp [Builtin.len_, run_underlying hu, goInt]
    · rename_i i k e' lo m tot
      split at h
      · rename_i xs hx
        simp only [Option.some.injEq] at h; subst h
        obtain ⟨hxl, A, c, us, rfl, _⟩ := hi.elems hv hx
        simp [Builtin.len_, run_underlying hu, goInt, hxl]
      · cases h
    · cases h
  · rename_i m e hu
    simp only [Option.some.injEq] at h; subst h
    simp [Builtin.len_, run_underlying hu, goInt]
  · rename_i arr hu
    split at h
    · rename_i m e hu2
      simp only [Option.some.injEq] at h; subst h
      simp [Builtin.len_, run_underlying hu, run_underlying hu2, goInt]
    · cases h
  · cases h
end
end Go.AbsM
