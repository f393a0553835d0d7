/-
  The abstract machine and the typed machine over it: deterministic evaluators of translated code over plain values, each proved sound. Part 6 of 7.
-/
import Derived.Test.YtignlmfaoagolaaGreatLib5
import Derived.MapKept
set_option linter.unusedVariables false
set_option linter.unusedSimpArgs false
set_option linter.unusedSectionVars false
/-! ## FnVal3 -/
namespace Go.FM
noncomputable section
variable [Env]
open Go.AbsM (flat foldl_lay flat_replicate madeCells_flat)
section
variable {Pr : Program} {w : World} {g : Gm} {c : Nat}
theorem constHV_ok (v : Value) : CRep g c (constHV v) v ∧ (constHV v ≠ .dead → (constHV v).isCell = true) := by
  unfold constHV
  split
  all_goals first
    | exact ⟨rfl, fun _ => rfl⟩
    | skip
  · rename_i s
    have h2 : s.data.toList.length = s.size := Array.length_toList
    have h1 := bytesOf_packB s.data.toList
    have h3 := packB_lt s.data.toList
    rw [h2] at h1 h3
    refine ⟨⟨h3, ?_⟩, fun _ => rfl⟩
    show _ = Value.string ⟨(bytesOf s.size (packB s.data.toList)).toArray⟩
    rw [h1]
  · exact ⟨trivial, fun h => absurd rfl h⟩
theorem constV_ok (v : Value) : VRep g c (constV v) v := by
  unfold constV
  split
  · rename_i cs
    cases hall : (cs.toList.map constHV).all HV.isCell with
    | false => exact trivial
    | true =>
      refine ⟨cs.toList, by simp, by simp, fun i x u hx hu => ?_⟩
      simp only [List.getElem?_map, Option.map_eq_some_iff] at hx
      obtain ⟨y, hy, rfl⟩ := hx
      rw [hy] at hu
      simp only [Option.some.injEq] at hu; subst hu
      have hc := (constHV_ok (g := g) (c := c) y).1
      exact ⟨hc, hc.one (List.all_eq_true.1 hall _ (List.mem_map.2 ⟨y, List.mem_of_getElem? hy, rfl⟩))⟩
  · exact VRep.of_cell (constHV_ok v).1
theorem constV_cells {v : Value} (hl : constV v ≠ .dead) : CReps g c (constV v).cells v.cells.toList ∧ (constV v).cells.all HV.isCell = true := by
  have hall : (constV v).cells.all HV.isCell = true := by
    have other : constV v = constHV v → (constV v).cells.all HV.isCell = true := by
      intro e
      rw [e] at hl ⊢
      have := (constHV_ok (g := fun _ => ⟨0, 0, 0, 0⟩) (c := 0) v).2 hl
      have hcl : (constHV v).cells = [constHV v] := by
        cases hc : constHV v <;> first | rfl | (rw [hc] at this; cases this)
      rw [hcl]
      simp [this]
    cases v with
    | agg cs =>
      have e : constV (.agg cs) = Bool.casesOn ((List.map constHV cs.toList).all HV.isCell) HV.dead (HV.agg (List.map constHV cs.toList)) := rfl
      rw [e] at hl ⊢
      cases hall : (cs.toList.map constHV).all HV.isCell with
      | false => rw [hall] at hl; exact absurd rfl hl
      | true => exact hall
    | _ => exact other rfl
  exact ⟨TRep.cells (TRep.of_val (constV_ok v)) hall, hall⟩
theorem lenF_ok {t ty : TypeId} {rest : List TypeId} {f : HV → HV} (h : lenF Pr t = .f f) {x : HV} {v : Value} (hx : TRep g c x v) (hl : f x ≠ .dead) : ∃ u, (Builtin.len_ (t :: rest).toArray ty #[v]).run Pr w = .ok u w ∧ TRep g c (f x) u := by
  unfold lenF at h
  split at h
  · rename_i hu
    injection h with h; subst h
    unfold lenStr at hl ⊢
    cases x <;> try exact absurd rfl hl
    rename_i n d
    obtain ⟨hd, e1⟩ : d < 256 ^ n ∧ v = strOf n d := hx
    subst e1
    have hsz : (⟨(bytesOf n d).toArray⟩ : ByteArray).size = n := by simp [ByteArray.size, bytesOf_length]
    refine ⟨.int .i64 (n : Int), ?_, rfl⟩
    simp only [strOf]
    simp [Builtin.len_, run_underlying hu, goInt, hsz]
  · rename_i e hu
    injection h with h; subst h
    unfold lenSlc at hl ⊢
    cases x <;> try exact absurd rfl hl
    · have e1 : v = .slice none 0 0 := hx
      subst e1
      exact ⟨.int .i64 0, by simp [Builtin.len_, run_underlying hu, goInt], rfl⟩
    · rename_i k o n es cl
      obtain ⟨_, A, m, e1, _⟩ := hx
      subst e1
      exact ⟨.int .i64 (n : Int), by simp [Builtin.len_, run_underlying hu, goInt], rfl⟩
  · rename_i m e hu
    injection h with h; subst h
    exact ⟨.int .i64 (m : Int), by simp [Builtin.len_, run_underlying hu, goInt], rfl⟩
  · rename_i arr hu
    split at h
    · rename_i m e hu2
      injection h with h; subst h
      exact ⟨.int .i64 (m : Int), by simp [Builtin.len_, run_underlying hu, run_underlying hu2, goInt], rfl⟩
    · cases h
  · cases h
theorem minV_ok {x y : HV} {u v : Value} (hx : TRep g c x u) (hy : TRep g c y v) (hl : minV x y ≠ .dead) (ts : Array TypeId) (ty : TypeId) : ∃ z, (Builtin.min_ ts ty #[u, v]).run Pr w = .ok z w ∧ TRep g c (minV x y) z := by
  unfold minV at hl ⊢
  split at hl
  · rename_i k p k' q
    have e1 : u = .int k p := hx
    have e2 : v = .int k' q := hy
    subst e1; subst e2
    exact ⟨.int k (if q < p then q else p), by simp [Builtin.min_, Builtin.min2], rfl⟩
  · rename_i k p k' q
    have e1 : u = .float k p := hx
    have e2 : v = .float k' q := hy
    subst e1; subst e2
    split at hl
    · rename_i hk
      subst hk
      rw [if_pos rfl]
      unfold minF at hl ⊢
      split at hl
      · exact ⟨.float k p, by simp_all [Builtin.min_, Builtin.min2], rfl⟩
      · exact ⟨.float k q, by simp_all [Builtin.min_, Builtin.min2], rfl⟩
      · exact ⟨.float k (if (k.decode p).neg then p else q), by simp_all [Builtin.min_, Builtin.min2], rfl⟩
      · exact absurd rfl hl
    · exact absurd rfl hl
  · exact absurd rfl hl
theorem maxV_ok {x y : HV} {u v : Value} (hx : TRep g c x u) (hy : TRep g c y v) (hl : maxV x y ≠ .dead) (ts : Array TypeId) (ty : TypeId) : ∃ z, (Builtin.max_ ts ty #[u, v]).run Pr w = .ok z w ∧ TRep g c (maxV x y) z := by
  unfold maxV at hl ⊢
  split at hl
  · rename_i k p k' q
    have e1 : u = .int k p := hx
    have e2 : v = .int k' q := hy
    subst e1; subst e2
    exact ⟨.int k (if q > p then q else p), by simp [Builtin.max_, Builtin.max2], rfl⟩
  · rename_i k p k' q
    have e1 : u = .float k p := hx
    have e2 : v = .float k' q := hy
    subst e1; subst e2
    split at hl
    · rename_i hk
      subst hk
      rw [if_pos rfl]
      unfold maxF at hl ⊢
      split at hl
      · exact ⟨.float k q, by simp_all [Builtin.max_, Builtin.max2], rfl⟩
      · exact ⟨.float k p, by simp_all [Builtin.max_, Builtin.max2], rfl⟩
      · exact ⟨.float k (if (k.decode p).neg then q else p), by simp_all [Builtin.max_, Builtin.max2], rfl⟩
      · exact absurd rfl hl
    · exact absurd rfl hl
  · exact absurd rfl hl
theorem layL_ok {cs ds es : List HV} {vs us : List Value} {off : Nat} (hc : CReps g c cs vs) (hd : CReps g c ds us) (h : layL cs off ds = some es) : off + us.length ≤ vs.length ∧ CReps g c es (vs.take off ++ (us ++ vs.drop (off + us.length))) := by
  unfold layL at h
  split at h
  · rename_i hl
    have hl : off + ds.length ≤ cs.length := Nat.le_of_ble_eq_true hl
    simp only [Option.some.injEq] at h; subst h
    refine ⟨by rw [hc.1, hd.1]; exact hl, (hc.take off).append (hd.append ?_)⟩
    rw [hd.1]
    exact hc.drop _
  · cases h
theorem layL_len {cs ds es : List HV} {off : Nat} (h : layL cs off ds = some es) : es.length = cs.length ∧ off + ds.length ≤ cs.length := by
  unfold layL at h
  split at h
  · rename_i hl
    have hl : off + ds.length ≤ cs.length := Nat.le_of_ble_eq_true hl
    simp only [Option.some.injEq] at h; subst h
    refine ⟨?_, hl⟩
    simp; omega
  · cases h
def PReps (g : Gm) (c : Nat) (l : List (Nat × HV)) (m : List (Nat × Value)) : Prop :=
  m.length = l.length ∧ ∀ (i : Nat) (x : Nat × HV) (y : Nat × Value), l[i]? = some x → m[i]? = some y → x.1 = y.1 ∧ TRep g c x.2 y.2
theorem fillL_ok {place : Nat → Option (Nat × Nat)} {l : List (Nat × HV)} {m : List (Nat × Value)} {cells cs : List HV} {vs : List Value} (hl : PReps g c l m) (hc : CReps g c cells vs) (h : fillL place cells l = some cs) :
    ∃ us : List Value, Instr.fill place vs.toArray m = some us.toArray ∧ CReps g c cs us ∧ us.length = vs.length := by
  induction l generalizing m cells vs with
  | nil =>
    have : m = [] := List.eq_nil_of_length_eq_zero hl.1
    subst this
    simp only [fillL, Option.some.injEq] at h; subst h
    exact ⟨vs, rfl, hc, rfl⟩
  | cons x r ih =>
    obtain ⟨i, a⟩ := x
    cases m with
    | nil => exact absurd hl.1 (by simp)
    | cons y m' =>
      obtain ⟨i', v⟩ := y
      obtain ⟨e1, hv⟩ := hl.2 0 _ _ rfl rfl
      simp only at e1 hv
      subst e1
      have hl' : PReps g c r m' := ⟨by simpa using hl.1, fun j x y hx hy => hl.2 (j + 1) x y (by simpa using hx) (by simpa using hy)⟩
      simp only [fillL] at h
      split at h
      · cases h
      · rename_i off size hp
        split at h
        · rename_i hsz
          split at h
          · rename_i cells' hla
            have hcr := hv.cells hsz.2
            obtain ⟨hle, hcr'⟩ := layL_ok hc hcr hla
            have hvs : v.cells.size = size := by
              have := hcr.1
              simp only [Array.length_toList] at this
              rw [this, hsz.1]
            obtain ⟨us, hfill, hus, hul⟩ := ih hl' hcr' h
            refine ⟨us, ?_, hus, ?_⟩
            · simp only [Instr.fill, hp]
              have hno : ¬ ((v.cells.size ≠ size || decide (off + v.cells.size > vs.toArray.size)) = true) := by
                simp [hvs]
                simp at hle
                omega
              have hf := foldl_lay off v.cells.toList vs hle
              have hz : v.cells.zipIdx.foldl (fun (cs : Array Value) (x : Value × Nat) => cs.setIfInBounds (off + x.2) x.1) vs.toArray = (v.cells.toList.zipIdx).foldl (fun (cs : Array Value) (x : Value × Nat) => cs.setIfInBounds (off + x.2) x.1) vs.toArray := by
                rw [← Array.foldl_toList]
                simp
              simp only [ne_eq] at hno ⊢
              rw [if_neg (by simpa using hno)]
              have : (fun (cs : Array Value) (x : Value × Nat) => match x with | (c, j) => cs.setIfInBounds (off + j) c) = fun (cs : Array Value) (x : Value × Nat) => cs.setIfInBounds (off + x.2) x.1 := by
                funext cs x; rfl
              rw [this, hz, hf]
              exact hfill
            · rw [hul]
              simp only [List.length_append, List.length_take, List.length_drop]
              omega
          · cases h
        · cases h
theorem zeroT_some {t : TypeId} (h : zeroT Pr t ≠ .dead) : ∃ (i : TypeInfo) (v : Value), Pr.info? t = some i ∧ i.zero = some v ∧ zeroT Pr t = constV v := by
  unfold zeroT at h ⊢
  cases hi : Pr.info? t with
  | none => rw [hi] at h; exact absurd rfl h
  | some i =>
    cases hz : i.zero with
    | none => rw [hi] at h; simp [hz] at h
    | some v => exact ⟨i, v, rfl, hz, by simp [hz]⟩
theorem placesT_eq {fs : List Field} {l : List (Nat × Nat)} (h : placesT Pr fs = some l) : fs.mapM (fun f => (Pr.info? f.type).map fun i => (f.offset, i.size)) = some l := by
  induction fs generalizing l with
  | nil => simp [placesT] at h; subst h; rfl
  | cons f r ih =>
    simp only [placesT] at h
    split at h
    · rename_i n l' hn hl
      simp only [Option.some.injEq] at h; subst h
      obtain ⟨i, hi, rfl⟩ := Option.map_eq_some_iff.1 hn
      simp [List.mapM_cons, hi, ih hl]
    · cases h
theorem PReps.zip {ps : List (Nat × Operand)} {xs : List HV} {ev : Operand → Value} (h : TReps g c xs (ps.map fun p => ev p.2)) : PReps g c ((ps.map (·.1)).zip xs) (ps.map fun p => (p.1, ev p.2)) := by
  have hl : ps.length = xs.length := by simpa using h.1
  refine ⟨by simp [hl], fun i x y hx hy => ?_⟩
  rw [List.getElem?_zip_eq_some] at hx
  obtain ⟨h1, h2⟩ := hx
  simp only [List.getElem?_map, Option.map_eq_some_iff] at h1 hy
  obtain ⟨p, hp, e⟩ := h1
  obtain ⟨p', hp', rfl⟩ := hy
  rw [hp] at hp'
  simp only [Option.some.injEq] at hp'; subst hp'
  exact ⟨e.symm, h.2 i x.2 _ h2 (by simp [hp])⟩
theorem buildF_ok {t : TypeId} {ps : List (Nat × Operand)} {f : List HV → HV} (h : buildF Pr t (ps.map (·.1)) = .f f) {xs : List HV} {ev : Operand → Value} (hx : TReps g c xs (ps.map fun p => ev p.2)) (hl : f xs ≠ .dead) :
    ∃ u, (Instr.build t (ps.map fun p => (p.1, ev p.2)).toArray).run Pr w = .ok u w ∧ TRep g c (f xs) u := by
  have hp := PReps.zip hx
  unfold buildF at h
  split at h
  · rename_i z fields hz hu
    split at h
    · rename_i places hpl
      injection h with h; subst h
      obtain ⟨i, v, hi, hzv, he⟩ := zeroT_some (Pr := Pr) (t := t) (by rw [hz]; simp)
      rw [hz] at he
      have hcc := (constV_cells (g := g) (c := c) (v := v) (by rw [← he]; simp)).1
      rw [← he] at hcc
      simp only [aggOf] at hl ⊢
      split at hl
      · rename_i cs hf
        obtain ⟨us, hfill, hus, _⟩ := fillL_ok hp hcc hf
        refine ⟨.agg us.toArray, ?_, _, rfl, hus⟩
        apply run_build
        simp only [Program.built, hi, hu, hzv, placesT_eq hpl]
        simpa using hfill
      · exact absurd rfl hl
    · cases h
  · rename_i z n e hz hu
    split at h
    · rename_i k hk
      injection h with h; subst h
      obtain ⟨i, v, hi, hzv, he⟩ := zeroT_some (Pr := Pr) (t := t) (by rw [hz]; simp)
      rw [hz] at he
      have hcc := (constV_cells (g := g) (c := c) (v := v) (by rw [← he]; simp)).1
      rw [← he] at hcc
      simp only [aggOf] at hl ⊢
      split at hl
      · rename_i cs hf
        obtain ⟨us, hfill, hus, _⟩ := fillL_ok hp hcc hf
        obtain ⟨ie, hie, rfl⟩ := Option.map_eq_some_iff.1 hk
        refine ⟨.agg us.toArray, ?_, _, rfl, hus⟩
        apply run_build
        simp only [Program.built, hi, hu, hzv, hie]
        simpa using hfill
      · exact absurd rfl hl
    · cases h
  · cases h
end
end
end Go.FM

/-! ## FnMem -/
namespace Go.FM
noncomputable section
variable [Env]
open Go.AbsM (flat foldl_lay flat_replicate madeCells_flat)
def hp (D : Nat) (h : HT) : Nat → HO := fun k => if k < 4 ^ D then HT.get D k h else .no
structure HOk (D : Nat) (g : Gm) (h : HT) (c : Nat) (w : World) : Prop where
  deep : HT.deep D h
  le : c ≤ 4 ^ D
  inv : HInv g (hp D h) c w
theorem hp_lt {D : Nat} {h : HT} {k : Nat} (hk : k < 4 ^ D) : hp D h k = HT.get D k h := if_pos hk
theorem hp_set {D : Nat} {h : HT} {j : Nat} {o : HO} (hd : HT.deep D h) (hj : j < 4 ^ D) : hp D (HT.set D j o h) = upd (hp D h) j o := by
  funext k
  show (if k < 4 ^ D then HT.get D k (HT.set D j o h) else .no) = if k = j then o else (if k < 4 ^ D then HT.get D k h else .no)
  by_cases hk : k < 4 ^ D
  · simp only [hk, if_true]
    rw [get_set D k j o h hd hk hj]
  · simp only [hk, if_false]
    rw [if_neg (by omega)]
theorem hp_unpre {D : Nat} {h : HT} {pre c : Nat} (hd : HT.deep D h) (hp0 : pre = 0 ∨ pre ≤ 4 ^ D) : hp D (unpre D pre h) = unp pre (hp D h) ∧ HT.deep D (unpre D pre h) := by
  cases pre with
  | zero => exact ⟨rfl, hd⟩
  | succ k =>
    have hk : k < 4 ^ D := by rcases hp0 with h | h <;> omega
    exact ⟨hp_set hd hk, deep_set D k .no h hd⟩
section
variable {Pr : Program} {D : Nat} {w w' : World} {g : Gm} {h : HT} {c : Nat}
theorem HOk.body (hi : HOk D g h c w) {k : Nat} (hk : k < c) {b : HB} (hb : (HT.get D k h).body = b) (hn : b ≠ .no) : BOk g c (g k) b w := by
  have e := hp_lt (D := D) (h := h) (k := k) (Nat.lt_of_lt_of_le hk hi.le)
  cases ho : HT.get D k h with
  | no => rw [ho] at hb; exact absurd hb.symm hn
  | own pre b' =>
    rw [ho] at hb e
    have : b' = b := hb
    subst this
    exact hi.inv.own k pre b' e
  | sh b' =>
    rw [ho] at hb e
    have : b' = b := hb
    subst this
    exact hi.inv.sh k b' e
theorem bytes_ones (n d : Nat) : ∀ u, u ∈ (bytesOf n d).map (fun b => Value.int .u8 b.toNat) → u.oneCell' = true := by
  intro u hu
  obtain ⟨b, _, rfl⟩ := List.mem_map.1 hu
  rfl
theorem CReps.ones {cs : List HV} {us : List Value} (hc : CReps g c cs us) : ∀ u, u ∈ us → u.oneCell' = true := by
  intro u hu
  obtain ⟨i, hi, rfl⟩ := List.getElem_of_mem hu
  exact (hc.2 i (cs[i]'(by rw [← hc.1]; exact hi)) us[i] (by simp [← hc.1, hi]) (by simp [hi])).2
theorem BRep.ones {b : HB} {us : List Value} (hb : BRep g c b us) : ∀ u, u ∈ us → u.oneCell' = true := by
  cases b with
  | no => exact hb.elim
  | cells cs => exact CReps.ones hb
  | byt n d => rw [hb.2]; exact bytes_ones n d
  | map es cl => exact hb.elim
theorem BRep.len {b : HB} {us : List Value} (hb : BRep g c b us) : us.length = sizeO b := by
  cases b with
  | no => exact hb.elim
  | cells cs => exact hb.1
  | byt n d => rw [hb.2]; simp [sizeO, bytesOf_length]
  | map es cl => exact hb.elim
theorem BOk.cells {a : At} {b : HB} (hb : BOk g c a b w) (hm : isMap b = false := by rfl) : ∃ us : List Value, us.length = a.len ∧ BRep g c b us ∧ a.len = sizeO b ∧ ∀ (j : Nat) (u : Value), us[j]? = some u → w.cell? ⟨a.b, a.o + j, none⟩ = some u := by
  obtain ⟨vs, t, h1, h2, h3, h4⟩ := hb.plain hm
  have hl : (a.row vs).length = a.len := by simp [At.row]; omega
  refine ⟨a.row vs, hl, h4, by rw [← hl]; exact h4.len, fun j u hu => ?_⟩
  simp only [At.row, List.getElem?_take] at hu
  split at hu
  · rw [List.getElem?_drop] at hu
    rw [cell_of_row w a.b (a.o + j) vs.toArray t (0, 0) h1]
    simpa using hu
  · cases hu
theorem loadVar_ok {t : TypeId} {n off : Nat} {bl : Bool} {cs : List HV} {us : List Value} {b o : Nat} (hn : sizeT Pr t = some n) (ha : aggT Pr t = some bl) (hc : CReps g c cs us) (hm : ∀ (j : Nat) (u : Value), us[j]? = some u → w.cell? ⟨b, o + j, none⟩ = some u) (hl : partV bl n off cs ≠ .dead) :
    ∃ v, (loadVar t ⟨b, o + off, none⟩).run Pr w = .ok v w ∧ VRep g c (partV bl n off cs) v := by
  cases bl with
  | false =>
    have e : partV false n off cs = lget off cs := rfl
    rw [e] at hl ⊢
    obtain ⟨u, hu, h1, h2⟩ := hc.get (lget_some hl)
    refine ⟨u, ?_, VRep.of_cell h1⟩
    have := hm off u hu
    simp [loadVar, aggT_run ha, this]
  | true =>
    have e : partV true n off cs = if Nat.ble (Nat.add off n) cs.length then .agg ((cs.drop off).take n) else .dead := rfl
    rw [e] at hl ⊢
    by_cases hb : Nat.ble (Nat.add off n) cs.length = true
    · rw [if_pos hb]
      have hle : off + n ≤ cs.length := Nat.le_of_ble_eq_true hb
      refine ⟨.agg ((us.drop off).take n).toArray, ?_, _, rfl, (hc.drop off).take n⟩
      have hlen : ((us.drop off).take n).length = n := by simp [hc.1]; omega
      have hld := run_loadCells_list (P := Pr) w ⟨b, o + off, none⟩ ((us.drop off).take n) (fun j v hj => by
        rw [Addr.add_lit]
        rw [List.getElem?_take] at hj
        split at hj
        · rw [List.getElem?_drop] at hj
          rw [Nat.add_assoc]
          exact hm _ v hj
        · cases hj)
      rw [hlen] at hld
      simp [loadVar, aggT_run ha, sizeT_run hn, hld]
    · rw [if_neg hb] at hl; exact absurd rfl hl
theorem load_ok {t : TypeId} {n : Nat} {bl : Bool} (hn : sizeT Pr t = some n) (ha : aggT Pr t = some bl) (hi : HOk D g h c w) {x : HV} {v : Value} (hx : TRep g c x v) (hl : load D bl n h x ≠ .dead) :
    (∃ A, v = .pointer (some A) ∧ ∃ u, (loadVar t A).run Pr w = .ok u w ∧ VRep g c (load D bl n h x) u) := by
  unfold load at hl ⊢
  cases x <;> try exact absurd rfl hl
  rename_i k off
  obtain ⟨hk, e1⟩ := hx
  subst e1
  refine ⟨_, rfl, ?_⟩
  simp only at hl ⊢
  cases hb : (HT.get D k h).body with
  | no => rw [hb] at hl; exact absurd rfl hl
  | map es cl => rw [hb] at hl; exact absurd rfl hl
  | cells cs =>
    rw [hb] at hl
    have hl : partV bl n off cs ≠ .dead := hl
    obtain ⟨us, h1, h2, h3, h4⟩ := (hi.body hk.1 hb (by simp)).cells
    exact loadVar_ok hn ha h2 h4 hl
  | byt m d =>
    rw [hb] at hl
    cases bl with
    | true => exact absurd rfl hl
    | false =>
      have e : loadO false n off (.byt m d) = (Nat.blt off m).casesOn .dead (byteV (bAt d off)) := rfl
      rw [e] at hl ⊢
      cases hlt : Nat.blt off m with
      | false => rw [hlt] at hl; exact absurd rfl hl
      | true =>
        have hlt' : off < m := Nat.le_of_ble_eq_true hlt
        obtain ⟨us, h1, ⟨h2, h2'⟩, h3, h4⟩ := (hi.body hk.1 hb (by simp)).cells
        have hu : us[off]? = some (.int .u8 (bAt d off : Nat)) := by
          rw [h2', List.getElem?_map, bytesOf_get m d off hlt']
          simp [toNat_ofNat _ (bAt_lt d off)]
        refine ⟨.int .u8 (bAt d off : Nat), ?_, rfl⟩
        have := h4 off _ hu
        simp [loadVar, aggT_run ha, addrOf, this]
theorem toStr_ok (hi : HOk D g h c w) {x : HV} {v : Value} (hx : TRep g c x v) (hl : toStr D h x ≠ .dead) : ∃ u, (Conv.bytesToString v).run Pr w = .ok u w ∧ VRep g c (toStr D h x) u := by
  unfold toStr at hl ⊢
  cases x <;> try exact absurd rfl hl
  · have e1 : v = .slice none 0 0 := hx
    subst e1
    exact ⟨.string .empty, by simp [Conv.bytesToString], by decide, rfl⟩
  · rename_i k o n es cl
    obtain ⟨hk, A, m, e1, hnm, hmm, hes, hlen, hbs, hfull, hcl, hA⟩ := hx
    subst e1
    simp only at hl ⊢
    cases hb : (HT.get D k h).body with
    | no => rw [hb] at hl; exact absurd rfl hl
    | map es cl => rw [hb] at hl; exact absurd rfl hl
    | cells cs => rw [hb] at hl; exact absurd rfl hl
    | byt q d =>
      rw [hb] at hl
      simp only at hl ⊢
      by_cases hq : Nat.ble (Nat.add o n) q = true
      · rw [if_pos hq]
        have hq' : o + n ≤ q := Nat.le_of_ble_eq_true hq
        obtain ⟨us, h1, ⟨h2, h2'⟩, h3, h4⟩ := (hi.body hk.1 hb (by simp)).cells
        refine ⟨strOf n (bCut d o n), ?_, bCut_lt _ _ _, rfl⟩
        have hcut := bytesOf_cut q d o n hq'
        let ns : List Int := (bytesOf n (bCut d o n)).map fun b => (b.toNat : Int)
        have hnl : ns.length = n := by simp [ns, bytesOf_length]
        have hload : (loadCells A n).run Pr w = .ok (ns.map (Value.int .u8)).toArray w := by
          by_cases hn0 : n = 0
          · subst hn0
            have : ns = [] := List.eq_nil_of_length_eq_zero hnl
            rw [this]
            simp [loadCells, loadCellsFrom]
          · rw [hA (by omega)]
            have := run_loadCells_list (P := Pr) w (addrOf g k o) (ns.map (Value.int .u8)) (fun j v hv => by
              simp only [addrOf]
              rw [Addr.add_lit, Nat.add_assoc]
              refine h4 (o + j) v ?_
              rw [h2', List.getElem?_map]
              have hjn : j < n := by
                have := (List.getElem?_eq_some_iff.1 hv).1
                simpa [hnl] using this
              simp only [ns, List.map_map, List.getElem?_map] at hv
              rw [hcut, List.getElem?_take, if_pos hjn, List.getElem?_drop] at hv
              exact hv)
            rw [List.length_map, hnl] at this
            exact this
        have hr := run_bytesToString w A n m ns hload
        rw [hr]
        congr 2
        have hf := Go.AbsM.foldl_push_bytes ns []
        simp only [List.nil_append] at hf
        have he : ns.map (fun n => UInt8.ofNat n.toNat) = bytesOf n (bCut d o n) := by
          simp only [ns, List.map_map]
          conv => rhs; rw [← List.map_id (bytesOf n (bCut d o n))]
          apply List.map_congr_left
          intro b _
          simp
        rw [he] at hf
        exact hf
      · rw [if_neg hq] at hl; exact absurd rfl hl
end
end
end Go.FM

/-! ## FnWr -/
namespace Go.FM
noncomputable section
variable [Env]
open Go.AbsM (flat foldl_lay flat_replicate madeCells_flat)
def Eff (D : Nat) (g : Gm) (h : HT) (c : Nat) (w : World) (r : Result Value) (v : HV) (h' : HT) (c' : Nat) : Prop :=
  ∃ z w' g', r = .ok z w' ∧ HOk D g' h' c' w' ∧ Post g (hp D h) c w g' (hp D h') c' w' ∧ TRep g' c' v z
section
variable {Pr : Program} {D : Nat} {w w' : World} {g : Gm} {h h' : HT} {c c' : Nat} {v : HV}
theorem Eff.same {z : Value} {r : Result Value} (hi : HOk D g h c w) (hr : r = .ok z w) (hv : TRep g c v z) : Eff D g h c w r v h c := ⟨z, w, g, hr, hi, Post.refl hi.inv, hv⟩
theorem newO_some {pre : Nat} {b : HB} {x : HV} (hn : newO D pre b x h c = .ok v h' c') : c < 4 ^ D ∧ b ≠ .no ∧ v = x ∧ h' = HT.set D c (.own pre b) h ∧ c' = c + 1 := by
  unfold newO at hn
  cases hb : Nat.blt c (Nat.pow 4 D) with
  | false => rw [hb] at hn; cases hn
  | true =>
    rw [hb] at hn
    have hlt : c < 4 ^ D := Nat.le_of_ble_eq_true hb
    cases b with
    | no => cases hn
    | cells cs => cases hn; exact ⟨hlt, by simp, rfl, rfl, rfl⟩
    | byt n d => cases hn; exact ⟨hlt, by simp, rfl, rfl, rfl⟩
    | map es cl => cases hn; exact ⟨hlt, by simp, rfl, rfl, rfl⟩
theorem new_eff {b : HB} {x : HV} {z : Value} {r : Result Value} {a : At} (hi : HOk D g h c w) (hx : Ext w w') (ha : w.heap.size ≤ a.b) (hb : BOk (g.new c a) (c + 1) a b w') (hn : newO D 0 b x h c = .ok v h' c') (hr : r = .ok z w') (hv : TRep (g.new c a) (c + 1) x z) :
    Eff D g h c w r v h' c' := by
  obtain ⟨h1, _, rfl, rfl, rfl⟩ := newO_some hn
  have hs := hp_set (o := .own 0 b) hi.deep h1
  have hp0 := Post.new hi.inv hx ha hb
  rw [← hs] at hp0
  exact ⟨z, w', g.new c a, hr, ⟨deep_set _ _ _ _ hi.deep, h1, hp0.inv⟩, hp0, hv⟩
theorem gnew_self (g : Gm) (c : Nat) (a : At) : g.new c a c = a := by simp [Gm.new]
theorem nm_new (g : Gm) (c : Nat) (a : At) (h : a.o + a.len ≤ a.bs) : Nm (g.new c a) (c + 1) c := ⟨Nat.lt_succ_self c, by rw [gnew_self]; exact h⟩
theorem agree_new (g : Gm) (c : Nat) (a : At) : Agree c g (g.new c a) := fun k hk => by simp only [Gm.new, if_neg (show ¬ k = c by omega)]
theorem BOk.fresh {us : List Value} {e : TypeId} {b : HB} {g' : Gm} {c1 : Nat} (hb : BRep g' c1 b us) : BOk g' c1 ⟨w.heap.size, 0, us.length, us.length⟩ b (w.alloc (.cells us.toArray e)) :=
  .inl ⟨us, e, heap_alloc_new w _, rfl, ⟨rfl, by simp⟩, by simpa [At.row] using hb⟩
theorem newVar_run {t : TypeId} {v : Value} : (newVar t v).run Pr w = .ok ⟨w.heap.size, 0, none⟩ (w.alloc (.cells v.cells t)) := rfl
theorem alloc_ok {e : TypeId} {f : HT → Nat → List HV → CR} (hf : allocF Pr D e = .f f) (hi : HOk D g h c w) (hr : f h c [] = .ok v h' c') :
    Eff D g h c w ((Instr.alloc e true (.tuple #[])).run Pr w) v h' c' := by
  unfold allocF at hf
  split at hf
  · cases hf
  · rename_i z hz
    cases hall : (zeroT Pr e).cells.all HV.isCell with
    | false => rw [hall] at hf; cases hf
    | true =>
      rw [hall] at hf
      injection hf with hf; subst hf
      obtain ⟨i, zv, hii, hzv, he⟩ := zeroT_some (Pr := Pr) (t := e) (fun e => hz e)
      have hcc := (constV_cells (g := g.new c ⟨w.heap.size, 0, zv.cells.toList.length, zv.cells.toList.length⟩) (c := c + 1) (v := zv) (by rw [← he]; exact fun e => hz e)).1
      rw [← he] at hcc
      have hb := BOk.fresh (w := w) (e := e) (b := .cells (zeroT Pr e).cells) hcc
      refine new_eff hi (Ext.alloc w _) (Nat.le_refl _) hb hr ?_ (⟨nm_new g c _ (by simp), rfl⟩ : TRep _ (c + 1) (.ptr c 0) (.pointer (some (addrOf (g.new c ⟨w.heap.size, 0, zv.cells.toList.length, zv.cells.toList.length⟩) c 0))))
      simp only [addrOf, gnew_self]
      simp [Instr.alloc, zeroValue, typeInfo, hii, hzv, newVar_run]
theorem box_ok {e : TypeId} {f : HT → Nat → List HV → CR} (hf : boxF Pr D e = .f f) (hi : HOk D g h c w) {x : HV} {u : Value} (hx : TRep g c x u) (hr : f h c [x] = .ok v h' c') :
    Eff D g h c w ((Instr.box e u).run Pr w) v h' c' := by
  unfold boxF at hf
  split at hf
  · rename_i n hn
    injection hf with hf; subst hf
    simp only at hr
    split at hr
    · rename_i hc
      have hcc := (hx.cells hc.2).mono (agree_new g c ⟨w.heap.size, 0, u.cells.toList.length, u.cells.toList.length⟩) (Nat.le_succ c)
      have hb := BOk.fresh (w := w) (e := e) (b := .cells x.cells) hcc
      refine new_eff hi (Ext.alloc w _) (Nat.le_refl _) hb hr ?_ (⟨nm_new g c _ (by simp), rfl⟩ : TRep _ (c + 1) (.ptr c 0) (.pointer (some (addrOf (g.new c ⟨w.heap.size, 0, u.cells.toList.length, u.cells.toList.length⟩) c 0))))
      simp only [addrOf, gnew_self]
      simp [Instr.box, newVar_run]
    · cases hr
  · cases hf
theorem slc_fresh {g : Gm} {n es m : Nat} {B : Nat} (hes : 0 < es) (hnm : n ≤ m) (hm : m ≤ maxLen) : TRep (g.new c ⟨B, 0, n * es, m * es⟩) (c + 1) (.slc c 0 n es false) (.slice (some ⟨B, 0, none⟩) n m) := by
  refine ⟨nm_new g c _ (by simpa using Nat.mul_le_mul_right es hnm), ⟨B, 0, none⟩, m, rfl, hnm, hm, hes, ?_, ?_, (fun _ => ?_), (fun h => by cases h), fun _ => ?_⟩
  · rw [gnew_self]; simp
  · rw [gnew_self]; simp
  · rw [gnew_self]
    show n * es ≤ 0 + m * es
    have := Nat.mul_le_mul_right es hnm
    omega
  · simp [addrOf, gnew_self]
theorem u8Of_some {x : HV} {b : Nat} (hb : u8Of x = some b) : x = .int .u8 (b : Int) ∧ b < 256 := by
  unfold u8Of at hb
  split at hb
  · rename_i k n
    split at hb
    · rename_i hc
      simp only [Bool.and_eq_true] at hc
      simp only [Option.some.injEq] at hb; subst hb
      have := ikEq_eq hc.1
      subst this
      exact ⟨rfl, Nat.le_of_ble_eq_true hc.2⟩
    · cases hb
  · cases hb
theorem bytesL_ok {cs : List HV} {us : List Value} {d : Nat} (hd : bytesL cs = some d) (hc : CReps g c cs us) : d < 256 ^ cs.length ∧ us = (bytesOf cs.length d).map fun b => Value.int .u8 b.toNat := by
  induction cs generalizing us d with
  | nil =>
    simp only [bytesL, Option.some.injEq] at hd; subst hd
    have : us = [] := List.eq_nil_of_length_eq_zero hc.1
    subst this
    exact ⟨by simp, rfl⟩
  | cons x r ih =>
    simp only [bytesL] at hd
    split at hd
    · rename_i b d' hb hd'
      simp only [Option.some.injEq] at hd; subst hd
      cases us with
      | nil => exact absurd hc.1 (by simp)
      | cons u us =>
        obtain ⟨e1, hb256⟩ := u8Of_some hb
        have hu := (hc.2 0 x u rfl rfl).1
        rw [e1] at hu
        have hu : u = .int .u8 (b : Int) := hu
        obtain ⟨h1, h2⟩ := ih hd' ⟨by simpa using hc.1, fun i x u hx hu => hc.2 (i + 1) x u (by simpa using hx) (by simpa using hu)⟩
        show b + 256 * d' < 256 ^ (r.length + 1) ∧ _
        refine ⟨by rw [Nat.pow_succ']; omega, ?_⟩
        rw [List.length_cons, bytesOf_succ, List.map_cons]
        have e2 : Nat.add b (Nat.mul 256 d') = b + 256 * d' := rfl
        rw [e2, show (b + 256 * d') % 256 = b by omega, show (b + 256 * d') / 256 = d' by omega, toNat_ofNat b hb256, ← h2, hu]
    · cases hd
theorem objOf_ok {u8 : Bool} {cs : List HV} {us : List Value} (hc : CReps g c cs us) (hn : objOf u8 cs ≠ .no) : BRep g c (objOf u8 cs) us := by
  cases u8 with
  | false =>
    have e : objOf false cs = if cs.all HV.isCell then .cells cs else .no := rfl
    rw [e] at hn ⊢
    by_cases hall : cs.all HV.isCell = true
    · rw [if_pos hall]; exact hc
    · rw [if_neg hall] at hn; exact absurd rfl hn
  | true =>
    have e : objOf true cs = (match bytesL cs with | some d => .byt cs.length d | none => .no) := rfl
    rw [e] at hn ⊢
    cases hd : bytesL cs with
    | none => rw [hd] at hn; exact absurd rfl hn
    | some d => exact bytesL_ok hd hc
theorem CReps.replicate {cs : List HV} {vs : List Value} (hc : CReps g c cs vs) (n : Nat) : CReps g c (List.replicate n cs).flatten (List.replicate n vs).flatten := by
  induction n with
  | zero => exact ⟨rfl, fun i x u hx => by simp at hx⟩
  | succ n ih => simp only [List.replicate_succ, List.flatten_cons]; exact hc.append ih
theorem bytesOf_zeros (n : Nat) : bytesOf n 0 = List.replicate n 0 := by
  induction n with
  | zero => rfl
  | succ n ih => rw [bytesOf_succ, Nat.zero_div, ih]; rfl
theorem repO_ok {u8 : Bool} {l : Nat} {cs : List HV} {vs : List Value} (hc : CReps g c cs vs) (hn : repO u8 l cs ≠ .no) : BRep g c (repO u8 l cs) (List.replicate l vs).flatten := by
  cases u8 with
  | false =>
    have e : repO false l cs = (cs.all HV.isCell).casesOn .no (.cells (List.replicate l cs).flatten) := rfl
    rw [e] at hn ⊢
    cases hall : cs.all HV.isCell with
    | false => rw [hall] at hn; exact absurd rfl hn
    | true => exact hc.replicate l
  | true =>
    have e : repO true l cs = (zero8 cs).casesOn .no (.byt l 0) := rfl
    rw [e] at hn ⊢
    cases hz : zero8 cs with
    | false => rw [hz] at hn; exact absurd rfl hn
    | true =>
      unfold zero8 at hz
      split at hz
      · rename_i x
        split at hz
        · rename_i hx
          obtain ⟨e1, _⟩ := u8Of_some hx
          obtain ⟨u, hu, h1, _⟩ := hc.get (i := 0) (x := x) rfl
          rw [e1] at h1
          have h1 : u = .int .u8 ((0 : Nat) : Int) := h1
          have hvs : vs = [u] := by
            cases vs with
            | nil => cases hu
            | cons a r =>
              have : r = [] := List.eq_nil_of_length_eq_zero (by have := hc.1; simpa using this)
              subst this
              simp at hu; subst hu; rfl
          subst hvs
          refine ⟨pow256_pos l, ?_⟩
          rw [bytesOf_zeros, h1]
          simp [List.flatten_replicate_singleton]
        · cases hz
      · cases hz
theorem elemT_some {t e : TypeId} (he : elemT Pr t = some e) : Pr.underlying t = some (.slice e) := by
  unfold elemT at he
  split at he
  · simp only [Option.some.injEq] at he; subst he; assumption
  · cases he
theorem makeSlice_ok {t : TypeId} {f : HT → Nat → List HV → CR} (hf : makeSliceF Pr D t = .f f) (hi : HOk D g h c w) {x y : HV} {u1 u2 : Value} (hx : TRep g c x u1) (hy : TRep g c y u2) (hr : f h c [x, y] = .ok v h' c') :
    Eff D g h c w ((Instr.makeSlice t u1 u2).run Pr w) v h' c' := by
  unfold makeSliceF at hf
  split at hf
  · rename_i e he
    have hu := elemT_some he
    split at hf
    · rename_i n by_ hn hby
      split at hf
      · cases hf
      · rename_i hno
        injection hf with hf; subst hf
        simp only at hr
        split at hr
        · rename_i l co hl hco
          obtain ⟨k1, rfl⟩ := natOf_some hl
          obtain ⟨k2, rfl⟩ := natOf_some hco
          have e1 : u1 = .int k1 (l : Int) := hx
          have e2 : u2 = .int k2 (co : Int) := hy
          subst e1; subst e2
          split at hr
          · rename_i hc
            simp only [Bool.and_eq_true] at hc
            obtain ⟨⟨hc1, hc2⟩, hc3⟩ := hc
            have hc1 : l ≤ co := Nat.le_of_ble_eq_true hc1
            have hc2 : co ≤ 9223372036854775807 := Nat.le_of_ble_eq_true hc2
            have hc3 : by_ * co ≤ 281474976710656 := Nat.le_of_ble_eq_true hc3
            have hn0 : n ≠ 0 := fun e => hno (.inl e)
            have hzl : (zeroT Pr e).cells.length = n := Decidable.byContradiction fun e => hno (.inr e)
            have hzd : zeroT Pr e ≠ .dead := fun hd => by
              obtain ⟨_, hbno, _⟩ := newO_some hr
              rw [hd] at hbno
              cases hq : isU8 Pr e with
              | false => rw [hq] at hbno; exact hbno rfl
              | true => rw [hq] at hbno; exact hbno rfl
            obtain ⟨i, zv, hii, hzv, hez⟩ := zeroT_some hzd
            obtain ⟨i1, hi1, rfl⟩ := Option.map_eq_some_iff.1 hn
            rw [hii] at hi1; cases hi1
            obtain ⟨i2, hi2, rfl⟩ := Option.map_eq_some_iff.1 hby
            rw [hii] at hi2; cases hi2
            have hrun := run_make (P := Pr) w t e i zv hu hii hzv k1 k2 l co (by omega) (by omega) (by rw [← Int.natCast_mul]; exact Int.ofNat_le.2 hc3) (by omega)
            simp only [Int.toNat_natCast] at hrun
            have hcc := (constV_cells (g := g.new c ⟨w.heap.size, 0, l * i.size, co * i.size⟩) (c := c + 1) (v := zv) (by rw [← hez]; exact hzd)).1
            rw [← hez] at hcc
            have hzs : zv.cells.size = i.size := by
              have := hcc.1
              simp only [Array.length_toList] at this
              rw [this, hzl]
            obtain ⟨_, hbno, _⟩ := newO_some hr
            have hb0 := repO_ok (l := l) hcc hbno
            have hml : (madeCells zv.cells (co * i.size)).toList = flat (List.replicate co zv) := madeCells_flat hzs (by omega)
            have hfl : ∀ q, (flat (List.replicate q zv)).length = q * i.size := fun q => by
              rw [flat_replicate]
              simp [hzs]
            have hb : BOk (g.new c ⟨w.heap.size, 0, l * i.size, co * i.size⟩) (c + 1) ⟨w.heap.size, 0, l * i.size, co * i.size⟩ (repO (isU8 Pr e) l (zeroT Pr e).cells) (w.alloc (.cells (madeCells zv.cells (co * i.size)) e)) := by
              refine .inl ⟨(madeCells zv.cells (co * i.size)).toList, e, by rw [Array.toArray_toList]; exact heap_alloc_new w _, by rw [hml, hfl], ?_, ?_⟩
              · refine ⟨rfl, ?_⟩
                show 0 + l * i.size ≤ co * i.size
                have := Nat.mul_le_mul_right i.size hc1
                omega
              · have e3 : (At.mk w.heap.size 0 (l * i.size) (co * i.size)).row (madeCells zv.cells (co * i.size)).toList = (List.replicate l zv.cells.toList).flatten := by
                  simp only [At.row, List.drop_zero]
                  rw [hml, ← flat_replicate]
                  have : List.replicate co zv = List.replicate l zv ++ List.replicate (co - l) zv := by
                    rw [List.replicate_append_replicate]; congr 1; omega
                  rw [this, Go.AbsM.flat_append, List.take_append_of_le_length (by rw [hfl]; exact Nat.le_refl _), List.take_of_length_le (by rw [hfl]; exact Nat.le_refl _)]
                rw [e3]; exact hb0
            exact new_eff hi (Ext.alloc w _) (Nat.le_refl _) hb hr hrun (slc_fresh (by omega) hc1 (by simp only [maxLen]; omega))
          · cases hr
        · cases hr
    · cases hf
  · cases hf
theorem fill_length {place : Nat → Option (Nat × Nat)} {l : List (Nat × HV)} {cells cs : List HV} (hf : fillL place cells l = some cs) : cs.length = cells.length := by
  induction l generalizing cells with
  | nil => simp only [fillL, Option.some.injEq] at hf; subst hf; rfl
  | cons x r ih =>
    obtain ⟨i, a⟩ := x
    simp only [fillL] at hf
    split at hf
    · cases hf
    · split at hf
      · split at hf
        · rename_i cells' hl
          rw [ih hf, (layL_len hl).1]
        · cases hf
      · cases hf
theorem buildSlice_ok {t : TypeId} {len : Nat} {ps : List (Nat × Operand)} {f : HT → Nat → List HV → CR} (hf : buildSliceF Pr D t len (ps.map (·.1)) = .f f) (hi : HOk D g h c w) {xs : List HV} {ev : Operand → Value} (hx : TReps g c xs (ps.map fun p => ev p.2)) (hr : f h c xs = .ok v h' c') :
    Eff D g h c w ((Instr.buildSlice t len (ps.map fun p => (p.1, ev p.2)).toArray).run Pr w) v h' c' := by
  have hp := PReps.zip hx
  unfold buildSliceF at hf
  split at hf
  · rename_i e he
    have hu := elemT_some he
    split at hf
    · cases hf
    · rename_i n hn hne
      split at hf
      · cases hf
      · rename_i hno
        injection hf with hf; subst hf
        simp only at hr
        split at hr
        · rename_i cs hfl
          have hne : zeroT Pr e ≠ .dead := fun e => hne e
          have hn0 : n ≠ 0 := fun e => hno (.inl e)
          have hsmall : ¬ len * n > 16777216 := fun e => hno (.inr (.inl e))
          have hzl : (zeroT Pr e).cells.length = n := Decidable.byContradiction fun e => hno (.inr (.inr e))
          obtain ⟨_, hbno, _⟩ := newO_some hr
          have hcsl : cs.length = len * n := by
            rw [fill_length hfl]; simp [hzl]
          obtain ⟨i, zv, hii, hzv, hez⟩ := zeroT_some hne
          obtain ⟨i1, hi1, rfl⟩ := Option.map_eq_some_iff.1 hn
          rw [hii] at hi1; cases hi1
          have hcc := (constV_cells (g := g) (c := c) (v := zv) (by rw [← hez]; exact hne)).1
          rw [← hez] at hcc
          have hzs : zv.cells.size = i.size := by
            have := hcc.1
            simp only [Array.length_toList] at this
            rw [this, hzl]
          have hbase : CReps g c ((List.replicate len (zeroT Pr e).cells).flatten) (flat (List.replicate len zv)) := by
            rw [flat_replicate]
            exact hcc.replicate len
          obtain ⟨us, hfill, hus, hul⟩ := fillL_ok hp hbase hfl
          have hmc := madeCells_flat (n := len) hzs (by omega)
          have hul2 : us.length = len * i.size := by rw [hus.1, hcsl]
          have hrun : (Instr.buildSlice t len (ps.map fun p => (p.1, ev p.2)).toArray).run Pr w = .ok (.slice (some ⟨w.heap.size, 0, none⟩) len len) (w.alloc (.cells us.toArray e)) := by
            by_cases h0 : len = 0
            · subst h0
              have hm0 : us = [] := List.eq_nil_of_length_eq_zero (by rw [hul2]; simp)
              subst hm0
              have hzero : flat (List.replicate 0 zv) = [] := rfl
              rw [hzero] at hfill
              simp [Instr.buildSlice, run_underlying hu, sizeOf, typeInfo, hii, newRow, Array.range_zero', hfill]
            · refine run_buildSlice w t e len _ us.toArray i zv hu hii hzv (by simpa using hsmall) (Nat.mul_ne_zero h0 hn0) ?_
              have e2 : (Array.range (len * i.size)).map (zv.cells[· % zv.cells.size]!) = (flat (List.replicate len zv)).toArray := by
                apply Array.ext'; rw [hmc]
              rw [e2]
              exact hfill
          have hb := BOk.fresh (w := w) (e := e) (g' := g.new c ⟨w.heap.size, 0, us.length, us.length⟩) (c1 := c + 1) (us := us) (objOf_ok (u8 := isU8 Pr e) (hus.mono (agree_new g c _) (Nat.le_succ c)) hbno)
          rw [hul2] at hb
          have hlm : len ≤ maxLen := by
            have h1 : len ≤ len * i.size := Nat.le_mul_of_pos_right _ (by omega)
            have : maxLen = 9223372036854775807 := rfl
            omega
          exact new_eff hi (Ext.alloc w _) (Nat.le_refl _) hb hr hrun (slc_fresh (by omega) (Nat.le_refl _) hlm)
        · cases hr
    · cases hf
  · cases hf
end
end
end Go.FM

/-! ## FnWr2 -/
namespace Go.FM
noncomputable section
variable [Env]
open Go.AbsM (flat foldl_lay flat_replicate madeCells_flat)
section
variable {Pr : Program} {D : Nat} {w w' : World} {g : Gm} {h h' : HT} {c c' : Nat} {v : HV}
theorem list_lay {α : Type} (vs vals : List α) (o L off : Nat) (h1 : o + L ≤ vs.length) (h2 : off + vals.length ≤ L) :
    ((vs.take (o + off) ++ vals ++ vs.drop (o + off + vals.length)).drop o).take L = ((vs.drop o).take L).take off ++ (vals ++ ((vs.drop o).take L).drop (off + vals.length)) := by
  apply List.ext_getElem?
  intro i
  rw [List.getElem?_take, List.getElem?_drop]
  by_cases hi : i < L
  · rw [if_pos hi]
    by_cases h3 : i < off
    · rw [List.append_assoc, List.getElem?_append_left (by simp; omega), List.getElem?_take, if_pos (by omega), List.getElem?_append_left (by simp; omega), List.getElem?_take, if_pos h3, List.getElem?_take, if_pos hi, List.getElem?_drop]
    · have e1 : (((vs.drop o).take L).take off).length = off := by simp; omega
      have e2 : (vs.take (o + off)).length = o + off := by simp; omega
      rw [List.append_assoc, List.getElem?_append_right (l₁ := vs.take (o + off)) (by omega), List.getElem?_append_right (l₁ := ((vs.drop o).take L).take off) (by omega), e1, e2]
      by_cases h4 : i < off + vals.length
      · rw [List.getElem?_append_left (by omega), List.getElem?_append_left (by omega)]
        congr 1; omega
      · rw [List.getElem?_append_right (by omega), List.getElem?_append_right (by omega), List.getElem?_drop, List.getElem?_drop, List.getElem?_take, if_pos (by omega), List.getElem?_drop]
        congr 1; omega
  · rw [if_neg hi]
    symm
    apply List.getElem?_eq_none
    simp only [List.length_append, List.length_take, List.length_drop]
    omega
theorem list_keep {α : Type} (vs vals : List α) (o L p : Nat) (h1 : o + L ≤ p) (h2 : p + vals.length ≤ vs.length) :
    ((vs.take p ++ vals ++ vs.drop (p + vals.length)).drop o).take L = (vs.drop o).take L := by
  apply List.ext_getElem?
  intro i
  rw [List.getElem?_take, List.getElem?_drop, List.getElem?_take, List.getElem?_drop]
  by_cases hi : i < L
  · rw [if_pos hi, if_pos hi, List.append_assoc, List.getElem?_append_left (by simp; omega), List.getElem?_take, if_pos (by omega)]
  · rw [if_neg hi, if_neg hi]
theorem store_run {vs : List Value} {t : TypeId} {B p : Nat} {vals : List Value} (hh : w.heap[B]? = some (.cells vs.toArray t (0, 0))) (hone : ∀ u, u ∈ vals → u.oneCell' = true) (hle : p + vals.length ≤ vs.length) :
    ∃ w', (storeCells ⟨B, p, none⟩ vals).run Pr w = .ok () w' ∧ Chg B w w' ∧ w'.heap[B]? = some (.cells (vs.take p ++ vals ++ vs.drop (p + vals.length)).toArray t (0, 0)) := by
  have := run_storeCells_at Pr B p t vals 0 vs.toArray w hh (by simpa using hle) hone
  refine ⟨_, this, Chg.setRow w B _, ?_⟩
  have h2 := setRow_heap w B vs.toArray (vs.take p ++ vals ++ vs.drop (p + vals.length)).toArray t (0, 0) hh
  simpa using h2
theorem write_run {a : At} {b b' : HB} {vals : List Value} {off : Nat} (hm : isMap b = false) (hb : BOk g c a b w) (hone : ∀ u, u ∈ vals → u.oneCell' = true) (hle : off + vals.length ≤ a.len)
    (hnew : ∀ us, us.length = a.len → BRep g c b us → BRep g c b' (us.take off ++ (vals ++ us.drop (off + vals.length)))) :
    ∃ w', (storeCells ⟨a.b, a.o + off, none⟩ vals).run Pr w = .ok () w' ∧ Chg a.b w w' ∧ BOk g c a b' w' := by
  obtain ⟨vs, t, h1, h2, h3, h4⟩ := hb.plain hm
  obtain ⟨w', q1, q2, q3⟩ := store_run (Pr := Pr) (p := a.o + off) h1 hone (by omega)
  have hl : (a.row vs).length = a.len := by simp [At.row]; omega
  refine ⟨w', q1, q2, .inl ⟨_, t, q3, ?_, h3, ?_⟩⟩
  · simp only [List.length_append, List.length_take, List.length_drop]; omega
  · have := list_lay vs vals a.o a.len off (by omega) hle
    simp only [At.row] at hl h4 ⊢
    rw [this]
    exact hnew _ hl h4
theorem putO_some {k : Nat} {f : HB → HB} {x : HV} (hr : putO D k f x h c = .ok v h' c') : ∃ pre b, HT.get D k h = .own pre b ∧ f b ≠ .no ∧ v = x ∧ c' = c ∧ h' = HT.set D k (.own 0 (f b)) (unpre D pre h) := by
  unfold putO at hr
  cases ho : HT.get D k h with
  | no => rw [ho] at hr; cases hr
  | sh b => rw [ho] at hr; cases hr
  | own pre b =>
    rw [ho] at hr
    simp only at hr
    cases hb : f b with
    | no => rw [hb] at hr; cases hr
    | cells cs => rw [hb] at hr; cases hr; exact ⟨pre, b, rfl, by rw [hb]; simp, rfl, rfl, by rw [hb]⟩
    | byt n d => rw [hb] at hr; cases hr; exact ⟨pre, b, rfl, by rw [hb]; simp, rfl, rfl, by rw [hb]⟩
    | map es cl => rw [hb] at hr; cases hr
theorem put_eff {k : Nat} {f : HB → HB} {x : HV} (hi : HOk D g h c w) (hk : k < c) (hr : putO D k f x h c = .ok v h' c') {r : Result Value} {z : Value}
    (hrun : ∀ pre b, HT.get D k h = .own pre b → f b ≠ .no → BOk g c (g k) b w → ∃ w', r = .ok z w' ∧ Chg (g k).b w w' ∧ BOk g c (g k) (f b) w') (hv : TRep g c x z) : Eff D g h c w r v h' c' := by
  obtain ⟨pre, b, ho, hn, rfl, rfl, rfl⟩ := putO_some hr
  have hk4 : k < 4 ^ D := Nat.lt_of_lt_of_le hk hi.le
  have ho' : hp D h k = .own pre b := by rw [hp_lt hk4]; exact ho
  obtain ⟨w', q1, q2, q3⟩ := hrun pre b ho hn (hi.inv.own k pre b ho')
  have hpre : pre = 0 ∨ pre ≤ 4 ^ D := .inr (Nat.le_trans (hi.inv.pre k pre b ho') hi.le)
  obtain ⟨e1, e2⟩ := hp_unpre (D := D) (h := h) (pre := pre) (c := c') hi.deep hpre
  have hs := hp_set (o := .own 0 (f b)) e2 hk4
  have hps := Post.set hi.inv ho' q2 q3
  rw [e1] at hs
  rw [← hs] at hps
  exact ⟨z, w', g, q1, ⟨deep_set _ _ _ _ e2, hi.le, hps.inv⟩, hps, hv⟩
def SRep (g : Gm) (c es : Nat) (s : Src) (us : List Value) : Prop := match s with
  | .byt n d => es = 1 ∧ d < 256 ^ n ∧ us = (bytesOf n d).map fun b => Value.int .u8 b.toNat
  | .cells n cs => us.length = n * es ∧ CReps g c cs us
  | .no => False
theorem SRep.len {es : Nat} {s : Src} {us : List Value} (hs : SRep g c es s us) : us.length = s.len * es := by
  cases s with
  | byt n d => obtain ⟨rfl, _, rfl⟩ := hs; simp [Src.len, bytesOf_length]
  | cells n cs => exact hs.1
  | no => exact hs.elim
theorem SRep.ones {es : Nat} {s : Src} {us : List Value} (hs : SRep g c es s us) : ∀ u, u ∈ us → u.oneCell' = true := by
  cases s with
  | byt n d => obtain ⟨_, _, rfl⟩ := hs; exact bytes_ones n d
  | cells n cs => exact CReps.ones hs.2
  | no => exact hs.elim
theorem SRep.obj {es : Nat} {s : Src} {us : List Value} {u8 : Bool} (hs : SRep g c es s us) (hn : s.obj u8 ≠ .no) : BRep g c (s.obj u8) us := by
  cases s with
  | byt n d =>
    cases u8 with
    | false => exact absurd rfl hn
    | true => exact ⟨hs.2.1, hs.2.2⟩
  | cells n cs =>
    cases u8 with
    | false => exact hs.2
    | true =>
      have e : Src.obj true (.cells n cs) = (Nat.beq n 0).casesOn .no (.byt 0 0) := rfl
      rw [e] at hn ⊢
      cases hb : Nat.beq n 0 with
      | false => rw [hb] at hn; exact absurd rfl hn
      | true =>
        have := Nat.eq_of_beq_eq_true hb; subst this
        have hl := hs.1
        rw [Nat.zero_mul] at hl
        exact ⟨by simp, by rw [List.eq_nil_of_length_eq_zero hl]; rfl⟩
  | no => exact hs.elim
theorem SRep.cut {es m : Nat} {s : Src} {us : List Value} (hs : SRep g c es s us) (hm : m ≤ s.len) : SRep g c es (cutSrc es m s) (us.take (m * es)) := by
  cases s with
  | byt n d =>
    obtain ⟨rfl, h1, rfl⟩ := hs
    refine ⟨rfl, bCut_lt _ _ _, ?_⟩
    rw [bytesOf_cut n d 0 m (by simpa [Src.len] using hm), List.drop_zero, Nat.mul_one, List.map_take]
  | cells n cs =>
    refine ⟨?_, hs.2.take _⟩
    have := hs.1
    have hm : m ≤ n := hm
    have := Nat.mul_le_mul_right es hm
    simp; omega
  | no => exact hs.elim
theorem firstCells_some {es m : Nat} {A : Addr} {vs : List Value} (hl : vs.length = m * es) (hc : ∀ j u, vs[j]? = some u → w.cell? (A.add j) = some u) {n c0 : Nat} : (Builtin.firstCells es m (.slice (some A) n c0)).run Pr w = .ok vs.toArray w := by
  have := run_loadCells_list (P := Pr) w A vs hc
  rw [hl] at this
  simpa [Builtin.firstCells] using this
theorem src_ok {es : Nat} {x : HV} {u : Value} (hi : HOk D g h c w) (hx : TRep g c x u) (hn : srcOf D es h x ≠ .no) :
    (∀ w', (Builtin.lenOf u).run Pr w' = .ok (srcOf D es h x).len w') ∧ ∃ us, SRep g c es (srcOf D es h x) us ∧ ∀ w', Ext w w' → ∀ m, m ≤ (srcOf D es h x).len → (Builtin.firstCells es m u).run Pr w' = .ok (us.take (m * es)).toArray w' := by
  unfold srcOf at hn ⊢
  cases x <;> try exact absurd rfl hn
  · rename_i n d
    obtain ⟨hd, e1⟩ : d < 256 ^ n ∧ u = strOf n d := hx
    subst e1
    simp only at hn ⊢
    cases hb : Nat.beq es 1 with
    | false => rw [hb] at hn; exact absurd rfl hn
    | true =>
      have := Nat.eq_of_beq_eq_true hb; subst this
      have hsz : (⟨(bytesOf n d).toArray⟩ : ByteArray).size = n := by simp [ByteArray.size, bytesOf_length]
      refine ⟨fun w' => by simp only [strOf]; simp [Builtin.lenOf, hsz, Src.len], _, ⟨rfl, hd, rfl⟩, fun w' _ m hm => ?_⟩
      have hm : m ≤ n := hm
      simp only [strOf]
      simp only [Builtin.firstCells, Sem.run_pure]
      congr 1
      apply Array.ext'
      simp [ByteArray.data_extract, List.extract_eq_take_drop]
  · have e1 : u = .slice none 0 0 := hx
    subst e1
    exact ⟨fun w' => by simp [Builtin.lenOf, Src.len], [], ⟨by simp, rfl, fun i x u hx => by simp at hx⟩, fun w' _ m hm => by simp [Builtin.firstCells]⟩
  · rename_i k o n es' cl
    obtain ⟨hk, A, q, e1, hnm, hmm, hes, hlen, hbs, hfull, hcl, hA⟩ := hx
    subst e1
    simp only at hn ⊢
    cases hbe : Nat.beq es es' with
    | false => rw [hbe] at hn; exact absurd rfl hn
    | true =>
      have := Nat.eq_of_beq_eq_true hbe; subst this
      rw [hbe] at hn
      simp only at hn ⊢
      have rd : ∀ (us : List Value), us.length = (g k).len → (∀ (j : Nat) (u : Value), us[j]? = some u → w.cell? ⟨(g k).b, (g k).o + j, none⟩ = some u) → (g k).b < w.heap.size →
          ∀ w', Ext w w' → ∀ m, m ≤ n → (Builtin.firstCells es m (.slice (some A) n q)).run Pr w' = .ok ((((us.drop o).take (n * es)).take (m * es)).toArray) w' := by
        intro us hul hcell hB w' hw' m hm
        by_cases hm0 : m = 0
        · subst hm0
          simp [Builtin.firstCells, loadCells, loadCellsFrom]
        · have hAe := hA (by omega)
          subst hAe
          have hme : m * es ≤ n * es := Nat.mul_le_mul_right es hm
          refine firstCells_some (by simp; omega) fun j u hj => ?_
          simp only [addrOf]
          rw [Addr.add_lit, Nat.add_assoc]
          rw [List.getElem?_take] at hj
          split at hj
          · rw [List.getElem?_take] at hj
            split at hj
            · rw [List.getElem?_drop] at hj
              have := hcell (o + j) u hj
              rw [← this]
              exact World.cell?_of_block (w := w) (a := ⟨(g k).b, (g k).o + (o + j), none⟩) (hw'.heap _ hB)
            · cases hj
          · cases hj
      cases hb : (HT.get D k h).body with
      | no => rw [hb] at hn; exact absurd rfl hn
      | map es cl => rw [hb] at hn; exact absurd rfl hn
      | cells cs =>
        rw [hb] at hn
        simp only at hn ⊢
        by_cases hle : Nat.ble (Nat.add o (Nat.mul n es)) cs.length = true
        · rw [if_pos hle]
          obtain ⟨us, h1, h2, h3, h4⟩ := (hi.body hk.1 hb (by simp)).cells
          have hle : o + n * es ≤ cs.length := Nat.le_of_ble_eq_true hle
          refine ⟨fun w' => by simp [Builtin.lenOf, Src.len], (us.drop o).take (n * es), ⟨?_, (CReps.drop h2 o).take _⟩, rd us h1 h4 (hi.body hk.1 hb (by simp)).lt⟩
          have : cs.length = us.length := h2.1.symm
          simp; omega
        · rw [if_neg hle] at hn; exact absurd rfl hn
      | byt mm d =>
        rw [hb] at hn
        simp only at hn ⊢
        by_cases hle : (Nat.ble (Nat.add o n) mm && Nat.beq es 1) = true
        · rw [if_pos hle]
          simp only [Bool.and_eq_true] at hle
          have hes1 := Nat.eq_of_beq_eq_true hle.2
          subst hes1
          have hle1 : o + n ≤ mm := Nat.le_of_ble_eq_true hle.1
          obtain ⟨us, h1, ⟨h2, h2'⟩, h3, h4⟩ := (hi.body hk.1 hb (by simp)).cells
          refine ⟨fun w' => by simp [Builtin.lenOf, Src.len], (us.drop o).take (n * 1), ⟨rfl, bCut_lt _ _ _, ?_⟩, rd us h1 h4 (hi.body hk.1 hb (by simp)).lt⟩
          rw [bytesOf_cut mm d o n hle1, h2', List.map_take, List.map_drop, Nat.mul_one]
        · rw [if_neg hle] at hn; exact absurd rfl hn
theorem overO_ok {o : Nat} {y x : HB} {us vs : List Value} (hx : BRep g c x us) (hy : BRep g c y vs) (hn : overO o y x ≠ .no) : o + vs.length ≤ us.length ∧ BRep g c (overO o y x) (us.take o ++ (vs ++ us.drop (o + vs.length))) := by
  cases x with
  | no => exact hx.elim
  | map es cl => exact hx.elim
  | cells cs =>
    cases y with
    | no => exact hy.elim
    | map es cl => exact hy.elim
    | byt m e => exact absurd rfl hn
    | cells ds =>
      have e : overO o (.cells ds) (.cells cs) = (match layL cs o ds with | some cs => .cells cs | none => .no) := rfl
      rw [e] at hn ⊢
      cases hl : layL cs o ds with
      | none => rw [hl] at hn; exact absurd rfl hn
      | some es => exact layL_ok hx hy hl
  | byt n d =>
    cases y with
    | no => exact hy.elim
    | map es cl => exact hy.elim
    | cells ds => exact absurd rfl hn
    | byt m e =>
      have e' : overO o (.byt m e) (.byt n d) = if Nat.ble (Nat.add o m) n then .byt n (bLay d o m e) else .no := rfl
      rw [e'] at hn ⊢
      by_cases hle : Nat.ble (Nat.add o m) n = true
      · rw [if_pos hle]
        have hle1 : o + m ≤ n := Nat.le_of_ble_eq_true hle
        obtain ⟨hd, rfl⟩ := hx
        obtain ⟨he, rfl⟩ := hy
        obtain ⟨q1, q2⟩ := bytesOf_lay n d o m e hle1 hd he
        refine ⟨by simpa [bytesOf_length] using hle1, q1, ?_⟩
        rw [q2]
        simp [bytesOf_length]
      · rw [if_neg hle] at hn; exact absurd rfl hn
theorem overO_plain {o : Nat} {y x : HB} (h : overO o y x ≠ .no) : isMap x = false := by
  cases x with
  | map es cl => exfalso; cases y <;> exact h rfl
  | _ => rfl
theorem joinO_plain {o n : Nat} {y x : HB} (h : joinO o n x y ≠ .no) : isMap x = false := by
  cases x with
  | map es cl => exfalso; cases y <;> exact h rfl
  | _ => rfl
theorem joinO_ok {o n : Nat} {x y : HB} {us vs : List Value} (hx : BRep g c x us) (hy : BRep g c y vs) (hn : joinO o n x y ≠ .no) : o + n ≤ us.length ∧ BRep g c (joinO o n x y) ((us.drop o).take n ++ vs) := by
  cases x with
  | no => exact hx.elim
  | map es cl => exact hx.elim
  | cells cs =>
    cases y with
    | no => exact hy.elim
    | map es cl => exact hy.elim
    | byt m e => exact absurd rfl hn
    | cells ds =>
      have e : joinO o n (.cells cs) (.cells ds) = if Nat.ble (Nat.add o n) cs.length then .cells ((cs.drop o).take n ++ ds) else .no := rfl
      rw [e] at hn ⊢
      by_cases hle : Nat.ble (Nat.add o n) cs.length = true
      · rw [if_pos hle]
        have hle1 : o + n ≤ cs.length := Nat.le_of_ble_eq_true hle
        exact ⟨by rw [hx.1]; exact hle1, ((CReps.drop hx o).take n).append hy⟩
      · rw [if_neg hle] at hn; exact absurd rfl hn
  | byt m d =>
    cases y with
    | no => exact hy.elim
    | map es cl => exact hy.elim
    | cells ds => exact absurd rfl hn
    | byt m' e =>
      have e' : joinO o n (.byt m d) (.byt m' e) = if Nat.ble (Nat.add o n) m then .byt (Nat.add n m') (Nat.add (bCut d o n) (Nat.mul e (p8 n))) else .no := rfl
      rw [e'] at hn ⊢
      by_cases hle : Nat.ble (Nat.add o n) m = true
      · rw [if_pos hle]
        have hle1 : o + n ≤ m := Nat.le_of_ble_eq_true hle
        obtain ⟨hd, rfl⟩ := hx
        obtain ⟨he, rfl⟩ := hy
        refine ⟨by simpa [bytesOf_length] using hle1, append_lt (bCut_lt d o n) he, ?_⟩
        show _ = (bytesOf (n + m') (bCut d o n + e * 256 ^ n)).map _
        rw [bytesOf_append n m' _ e (bCut_lt d o n), bytesOf_cut m d o n hle1]
        simp
      · rw [if_neg hle] at hn; exact absurd rfl hn
end
end
end Go.FM

/-! ## FnWr3 -/
namespace Go.FM
noncomputable section
variable [Env]
open Go.AbsM (flat foldl_lay flat_replicate madeCells_flat)
section
variable {Pr : Program} {D : Nat} {w w' : World} {g : Gm} {h h' : HT} {c c' : Nat} {v : HV}
theorem store_ok {t : TypeId} {f : HT → Nat → HV → HV → CR} (hf : storeF Pr D t = .f f) (hi : HOk D g h c w) {x y : HV} {u z : Value} (hx : TRep g c x u) (hy : TRep g c y z) (hr : f h c x y = .ok v h' c') :
    ∃ w' g', (Instr.storeAt t u z).run Pr w = .ok () w' ∧ HOk D g' h' c' w' ∧ Post g (hp D h) c w g' (hp D h') c' w' ∧ v = .und := by
  unfold storeF at hf
  split at hf
  · rename_i n hn
    injection hf with hf; subst hf
    unfold store at hr
    cases x <;> try cases hr
    rename_i k off
    simp only at hr
    obtain ⟨hk, e1⟩ := hx
    subst e1
    have e2 := (putO_some hr).choose_spec.choose_spec.2.2.1
    have key : Eff D g h c w (((Instr.storeAt t (.pointer (some (addrOf g k off))) z).run Pr w).andThen fun _ w' => .ok undef w') v h' c' := by
      refine put_eff hi hk.1 hr (fun pre b ho hno hb => ?_) (show TRep g c .und undef from rfl)
      have q : ∀ vals : List Value, vals = z.cells.toList → z.cells.size = n → (∃ w', (storeCells ⟨(g k).b, (g k).o + off, none⟩ vals).run Pr w = .ok () w' ∧ Chg (g k).b w w' ∧ BOk g c (g k) (storeO n off y b) w') →
          ∃ w', (((Instr.storeAt t (.pointer (some (addrOf g k off))) z).run Pr w).andThen fun _ w' => .ok undef w') = .ok undef w' ∧ Chg (g k).b w w' ∧ BOk g c (g k) (storeO n off y b) w' := by
        rintro vals rfl hzs ⟨w', h1, h2, h3⟩
        refine ⟨w', ?_, h2, h3⟩
        have hsv := Go.AbsM.storeVar_run (P := Pr) (w := w) (t := t) (n := n) (ad := addrOf g k off) (v := z) hn hzs
        have : (Instr.storeAt t (.pointer (some (addrOf g k off))) z).run Pr w = .ok () w' := by
          simp only [Instr.storeAt, Instr.sureAddr, Sem.run_bind, Sem.run_pure, Result.andThen_ok, hsv]
          exact h1
        rw [this]; rfl
      cases b with
      | no => exact absurd rfl hno
      | cells cs =>
        have e : storeO n off y (.cells cs) = if y.cells.length = n ∧ y.cells.all HV.isCell then match layL cs off y.cells with | some ds => .cells ds | none => .no else .no := rfl
        rw [e] at hno ⊢
        by_cases hc : y.cells.length = n ∧ y.cells.all HV.isCell
        · rw [if_pos hc] at hno ⊢
          have hcr := hy.cells hc.2
          have hzs : z.cells.size = n := by
            have := hcr.1
            simp only [Array.length_toList] at this
            rw [this, hc.1]
          cases hl : layL cs off y.cells with
          | none => rw [hl] at hno; exact absurd rfl hno
          | some ds =>
            have e3 : storeO n off y (.cells cs) = .cells ds := by rw [e, if_pos hc, hl]
            have := q _ rfl hzs
            rw [e3] at this
            refine this (write_run rfl hb hcr.ones ?_ fun us hul hus => (layL_ok hus hcr hl).2)
            obtain ⟨us, h1, h2, h3, _⟩ := hb.cells
            have := (layL_len hl).2
            rw [hcr.1, h3]; exact this
        · rw [if_neg hc] at hno; exact absurd rfl hno
      | map es cl => exact absurd rfl hno
      | byt m d =>
        have e : storeO n off y (.byt m d) = match u8Of y with | some b => if Nat.blt off m && Nat.beq n 1 then .byt m (bLay d off 1 b) else .no | none => .no := rfl
        rw [e] at hno ⊢
        cases hb8 : u8Of y with
        | none => rw [hb8] at hno; exact absurd rfl hno
        | some b8 =>
          rw [hb8] at hno
          simp only at hno ⊢
          by_cases hc : (Nat.blt off m && Nat.beq n 1) = true
          · rw [if_pos hc]
            obtain ⟨e4, hlt8⟩ := u8Of_some hb8
            rw [e4] at hy
            have hz : z = .int .u8 (b8 : Int) := hy
            have hc' := hc
            simp only [Bool.and_eq_true] at hc'
            have hn1 := Nat.eq_of_beq_eq_true hc'.2
            have hoff : off < m := Nat.le_of_ble_eq_true hc'.1
            have e3 : storeO n off y (.byt m d) = .byt m (bLay d off 1 b8) := by rw [e, hb8]; simp only; rw [if_pos hc]
            have hzc : z.cells = #[z] := by rw [hz]; rfl
            have := q [z] (by rw [hzc]) (by rw [hzc, hn1]; rfl)
            rw [e3] at this
            obtain ⟨us0, h1, h2, h3, _⟩ := hb.cells
            refine this (write_run rfl hb (by intro u hu; simp at hu; subst hu; rw [hz]; rfl) (by rw [h3]; exact hoff) fun us hul hus => ?_)
            obtain ⟨hd, rfl⟩ := hus
            obtain ⟨q1, q2⟩ := bytesOf_lay m d off 1 b8 (by omega) hd (by simpa using hlt8)
            refine ⟨q1, ?_⟩
            rw [q2]
            have hb1 : bytesOf 1 b8 = [UInt8.ofNat b8] := by rw [bytesOf_succ, bytesOf_zero, Nat.mod_eq_of_lt hlt8]
            rw [hb1, hz]
            simp [toNat_ofNat b8 hlt8, ← List.map_take, ← List.map_drop]
          · rw [if_neg hc] at hno; exact absurd rfl hno
    obtain ⟨zz, w', g', h1, h2, h3, h4⟩ := key
    cases hrr : (Instr.storeAt t (.pointer (some (addrOf g k off))) z).run Pr w with
    | ok a w1 =>
      rw [hrr] at h1
      simp only [Result.andThen_ok, Result.ok.injEq] at h1
      obtain ⟨rfl, rfl⟩ := h1
      exact ⟨w1, g', rfl, h2, h3, e2⟩
    | halt a w1 => rw [hrr] at h1; cases h1
  · cases hf
theorem copy_ok {t ty : TypeId} {rest : List TypeId} {f : HT → Nat → HV → HV → CR} (hf : copyF Pr D t = .f f) (hi : HOk D g h c w) {x y : HV} {u z : Value} (hx : TRep g c x u) (hy : TRep g c y z) (hr : f h c x y = .ok v h' c') :
    Eff D g h c w ((Builtin.copy_ (t :: rest).toArray ty #[u, z]).run Pr w) v h' c' := by
  unfold copyF at hf
  split at hf
  · rename_i e he
    have hu := elemT_some he
    split at hf
    · rename_i es hes
      injection hf with hf; subst hf
      unfold copy at hr
      have hsn : srcOf D es h y ≠ .no := fun e => by rw [e] at hr; cases hr
      obtain ⟨hlen, us, hsr, hfirst⟩ := src_ok hi hy hsn
      have hf0 : (Builtin.firstCells es 0 z).run Pr w = .ok #[] w := by simpa using hfirst w (Ext.refl w) 0 (Nat.zero_le _)
      have zero : ∀ {A : Option Addr} {n m : Nat}, u = .slice A n m → min (srcOf D es h y).len n = 0 → (Builtin.copy_ (t :: rest).toArray ty #[u, z]).run Pr w = .ok (.int .i64 0) w := by
        rintro A n m rfl h0
        exact Go.AbsM.copy_zero hu hes (hlen w) h0 hf0
      have hr2 : (match x with
        | .nils => CR.ok (.int .i64 (.ofNat 0)) h c
        | .slc k o n es' _ =>
          let m := Nat.min (srcOf D es h y).len n
          if Nat.beq m 0 then .ok (.int .i64 (.ofNat 0)) h c else
          if Nat.beq es es' then putO D k (overO o ((cutSrc es m (srcOf D es h y)).obj (isU8 Pr e))) (.int .i64 (.ofNat m)) h c else .x 14
        | _ => .x 14) = .ok v h' c' := by
        cases hq : srcOf D es h y with
        | no => exact absurd hq hsn
        | byt n d => rw [hq] at hr; exact hr
        | cells n cs => rw [hq] at hr; exact hr
      clear hr
      cases x <;> try cases hr2
      · have e1 : u = .slice none 0 0 := hx
        exact Eff.same hi (zero e1 (by simp)) rfl
      · rename_i k o n es' cl
        obtain ⟨hk, A, m, e1, hnm, hmm, hes', hl2, hbs, hfull, hcl, hA⟩ := hx
        simp only at hr2
        have hmin : Nat.min (srcOf D es h y).len n = min (srcOf D es h y).len n := rfl
        rw [hmin] at hr2
        by_cases h0 : Nat.beq (min (srcOf D es h y).len n) 0 = true
        · rw [if_pos h0] at hr2
          cases hr2
          exact Eff.same hi (zero e1 (Nat.eq_of_beq_eq_true h0)) rfl
        · rw [if_neg h0] at hr2
          have h0' : min (srcOf D es h y).len n ≠ 0 := fun e => h0 (by rw [e]; rfl)
          by_cases hbe : Nat.beq es es' = true
          · rw [if_pos hbe] at hr2
            have := Nat.eq_of_beq_eq_true hbe; subst this
            have hml : min (srcOf D es h y).len n ≤ (srcOf D es h y).len := Nat.min_le_left _ _
            have hmn : min (srcOf D es h y).len n ≤ n := Nat.min_le_right _ _
            generalize hM : min (srcOf D es h y).len n = M at *
            have hcut := hsr.cut hml
            refine put_eff hi hk.1 hr2 (fun pre b ho hno hb => ?_) (rfl : TRep g c (.int .i64 (M : Nat)) (.int .i64 (M : Nat)))
            have hobn : (cutSrc es M (srcOf D es h y)).obj (isU8 Pr e) ≠ .no := fun e => by
              rw [e] at hno
              cases b <;> exact hno rfl
            have hbr := hcut.obj hobn
            obtain ⟨us0, h1, h2, h3, _⟩ := hb.cells (overO_plain hno)
            have hov := overO_ok h2 hbr hno
            obtain ⟨w', q1, q2, q3⟩ := write_run (Pr := Pr) (b' := overO o ((cutSrc es M (srcOf D es h y)).obj (isU8 Pr e)) b) (overO_plain hno) hb hcut.ones (by rw [← h1]; exact hov.1) (fun us' hul hus => (overO_ok hus hbr hno).2)
            refine ⟨w', ?_, q2, q3⟩
            subst e1
            rw [hA (by omega)]
            have hfm := hfirst w (Ext.refl w) M hml
            have hmin2 : Nat.min (srcOf D es h y).len n = M := hM
            simp [Builtin.copy_, run_underlying hu, hlen w, sizeT_run hes, hmin2, hfm, addrOf, q1, goInt]
          · rw [if_neg hbe] at hr2; cases hr2
    · cases hf
  · cases hf
theorem clear_ok {t ty : TypeId} {rest : List TypeId} {f : HT → Nat → HV → HV → CR} (hf : clearF Pr D t = .f f) (hi : HOk D g h c w) {x y : HV} {u : Value} (hx : TRep g c x u) (hr : f h c x y = .ok v h' c') :
    Eff D g h c w ((Builtin.clear_ (t :: rest).toArray ty #[u]).run Pr w) v h' c' := by
  unfold clearF at hf
  split at hf
  · rename_i e he
    have hu := elemT_some he
    split at hf
    · rename_i es hes
      split at hf
      · cases hf
      · rename_i hno
        have hes0 : es ≠ 0 := fun e => hno (.inl e)
        have hzl : (zeroT Pr e).cells.length = es := Decidable.byContradiction fun e => hno (.inr e)
        injection hf with hf; subst hf
        unfold clearE at hr
        cases x <;> try cases hr
        · have e1 : u = .slice none 0 0 := hx
          subst e1
          exact Eff.same hi (z := undef) (by simp [Builtin.clear_, run_underlying hu, undef]) rfl
        · rename_i k o n es' cl
          obtain ⟨hk, A, m, e1, hnm, hmm, hes', hl2, hbs, hfull, hcl, hA⟩ := hx
          subst e1
          simp only at hr
          by_cases h0 : Nat.beq n 0 = true
          · rw [if_pos h0] at hr
            cases hr
            have := Nat.eq_of_beq_eq_true h0; subst this
            exact Eff.same hi (z := undef) (by simp [Builtin.clear_, run_underlying hu, undef]) rfl
          · rw [if_neg h0] at hr
            have h0' : n ≠ 0 := fun e => h0 (by rw [e]; rfl)
            refine put_eff hi hk.1 hr (fun pre b ho hno hb => ?_) (rfl : TRep g c .und undef)
            have hobn : repO (isU8 Pr e) n (zeroT Pr e).cells ≠ .no := fun e => by
              rw [e] at hno
              cases b <;> exact hno rfl
            have hzd : zeroT Pr e ≠ .dead := fun hd => by
              rw [hd] at hobn
              cases hq : isU8 Pr e with
              | false => rw [hq] at hobn; exact hobn rfl
              | true => rw [hq] at hobn; exact hobn rfl
            obtain ⟨i, zv, hii, hzv, hez⟩ := zeroT_some hzd
            have hcc := (constV_cells (g := g) (c := c) (v := zv) (by rw [← hez]; exact hzd)).1
            rw [← hez] at hcc
            have hbr := repO_ok (l := n) hcc hobn
            obtain ⟨us0, h1, h2, h3, _⟩ := hb.cells (overO_plain hno)
            have hov := overO_ok h2 hbr hno
            obtain ⟨w', q1, q2, q3⟩ := write_run (Pr := Pr) (b' := overO o (repO (isU8 Pr e) n (zeroT Pr e).cells) b) (overO_plain hno) hb hbr.ones (by rw [← h1]; exact hov.1) (fun us' hul hus => (overO_ok hus hbr hno).2)
            refine ⟨w', ?_, q2, q3⟩
            rw [hA (by omega)]
            have hzr : (zeroValue e).run Pr w = .ok zv w := by simp [zeroValue, typeInfo, hii, hzv]
            have hzp : 0 < zv.cells.size := by
              have h5 := hcc.1
              simp only [Array.length_toList] at h5
              rw [h5, hzl]
              omega
            have hzf : (Builtin.zeroCells zv.cells n).toList = (List.replicate n zv.cells.toList).flatten := by
              rw [Go.AbsM.zeroCells_flat hzp, flat_replicate]
            obtain ⟨n', rfl⟩ : ∃ n', n = n' + 1 := ⟨n - 1, by omega⟩
            simp [Builtin.clear_, run_underlying hu, hzr, hzf, addrOf, q1, undef]
    · cases hf
  · cases hf
theorem appendF_inv {t t2 : TypeId} {f : HT → Nat → HV → HV → CR} (hf : appendF Pr D t t2 = .f f) : Go.AbsM.SrcT Pr t2 ∧ ∃ e i zv, Pr.underlying t = some (.slice e) ∧ Pr.info? e = some i ∧ i.zero = some zv ∧ i.size ≠ 0 ∧ i.bytes ≠ 0 ∧ zv.cells.size = i.size ∧ f = append D (isU8 Pr e) i.size i.bytes := by
  have core : Go.AbsM.SrcT Pr t2 → (match elemT Pr t with
    | some e => match sizeT Pr e, bytesT Pr e, zeroT Pr e with
      | some es, some by_, z => if es = 0 ∨ by_ = 0 ∨ z.cells.length ≠ es ∨ z.cells.all HV.isCell = false then E2.no else .f (append D (isU8 Pr e) es by_)
      | _, _, _ => .no
    | none => .no) = .f f → Go.AbsM.SrcT Pr t2 ∧ ∃ e i zv, Pr.underlying t = some (.slice e) ∧ Pr.info? e = some i ∧ i.zero = some zv ∧ i.size ≠ 0 ∧ i.bytes ≠ 0 ∧ zv.cells.size = i.size ∧ f = append D (isU8 Pr e) i.size i.bytes := by
    intro hs hf
    refine ⟨hs, ?_⟩
    split at hf
    · rename_i e he
      split at hf
      · rename_i es by_ hes hby
        split at hf
        · cases hf
        · rename_i hno
          injection hf with hf; subst hf
          have h1 : es ≠ 0 := fun e => hno (.inl e)
          have h2 : by_ ≠ 0 := fun e => hno (.inr (.inl e))
          have h3 : (zeroT Pr e).cells.length = es := Decidable.byContradiction fun e => hno (.inr (.inr (.inl e)))
          have h4 : (zeroT Pr e).cells.all HV.isCell = true := by
            cases hq : (zeroT Pr e).cells.all HV.isCell with
            | true => rfl
            | false => exact absurd (.inr (.inr (.inr hq))) hno
          have hzd : zeroT Pr e ≠ .dead := fun hd => by rw [hd] at h4; cases h4
          obtain ⟨i, zv, hii, hzv, hez⟩ := zeroT_some hzd
          obtain ⟨i1, hi1, rfl⟩ := Option.map_eq_some_iff.1 hes
          rw [hii] at hi1; cases hi1
          obtain ⟨i2, hi2, rfl⟩ := Option.map_eq_some_iff.1 hby
          rw [hii] at hi2; cases hi2
          have hcc := (constV_cells (g := fun _ => ⟨0, 0, 0, 0⟩) (c := 0) (v := zv) (by rw [← hez]; exact hzd)).1
          rw [← hez] at hcc
          have hzs : zv.cells.size = i.size := by
            have := hcc.1
            simp only [Array.length_toList] at this
            rw [this, h3]
          exact ⟨e, i, zv, elemT_some he, hii, hzv, h1, h2, hzs, rfl⟩
      · cases hf
    · cases hf
  unfold appendF at hf
  split at hf
  · rename_i e2 h2; exact core (.inl ⟨_, h2⟩) hf
  · rename_i h2; exact core (.inr h2) hf
  · cases hf
theorem Chg.of_ext {B : Nat} (hx : Ext w w') : Chg B w w' := ⟨hx.os, hx.tape, hx.out, hx.sz, fun b hb _ => hx.heap b hb⟩
theorem list_join {α : Type} (vs us : List α) (q a : Nat) (h1 : q + a + us.length ≤ vs.length) :
    ((vs.take (q + a) ++ us ++ vs.drop (q + a + us.length)).drop q).take (a + us.length) = (vs.drop q).take a ++ us := by
  apply List.ext_getElem?
  intro j
  rw [List.getElem?_take, List.getElem?_drop, List.append_assoc]
  by_cases h2 : j < a
  · rw [if_pos (by omega), List.getElem?_append_left (by simp; omega), List.getElem?_take, if_pos (by omega), List.getElem?_append_left (by simp; omega), List.getElem?_take, if_pos h2, List.getElem?_drop]
  · have e1 : (vs.take (q + a)).length = q + a := by simp; omega
    have e2 : ((vs.drop q).take a).length = a := by simp; omega
    rw [List.getElem?_append_right (l₁ := vs.take (q + a)) (by omega), List.getElem?_append_right (l₁ := (vs.drop q).take a) (by omega), e1, e2]
    by_cases h3 : j < a + us.length
    · rw [if_pos h3, List.getElem?_append_left (by omega)]
      congr 1; omega
    · rw [if_neg h3]
      symm
      exact List.getElem?_eq_none (by omega)
theorem append_ok {t t2 ty : TypeId} {f : HT → Nat → HV → HV → CR} (hf : appendF Pr D t t2 = .f f) (hi : HOk D g h c w) {x y : HV} {u z : Value} (hx : TRep g c x u) (hy : TRep g c y z) (hr : f h c x y = .ok v h' c') :
    Eff D g h c w ((Builtin.append_ #[t, t2] ty #[u, z]).run Pr w) v h' c' := by
  obtain ⟨hst, e, i, zv, hu, hii, hzv, hes0, hby0, hzs, rfl⟩ := appendF_inv hf
  unfold append at hr
  simp only at hr
  have hsn : srcOf D i.size h y ≠ .no := fun e => by rw [e] at hr; cases hr
  obtain ⟨hlen, us, hsr, hfirst⟩ := src_ok (Pr := Pr) hi hy hsn
  generalize hs : srcOf D i.size h y = s at *
  have hus : us.length = s.len * i.size := hsr.len
  have hfull : us.take (s.len * i.size) = us := List.take_of_length_le (by omega)
  have hf0 : ∀ w', Ext w w' → (Builtin.firstCells i.size s.len z).run Pr w' = .ok us.toArray w' := fun w' hw' => by
    have := hfirst w' hw' s.len (Nat.le_refl _)
    rw [hfull] at this; exact this
  have hobn : s.obj (isU8 Pr e) ≠ .no := fun e => by rw [e] at hr; cases hr
  have hbr := hsr.obj hobn
  have hr2 : (match x with
    | .nils => if Nat.beq s.len 0 then CR.ok .nils h c else if Nat.ble (Nat.mul s.len i.bytes) 140737488355328 then newO D 0 (s.obj (isU8 Pr e)) (.slc c 0 s.len i.size false) h c else .x 9
    | .slc k o n es' cl => if Nat.beq s.len 0 then .ok (.slc k o n es' cl) h c else
      if Nat.beq i.size es' && Nat.ble (Nat.mul (Nat.add n s.len) i.bytes) 140737488355328 then
      match HT.get D k h with
      | .own pre x =>
        if cl then newO D 0 (joinO o (Nat.mul n i.size) x (s.obj (isU8 Pr e))) (.slc c 0 (Nat.add n s.len) i.size false) h c
        else if Nat.beq (Nat.add o (Nat.mul n i.size)) (sizeO x) && Nat.beq o 0 then newO D (Nat.succ k) (joinO o (Nat.mul n i.size) x (s.obj (isU8 Pr e))) (.slc c 0 (Nat.add n s.len) i.size false) (HT.set D k (.sh x) (unpre D pre h)) c
        else if Nat.ble (Nat.add (Nat.add o (Nat.mul n i.size)) (Nat.mul s.len i.size)) (sizeO x) then putO D k (overO (Nat.add o (Nat.mul n i.size)) (s.obj (isU8 Pr e))) (.slc k o (Nat.add n s.len) i.size false) h c
        else .x 11
      | .sh x => if cl then newO D 0 (joinO o (Nat.mul n i.size) x (s.obj (isU8 Pr e))) (.slc c 0 (Nat.add n s.len) i.size false) h c else .x 18
      | .no => .x 11
      else .x 11
    | _ => .x 12) = .ok v h' c' := by
    cases hq : s.obj (isU8 Pr e) with
    | no => exact absurd hq hobn
    | cells cs => rw [hq] at hr; exact hr
    | byt n d => rw [hq] at hr; exact hr
    | map es cl => rw [hq] at hr; exact hr
  clear hr
  have hby : 0 < i.bytes := by omega
  have fresh : ∀ {A : Option Addr} {n m pre : Nat} {olds : List Value} {b : HB}, u = .slice A n m → (Builtin.firstCells i.size n (.slice A n m)).run Pr w.drew = .ok olds.toArray w.drew → olds.length = n * i.size → m < n + s.len → (n + s.len) * i.bytes ≤ 140737488355328 →
      ∃ w' cap, (Builtin.append_ #[t, t2] ty #[u, z]).run Pr w = .ok (.slice (some ⟨w.heap.size, 0, none⟩) (n + s.len) cap) w' ∧ Ext w w' ∧ n + s.len ≤ cap ∧ cap ≤ maxLen ∧
        ∀ {g' : Gm} {c1 : Nat} {b : HB}, BRep g' c1 b (olds ++ us) → BOk g' c1 ⟨w.heap.size, 0, (n + s.len) * i.size, cap * i.size⟩ b w' := by
    rintro A n m pre olds b rfl hfo hol hgr hb
    have hrun := Go.AbsM.append_run_grow (ty := ty) (n := n) (c := m) hu hst hii hzv (hlen w) (hf0 _ (Ext.drew w)) hfo hgr hb hby
    have hge := grownCap_ge w (n + s.len) m e
    have hnm := Go.AbsM.grown_bound (c := m) (e := e) hb hby
    have hgm := grownCap_le_maxLen w (n + s.len) m e hnm
    refine ⟨_, _, hrun, (Ext.drew w).trans (Ext.alloc w.drew _), hge, hgm, fun {g' c1 b} hbb => ?_⟩
    have hzc : (Builtin.zeroCells zv.cells (grownCap w (n + s.len) m e - (n + s.len))).size = (grownCap w (n + s.len) m e - (n + s.len)) * i.size := by
      simp [Builtin.zeroCells, hzs]
    have hall : (olds ++ us ++ (Builtin.zeroCells zv.cells (grownCap w (n + s.len) m e - (n + s.len))).toList).length = grownCap w (n + s.len) m e * i.size := by
      simp only [List.length_append, Array.length_toList, hzc, hol, hus, ← Nat.add_mul]
      congr 1; omega
    refine .inl ⟨olds ++ us ++ (Builtin.zeroCells zv.cells (grownCap w (n + s.len) m e - (n + s.len))).toList, e, ?_, hall, ?_, ?_⟩
    · have := heap_alloc_new w.drew (.cells (olds.toArray ++ us.toArray ++ Builtin.zeroCells zv.cells (grownCap w (n + s.len) m e - (n + s.len))) e)
      have e1 : (olds ++ us ++ (Builtin.zeroCells zv.cells (grownCap w (n + s.len) m e - (n + s.len))).toList).toArray = olds.toArray ++ us.toArray ++ Builtin.zeroCells zv.cells (grownCap w (n + s.len) m e - (n + s.len)) := by
        apply Array.ext'; simp
      rw [e1]; exact this
    · refine ⟨rfl, ?_⟩
      show 0 + (n + s.len) * i.size ≤ _
      have := Nat.mul_le_mul_right i.size hge
      simp only
      omega
    · have hl2 : (olds ++ us).length = (n + s.len) * i.size := by rw [List.length_append, hol, hus, Nat.add_mul]
      simp only [At.row, List.drop_zero]
      rw [List.take_append_of_le_length (by rw [hl2]; exact Nat.le_refl _), List.take_of_length_le (by rw [hl2]; exact Nat.le_refl _)]
      exact hbb
  have hm48 : ∀ q : Nat, Nat.ble (Nat.mul q i.bytes) 140737488355328 = true → q * i.bytes ≤ 140737488355328 := fun q hq => Nat.le_of_ble_eq_true hq
  have us0 : s.len = 0 → us = [] := fun h0 => List.eq_nil_of_length_eq_zero (by rw [hus, h0, Nat.zero_mul])
  cases x <;> try cases hr2
  ·
    have e1 : u = .slice none 0 0 := hx
    simp only at hr2
    by_cases h0 : Nat.beq s.len 0 = true
    · rw [if_pos h0] at hr2
      cases hr2
      have h0' := Nat.eq_of_beq_eq_true h0
      subst e1
      have := Go.AbsM.append_run_room (P := Pr) (A := none) (ty := ty) (n := 0) (c := 0) hu hst hii (hlen w) (hf0 w (Ext.refl w)) (by omega)
      rw [h0'] at this
      exact Eff.same hi (z := .slice none 0 0) (by simpa using this) rfl
    · rw [if_neg h0] at hr2
      have h0' : s.len ≠ 0 := fun e => h0 (by rw [e]; rfl)
      split at hr2
      · rename_i hb
        have hb' := hm48 _ hb
        obtain ⟨w', cap, hrun, hext, hc1, hc2, hbk⟩ := fresh (n := 0) (m := 0) (pre := 0) (olds := []) (b := .no) e1 (by simp [Builtin.firstCells]) (by simp) (by omega) (by rw [Nat.zero_add]; exact hb')
        simp only [Nat.zero_add] at hrun hc1
        have hbr' := BRep.mono (g' := g.new c ⟨w.heap.size, 0, s.len * i.size, cap * i.size⟩) (c' := c + 1) hbr (agree_new g c _) (Nat.le_succ c)
        have hbok := hbk (g' := g.new c ⟨w.heap.size, 0, s.len * i.size, cap * i.size⟩) (c1 := c + 1) (b := s.obj (isU8 Pr e)) (by simpa using hbr')
        simp only [Nat.zero_add] at hbok
        exact new_eff hi hext (Nat.le_refl _) hbok hr2 hrun (slc_fresh (by omega) hc1 hc2)
      · cases hr2
  · rename_i k o n es' cl
    have hx0 := hx
    obtain ⟨hk, A, m, e1, hnm, hmm, hes', hl2, hbs, hfl, hcl, hA⟩ := hx
    simp only at hr2
    have hk4 : k < 4 ^ D := Nat.lt_of_lt_of_le hk.1 hi.le
    by_cases h0 : Nat.beq s.len 0 = true
    · rw [if_pos h0] at hr2
      cases hr2
      have h0' := Nat.eq_of_beq_eq_true h0
      have := Go.AbsM.append_run_room (P := Pr) (A := some A) (ty := ty) (n := n) (c := m) hu hst hii (hlen w) (hf0 w (Ext.refl w)) (by omega)
      rw [us0 h0', h0'] at this
      refine Eff.same hi (z := .slice (some A) n m) ?_ (by rw [← e1]; exact hx0)
      rw [e1]
      simpa [storeCells] using this
    · rw [if_neg h0] at hr2
      have h0' : s.len ≠ 0 := fun e => h0 (by rw [e]; rfl)
      split at hr2
      case isFalse => cases hr2
      rename_i hcond
      simp only [Bool.and_eq_true] at hcond
      have hee := Nat.eq_of_beq_eq_true hcond.1
      subst hee
      have hb48 : (n + s.len) * i.bytes ≤ 140737488355328 := hm48 _ hcond.2
      have olds : ∀ {b : HB}, isMap b = false → BOk g c (g k) b w → ∃ us0 : List Value, us0.length = (g k).len ∧ BRep g c b us0 ∧ (g k).len = sizeO b ∧ (Builtin.firstCells i.size n (.slice (some A) n m)).run Pr w.drew = .ok (((us0.drop o).take (n * i.size)).toArray) w.drew := by
        intro b hm hb
        obtain ⟨us0, q1, q2, q3, q4⟩ := hb.cells hm
        refine ⟨us0, q1, q2, q3, ?_⟩
        by_cases hn0 : n = 0
        · subst hn0
          simp [Builtin.firstCells, loadCells, loadCellsFrom]
        · rw [hA (by omega)]
          refine firstCells_some (by simp; omega) fun j u hj => ?_
          simp only [addrOf]
          rw [Addr.add_lit, Nat.add_assoc]
          rw [List.getElem?_take] at hj
          split at hj
          · rw [List.getElem?_drop] at hj
            exact q4 (o + j) u hj
          · cases hj
      have whole : ∀ {b : HB}, BOk g c (g k) b w → cl = true → newO D 0 (joinO o (Nat.mul n i.size) b (s.obj (isU8 Pr e))) (.slc c 0 (Nat.add n s.len) i.size false) h c = .ok v h' c' → Eff D g h c w ((Builtin.append_ #[t, t2] ty #[u, z]).run Pr w) v h' c' := by
        intro b hb hc hnew
        obtain ⟨_, hbno, _⟩ := newO_some hnew
        obtain ⟨us0, q1, q2, q3, q4⟩ := olds (joinO_plain hbno) hb
        have hmn := hcl hc
        obtain ⟨j1, j2⟩ := joinO_ok q2 hbr hbno
        have hol : ((us0.drop o).take (n * i.size)).length = n * i.size := by simp; omega
        obtain ⟨w', cap, hrun, hext, hc1, hc2, hbk⟩ := fresh (pre := 0) (b := .no) e1 q4 hol (by omega) hb48
        have j3 := BRep.mono (g' := g.new c ⟨w.heap.size, 0, (n + s.len) * i.size, cap * i.size⟩) (c' := c + 1) j2 (agree_new g c _) (Nat.le_succ c)
        exact new_eff hi hext (Nat.le_refl _) (hbk j3) hnew hrun (slc_fresh (by omega) hc1 hc2)
      split at hr2
      ·
        rename_i pre b ho
        have ho' : hp D h k = .own pre b := by rw [hp_lt hk4]; exact ho
        have hbo := hi.inv.own k pre b ho'
        split at hr2
        · rename_i hc; exact whole hbo hc hr2
        · rename_i hc
          have hcf : cl = false := by cases cl with | true => exact absurd rfl hc | false => rfl
          have hfl := hfl hcf
          have hm : isMap b = false := by
            cases hmb : isMap b with
            | false => rfl
            | true =>
              exfalso
              split at hr2
              · obtain ⟨_, hbno, _⟩ := newO_some hr2
                rw [joinO_plain hbno] at hmb; cases hmb
              · split at hr2
                · obtain ⟨pre', b', hob, hno, _⟩ := putO_some hr2
                  rw [ho] at hob
                  simp only [HO.own.injEq] at hob
                  obtain ⟨_, rfl⟩ := hob
                  rw [overO_plain hno] at hmb; cases hmb
                · cases hr2
          obtain ⟨us0, q1, q2, q3, q4⟩ := olds hm hbo
          split at hr2
          ·
            rename_i hend
            simp only [Bool.and_eq_true] at hend
            have ho0 : o = 0 := Nat.eq_of_beq_eq_true hend.2
            have hend : o + n * i.size = sizeO b := Nat.eq_of_beq_eq_true hend.1
            obtain ⟨c1, hbno, rfl, rfl, rfl⟩ := newO_some hr2
            obtain ⟨j1, j2⟩ := joinO_ok q2 hbr hbno
            have hpre : pre = 0 ∨ pre ≤ 4 ^ D := .inr (Nat.le_trans (hi.inv.pre k pre b ho') hi.le)
            obtain ⟨p1, p2⟩ := hp_unpre (D := D) (h := h) (pre := pre) (c := c) hi.deep hpre
            have p3 := hp_set (o := .sh b) p2 hk4
            have p4 := deep_set D k (.sh b) _ p2
            have p5 := hp_set (o := .own (Nat.succ k) (joinO o (Nat.mul n i.size) b (s.obj (isU8 Pr e)))) p4 c1
            have p6 := deep_set D c (.own (Nat.succ k) (joinO o (Nat.mul n i.size) b (s.obj (isU8 Pr e)))) _ p4
            have close : ∀ {w' : World} {a : At} {zz : Value}, (Builtin.append_ #[t, t2] ty #[u, z]).run Pr w = .ok zz w' → Chg (g k).b w w' → (a.b = (g k).b ∨ w.heap.size ≤ a.b) → BOk g c (g k) b w' → BOk (g.new c a) (c + 1) a (joinO o (Nat.mul n i.size) b (s.obj (isU8 Pr e))) w' → TRep (g.new c a) (c + 1) (.slc c 0 (n + s.len) i.size false) zz →
                Eff D g h c w ((Builtin.append_ #[t, t2] ty #[u, z]).run Pr w) (.slc c 0 (Nat.add n s.len) i.size false) (HT.set D c (.own (Nat.succ k) (joinO o (Nat.mul n i.size) b (s.obj (isU8 Pr e)))) (HT.set D k (.sh b) (unpre D pre h))) (c + 1) := by
              intro w' a zz r1 r2 r3 r4 r5 r6
              have hps := Post.grow hi.inv ho' r2 r3 r4 r5
              rw [p3, p1] at p5
              rw [← p5] at hps
              exact ⟨zz, w', _, r1, ⟨p6, c1, hps.inv⟩, hps, r6⟩
            have j3 := fun a => BRep.mono (g' := g.new c a) (c' := c + 1) j2 (agree_new g c _) (Nat.le_succ c)
            by_cases hroom : n + s.len ≤ m
            ·
              have hAe := hA (by omega)
              subst hAe
              obtain ⟨vs, tt, b1, b2, b3, b4⟩ := hbo.plain hm
              have hmes : (n + s.len) * i.size ≤ m * i.size := Nat.mul_le_mul_right _ hroom
              rw [Nat.add_mul] at hmes
              have hend2 : o + n * i.size = (g k).len := by rw [hend, q3]
              obtain ⟨w', s1, s2, s3⟩ := store_run (Pr := Pr) (p := (g k).o + (o + n * i.size)) b1 hsr.ones (by omega)
              have hrun := Go.AbsM.append_run_room (P := Pr) (A := some (addrOf g k o)) (ty := ty) (n := n) (c := m) hu hst hii (hlen w) (hf0 w (Ext.refl w)) hroom
              simp only [addr_add] at hrun
              have s1' : (storeCells (addrOf g k (o + n * i.size)) us.toArray.toList).run Pr w = .ok () w' := by simpa [addrOf] using s1
              rw [s1'] at hrun
              simp only [Result.andThen_ok] at hrun
              rw [← e1] at hrun
              have hlr : ((vs.take ((g k).o + (o + n * i.size)) ++ us ++ vs.drop ((g k).o + (o + n * i.size) + us.length))).length = (g k).bs := by
                simp only [List.length_append, List.length_take, List.length_drop]; omega
              refine close (a := ⟨(g k).b, (g k).o + o, (n + s.len) * i.size, (g k).bs⟩) hrun s2 (.inl rfl) (.inl ⟨_, tt, s3, hlr, b3, ?_⟩) (.inl ⟨_, tt, s3, hlr, ?_, ?_⟩) ?_
              · have := list_keep vs us (g k).o (g k).len ((g k).o + (o + n * i.size)) (by omega) (by omega)
                simp only [At.row] at b4 ⊢
                rw [this]; exact b4
              · refine ⟨by show (g k).o + o = 0; omega, ?_⟩
                show (g k).o + o + (n + s.len) * i.size ≤ (g k).bs
                rw [Nat.add_mul]; omega
              · have j4 := (joinO_ok b4 hbr hbno).2
                have e5 : (At.mk (g k).b ((g k).o + o) ((n + s.len) * i.size) (g k).bs).row (vs.take ((g k).o + (o + n * i.size)) ++ us ++ vs.drop ((g k).o + (o + n * i.size) + us.length)) = (((g k).row vs).drop o).take (Nat.mul n i.size) ++ us := by
                  have h6 := list_join vs us ((g k).o + o) (n * i.size) (by omega)
                  have e6 : (n + s.len) * i.size = n * i.size + us.length := by rw [Nat.add_mul, hus]
                  have e7 : (g k).o + (o + n * i.size) = (g k).o + o + n * i.size := by omega
                  simp only [At.row]
                  rw [e6, e7, h6]
                  congr 1
                  apply List.ext_getElem?
                  intro j
                  show _ = ((((vs.drop (g k).o).take (g k).len).drop o).take (n * i.size))[j]?
                  rw [List.getElem?_take, List.getElem?_take, List.getElem?_drop, List.getElem?_drop, List.getElem?_take, List.getElem?_drop]
                  by_cases hj : j < n * i.size
                  · rw [if_pos hj, if_pos hj, if_pos (by omega)]
                    congr 1; omega
                  · rw [if_neg hj, if_neg hj]
                rw [e5]
                exact BRep.mono j4 (agree_new g c _) (Nat.le_succ c)
              · refine ⟨nm_new g c _ (by have h1 : (n + s.len) * i.size ≤ m * i.size := Nat.mul_le_mul_right _ hroom; show (g k).o + o + (n + s.len) * i.size ≤ (g k).bs; omega), _, m, rfl, hroom, hmm, hes', ?_, ?_, (fun _ => ?_), (fun hc => by cases hc), fun _ => ?_⟩
                · rw [gnew_self]; simp
                · rw [gnew_self]; show (g k).o + o + 0 + m * i.size ≤ (g k).bs; omega
                · rw [gnew_self]; show (n + s.len) * i.size ≤ 0 + m * i.size; rw [Nat.add_mul]; omega
                · simp [addrOf, gnew_self]
            ·
              have hol : ((us0.drop o).take (n * i.size)).length = n * i.size := by simp; omega
              obtain ⟨w', cap, hrun, hext, hc1, hc2, hbk⟩ := fresh (pre := 0) (b := .no) e1 q4 hol (by omega) hb48
              exact close hrun (Chg.of_ext hext) (.inr (Nat.le_refl _)) (hbo.mono (fun _ _ => rfl) (Nat.le_refl _) (hext.heap _ hbo.lt)) (hbk (j3 _)) (slc_fresh (by omega) hc1 hc2)
          · split at hr2
            ·
              rename_i hne hin
              have hin : o + n * i.size + s.len * i.size ≤ sizeO b := Nat.le_of_ble_eq_true hin
              have hroom : n + s.len ≤ m := by
                have h1 : (n + s.len) * i.size ≤ m * i.size := by rw [Nat.add_mul]; omega
                exact Nat.le_of_mul_le_mul_right h1 hes'
              have hAe := hA (by omega)
              subst hAe
              refine put_eff (z := .slice (some (addrOf g k o)) (n + s.len) m) hi hk.1 hr2 (fun pre' b' hob hno hb => ?_) ?_
              · rw [ho] at hob
                simp only [HO.own.injEq] at hob
                obtain ⟨_, rfl⟩ := hob
                have hov := overO_ok q2 hbr hno
                obtain ⟨w', r1, r2, r3⟩ := write_run (Pr := Pr) (b' := overO (Nat.add o (Nat.mul n i.size)) (s.obj (isU8 Pr e)) b) (overO_plain hno) hb hsr.ones (by rw [← q1]; exact hov.1) (fun us' hul hus => (overO_ok hus hbr hno).2)
                refine ⟨w', ?_, r2, r3⟩
                have hrun := Go.AbsM.append_run_room (P := Pr) (A := some (addrOf g k o)) (ty := ty) (n := n) (c := m) hu hst hii (hlen w) (hf0 w (Ext.refl w)) hroom
                simp only [addr_add] at hrun
                have s1' : (storeCells (addrOf g k (o + n * i.size)) us.toArray.toList).run Pr w = .ok () w' := by simpa [addrOf] using r1
                rw [s1'] at hrun
                simp only [Result.andThen_ok] at hrun
                rw [← e1] at hrun
                exact hrun
              · refine ⟨hk, _, m, rfl, hroom, hmm, hes', ?_, hbs, (fun _ => hfl), (fun hc => by cases hc), fun _ => rfl⟩
                show o + (n + s.len) * i.size ≤ (g k).len
                rw [Nat.add_mul, q3]; omega
            · cases hr2
      ·
        rename_i b ho
        have ho' : hp D h k = .sh b := by rw [hp_lt hk4]; exact ho
        split at hr2
        · rename_i hc; exact whole (hi.inv.sh k b ho') hc hr2
        · cases hr2
      · cases hr2
end
end
end Go.FM

/-! ## FnExec -/
namespace Go.FM
noncomputable section
variable [Env]
theorem forceN_eq {α : Type} (n : Nat) (k : Nat → α) : forceN n k = k n := by cases n <;> rfl
theorem forceI_eq {α : Type} (n : Int) (k : Int → α) : forceI n k = k n := by
  cases n with
  | ofNat m => show forceN m (fun m => k (.ofNat m)) = _; rw [forceN_eq]
  | negSucc m => show forceN m (fun m => k (.negSucc m)) = _; rw [forceN_eq]
theorem forceB_eq {α : Type} (b : Bool) (k : Bool → α) : forceB b k = k b := by cases b <;> rfl
theorem forceV_eq {v : HV} (x : R) (k : HV → R) (h : v ≠ .dead) : forceV v x k = k v := by
  cases v with
  | dead => exact absurd rfl h
  | int i n => show forceI n (fun n => k (.int i n)) = _; rw [forceI_eq]
  | mp n => show forceN n (fun n => k (.mp n)) = _; rw [forceN_eq]
  | bool b => show forceB b (fun b => k (.bool b)) = _; rw [forceB_eq]
  | str n d => show forceN n (fun n => forceN d fun d => k (.str n d)) = _; rw [forceN_eq, forceN_eq]
  | ptr n d => show forceN n (fun n => forceN d fun d => k (.ptr n d)) = _; rw [forceN_eq, forceN_eq]
  | slc a o n e cl => show forceN a (fun a => forceN o fun o => forceN n fun n => forceN e fun e => forceB cl fun cl => k (.slc a o n e cl)) = _; rw [forceN_eq, forceN_eq, forceN_eq, forceN_eq, forceB_eq]
  | _ => rfl
theorem forceF_eq {α : Type} (f : F) (k : F → α) : forceF f k = k f := by cases f; rfl
def putT (st : P) (v : HV) (t : L) : L := match st with
  | .skip => t
  | _ => v :: t
def putF (st : P) (v : HV) (f : F) : F := match st with
  | .var u => u v f
  | _ => f
theorem put_eq (st : P) (v : HV) (k : K) (t : L) (s : S) : put st v k t s = k (putT st v t) ⟨putF st v s.f, s.h, s.c⟩ := by
  cases st with
  | skip => rfl
  | loc => rfl
  | var u => cases s; exact forceF_eq _ _
theorem fin_some {why : Nat} {st : P} {v : HV} {k : K} {t : L} {s : S} (h : ∀ w, fin why st v k t s ≠ .x w) : v ≠ .dead ∧ fin why st v k t s = k (putT st v t) ⟨putF st v s.f, s.h, s.c⟩ := by
  have hd : v ≠ .dead := fun e => by subst e; exact h why rfl
  refine ⟨hd, ?_⟩
  unfold fin
  rw [forceV_eq _ _ hd, put_eq]
theorem finC_some {st : P} {r : CR} {k : K} {t : L} {s : S} (h : ∀ w, finC st r k t s ≠ .x w) : ∃ v h' c', r = .ok v h' c' ∧ v ≠ .dead ∧ finC st r k t s = k (putT st v t) ⟨putF st v s.f, h', c'⟩ := by
  cases r with
  | x w => exact absurd rfl (h w)
  | ok v h' c' =>
    have e : finC st (.ok v h' c') k t s = forceN c' fun c => forceV v (.x 40) fun v => put st v k t ⟨s.f, h', c⟩ := rfl
    rw [e, forceN_eq] at h
    have hd : v ≠ .dead := fun e => by subst e; exact h 40 rfl
    refine ⟨v, h', c', rfl, hd, ?_⟩
    rw [e, forceN_eq, forceV_eq _ _ hd, put_eq]
theorem evs_eq (gs : List G) (t : L) (f : F) : evs gs t f = gs.map fun g => g.ev t f := by
  induction gs with
  | nil => rfl
  | cons g r ih =>
    show g.ev t f :: evs r t f = _
    rw [ih]; rfl
structure SRel (nt gl : Nat) (reg : List Nat) (g : Gm) (c : Nat) (t : L) (f : F) (a : Act) : Prop where
  size : a.tmps.size = nt
  vars : ∀ x, Nat.testBit gl x = true → TRep g c (fget (rank gl x) f) (a.tmps.getD x undef)
  locs : ∀ x j, idx x reg = some j → TRep g c (lget j t) (a.tmps.getD x undef)
  defers : a.defers = []
def GlOk (nt gl : Nat) : Prop := rank gl nt ≤ 256 ∧ ∀ x, Nat.testBit gl x = true → x < nt
section
variable {Pr : Program} {D : Nat} {w w' : World} {g g' : Gm} {c c' : Nat} {nt gl : Nat} {reg : List Nat} {t : L} {f : F} {s : S} {a : Act}
theorem SRel.mono (hs : SRel nt gl reg g c t f a) (ha : Agree c g g') (hc : c ≤ c') : SRel nt gl reg g' c' t f a :=
  ⟨hs.size, fun x hx => (hs.vars x hx).mono ha hc, fun x j hx => (hs.locs x j hx).mono ha hc, hs.defers⟩
theorem SRel.nil (hs : SRel nt gl reg g c t f a) (t' : L) : SRel nt gl [] g c t' f a :=
  ⟨hs.size, hs.vars, fun x j hx => by simp [idx] at hx, hs.defers⟩
theorem put_tmps (a : Act) (d : Nat) (v : Value) (x : Nat) : (a.put (some d) v).tmps.getD x undef = if x = d ∧ d < a.tmps.size then v else a.tmps.getD x undef := by
  simp only [Act.put, Array.getD_eq_getD_getElem?, Array.getElem?_setIfInBounds]
  by_cases h : d = x
  · subst h
    by_cases hd : d < a.tmps.size
    · simp [hd]
    · simp [hd]
  · simp [h, Ne.symm h]
theorem put_size (a : Act) (d : Option Nat) (v : Value) : (a.put d v).tmps.size = a.tmps.size := by
  cases d <;> simp [Act.put]
theorem idx_cons (x y : Nat) (r : List Nat) : idx x (y :: r) = if y = x then some 0 else (idx x r).map (· + 1) := by
  have e : idx x (y :: r) = (Nat.beq y x).casesOn (match idx x r with | some j => some (j + 1) | none => none) (some 0) := rfl
  rw [e]
  by_cases h : y = x
  · subst h; rw [Nat.beq_refl, if_pos rfl]
  · have : Nat.beq y x = false := by
      cases hb : Nat.beq y x with
      | false => rfl
      | true => exact absurd (Nat.eq_of_beq_eq_true hb) h
    rw [this, if_neg h]
    cases idx x r <;> rfl
theorem SRel.put (hg : GlOk nt gl) (hs : SRel nt gl reg g c t f a) {d : Option Nat} (hd : dstOk nt d = true) {v : HV} {u : Value} (hv : TRep g c v u) :
    SRel nt gl (regOf d reg) g c (putT (dstP gl d) v t) (putF (dstP gl d) v f) (a.put d u) := by
  cases d with
  | none => exact hs
  | some d =>
    have hdn : d < nt := Nat.le_of_ble_eq_true hd
    have hlocs : ∀ x j, idx x (d :: reg) = some j → TRep g c (lget j (v :: t)) ((a.put (some d) u).tmps.getD x undef) := by
      intro x j hx
      rw [idx_cons] at hx
      rw [put_tmps]
      by_cases h : d = x
      · subst h
        rw [if_pos rfl] at hx
        simp only [Option.some.injEq] at hx; subst hx
        rw [if_pos ⟨rfl, by rw [hs.size]; exact hdn⟩]
        exact hv
      · rw [if_neg h] at hx
        obtain ⟨j', hj, rfl⟩ := Option.map_eq_some_iff.1 hx
        rw [if_neg fun e => h e.1.symm]
        exact hs.locs x j' hj
    have other : ∀ x, x ≠ d → (a.put (some d) u).tmps.getD x undef = a.tmps.getD x undef := fun x hx => by rw [put_tmps, if_neg fun e => hx e.1]
    have self : (a.put (some d) u).tmps.getD d undef = u := by rw [put_tmps, if_pos ⟨rfl, by rw [hs.size]; exact hdn⟩]
    cases hb : Nat.testBit gl d with
    | false =>
      have e : dstP gl (some d) = .loc := by
        show (Nat.testBit gl d).casesOn (motive := fun _ => P) .loc (pVar (rank gl d)) = .loc
        rw [hb]
      rw [e]
      refine ⟨by rw [put_size]; exact hs.size, fun x hx => ?_, hlocs, hs.defers⟩
      rw [other x fun e => by subst e; rw [hb] at hx; cases hx]
      exact hs.vars x hx
    | true =>
      obtain ⟨q, hq, hqv⟩ := pVar_eq (rank gl d)
      have e : dstP gl (some d) = .var q := by
        show (Nat.testBit gl d).casesOn (motive := fun _ => P) .loc (pVar (rank gl d)) = .var q
        rw [hb]; exact hq
      rw [e]
      refine ⟨by rw [put_size]; exact hs.size, fun x hx => ?_, hlocs, hs.defers⟩
      show TRep g c (fget (rank gl x) (q v f)) _
      have r1 : rank gl x < 256 := Nat.lt_of_lt_of_le (rank_lt gl (hg.2 x hx) hx) hg.1
      have r2 : rank gl d < 256 := Nat.lt_of_lt_of_le (rank_lt gl hdn hb) hg.1
      rw [hqv, fget_fset r1 r2]
      by_cases h : x = d
      · subst h
        rw [if_pos rfl, self]; exact hv
      · rw [if_neg fun e => h (rank_inj gl hx hb e), other x h]
        exact hs.vars x hx
theorem opnd_ok (hs : SRel nt gl reg g c t f a) (o : Operand) : TRep g c ((opnd gl reg o).ev t f) (a.eval o) := by
  cases o with
  | tmp x =>
    show TRep g c ((opnd gl reg (.tmp x)).ev t f) (a.tmps.getD x undef)
    unfold opnd
    simp only
    cases h : idx x reg with
    | some j => exact hs.locs x j h
    | none =>
      cases hb : Nat.testBit gl x with
      | false => exact trivial
      | true =>
        show TRep g c ((gVar (rank gl x)).ev t f) _
        rw [gVar_ev]
        exact hs.vars x hb
  | const v => exact TRep.of_val (constV_ok v)
  | func fn => exact ⟨fun p hp => by simp at hp, by simp [Act.eval]⟩
  | global n => exact trivial
theorem opnds_ok {ρ : Operand → Value} {l : List Operand} (hs : ∀ x, x ∈ l → TRep g c ((opnd gl reg x).ev t f) (ρ x)) : TReps g c (evs (opnds gl reg l) t f) (l.map ρ) := by
  rw [evs_eq]
  refine ⟨by simp [opnds], fun i x u hx hu => ?_⟩
  simp only [opnds, List.getElem?_map, Option.map_eq_some_iff] at hx hu
  obtain ⟨y, ⟨o, ho, rfl⟩, rfl⟩ := hx
  obtain ⟨o', ho', rfl⟩ := hu
  rw [ho] at ho'
  simp only [Option.some.injEq] at ho'; subst ho'
  exact hs o (List.mem_of_getElem? ho)
theorem optG_ok {ρ : Operand → Value} {o : Option Operand} (hs : ∀ x, o = some x → TRep g c ((opnd gl reg x).ev t f) (ρ x)) : LoRep g c (o.map ρ) ((optG gl reg o).ev t f) := by
  cases o with
  | none => rfl
  | some o => exact hs o rfl
theorem hiG_ok {ρ : Operand → Value} {o : Option Operand} (hs : ∀ x, o = some x → TRep g c ((opnd gl reg x).ev t f) (ρ x)) : HiRep g c o.isSome (o.map ρ) ((optG gl reg o).ev t f) := by
  cases o with
  | none => rfl
  | some o => exact ⟨rfl, hs o rfl⟩
def Opr (gl : Nat) (reg : List Nat) (g : Gm) (c : Nat) (t : L) (f : F) (ρ : Operand → Value) (op : Op) : Prop := ∀ x, x ∈ op.operands → TRep g c ((opnd gl reg x).ev t f) (ρ x)
theorem Opr.get {ρ : Operand → Value} {op op' : Op} (hs : Opr gl reg g c t f ρ op) (ho : op = op') {x : Operand} (hx : x ∈ op'.operands) : TRep g c ((opnd gl reg x).ev t f) (ρ x) := hs x (by rw [ho]; exact hx)
theorem SRel.opr (hs : SRel nt gl reg g c t f a) (op : Op) : Opr gl reg g c t f a.eval op := fun x _ => opnd_ok hs x
def CallT (Pr : Program) (D : Nat) (fn : FuncId) (args : List HV) (h : HT) (c : Nat) (v : HV) (h' : HT) (c' : Nat) : Prop :=
  ∀ (w : World) (g : Gm) (vs : List Value), HOk D g h c w → TReps g c args vs → Calls Pr fn vs.toArray w fun e w' => ∃ u g', e = .returned u ∧ HOk D g' h' c' w' ∧ Post g (hp D h) c w g' (hp D h') c' w' ∧ TRep g' c' v u
def Body (Pr : Program) (fn : FuncId) : Prop := ∃ f cd, Pr.funcs[fn]? = some f ∧ f.body = some cd ∧ (f.name == "runtime.NumGoroutine") = false
def ClOk (Pr : Program) (D : Nat) (cl : Cl) : Prop := ∀ fn args h c v h' c', cl fn args h c = .ok v h' c' → v ≠ .dead → Body Pr fn ∧ CallT Pr D fn args h c v h' c'
def OpW (Pr : Program) (D gl : Nat) (reg : List Nat) (o : Oper) (t : L) (f : F) (h : HT) (c : Nat) (v : HV) (h' : HT) (c' : Nat) : Prop :=
  ∀ (a : Act) (w : World) (g : Gm), Opr gl reg g c t f a.eval o.op → HOk D g h c w → ∀ (next : Act → World → Prop) (Q : Exit → Act → World → Prop),
    (∀ u w' g', HOk D g' h' c' w' → Post g (hp D h) c w g' (hp D h') c' w' → TRep g' c' v u → next (a.put o.dst u) w') → o.wp Pr a w next Q
variable {cl : Cl} {o : Oper} {h h' : HT}
theorem OpW.pure {v : HV} (hok : ∀ (a : Act) (w : World) (g : Gm), Opr gl reg g c t f a.eval o.op → HOk D g h c w → ∃ u, (execOp a.eval o).run Pr w = .ok (.value u) w ∧ TRep g c v u) :
    OpW Pr D gl reg o t f h c v h c := by
  intro a w g hs hi next Q hn
  obtain ⟨u, hr, hv⟩ := hok a w g hs hi
  unfold Oper.wp; rw [hr]
  exact hn _ _ g hi (Post.refl hi.inv) hv
theorem OpW.eff {v : HV} (hok : ∀ (a : Act) (w : World) (g : Gm), Opr gl reg g c t f a.eval o.op → HOk D g h c w → ∃ r : Result Value, Eff D g h c w r v h' c' ∧ ∀ u w', r = .ok u w' → (execOp a.eval o).run Pr w = .ok (.value u) w') :
    OpW Pr D gl reg o t f h c v h' c' := by
  intro a w g hs hi next Q hn
  obtain ⟨r, ⟨u, w', g', h1, h2, h3, h4⟩, h5⟩ := hok a w g hs hi
  unfold Oper.wp; rw [h5 u w' h1]
  exact hn _ _ g' h2 h3 h4
theorem call_run {cc : Call} {fn : FuncId} {cap : Array Value} (ho : o.op = .call cc) (hc : ∃ x, cc.callee = .value x ∧ a.eval x = .func (.func fn) #[] cap) (hf : Body Pr fn) :
    (execOp a.eval o).run Pr w = .ok (.enter fn (cc.args.map a.eval ++ cap)) w := by
  obtain ⟨f1, cd, h1, h2, h3⟩ := hf
  have hp : ∀ as, (callFunc fn as).run Pr w = .ok (.enter fn as) w := fun as => by
    simp only [callFunc, Sem.run_bind, run_program, Result.andThen_ok, h1, h3, h2]
    rfl
  obtain ⟨x, hc, hx⟩ := hc
  simp [execOp, ho, Go.resolve, hc, hx, Deferred.ofValue, invoke, hp]
theorem call_wp {cc : Call} {fn : FuncId} {args : List HV} {v : HV} (ho : o.op = .call cc) (hb : Body Pr fn) (hct : CallT Pr D fn args h c v h' c')
    (hargs : ∀ (a : Act) (g : Gm), Opr gl reg g c t f a.eval o.op → ∃ cap vs, (∃ x, cc.callee = .value x ∧ a.eval x = .func (.func fn) #[] cap) ∧ cc.args.map a.eval ++ cap = vs.toArray ∧ TReps g c args vs) :
    OpW Pr D gl reg o t f h c v h' c' := by
  intro a w g hs hi next Q hn
  obtain ⟨cap, vs, h1, h2, h3⟩ := hargs a g hs
  unfold Oper.wp
  rw [call_run ho h1 hb, h2]
  exact Calls.mono (hct w g vs hi h3) fun e w' ⟨u, g', he, q1, q2, q3⟩ => by
    subst he
    exact hn _ _ g' q1 q2 q3
end
end
end Go.FM

/-! ## FnComp -/
namespace Go.FM
noncomputable section
variable [Env]
section
variable {Pr : Program} {D : Nat} {w w' : World} {g g' : Gm} {c c' : Nat} {nt gl : Nat} {reg : List Nat} {t : L} {s : S} {a : Act} {cl : Cl} {o : Oper} {k : K}
theorem pickV_ok {x y z : HV} {u v q : Value} (hx : TRep g c x u) (hy : TRep g c y v) (hz : TRep g c z q) (hl : pickV x y z ≠ .dead) : ∃ b, u = .bool b ∧ TRep g c (pickV x y z) (if b then v else q) := by
  cases x <;> try exact absurd rfl hl
  rename_i b
  have e : u = .bool b := hx
  refine ⟨b, e, ?_⟩
  cases b
  · exact hz
  · exact hy
theorem extractV_ok {x : HV} {v : Value} {i : Nat} (hx : TRep g c x v) (hl : extractV i x ≠ .dead) : ∃ u, (Instr.extract v i).run Pr w = .ok u w ∧ TRep g c (extractV i x) u := by
  cases x <;> try exact absurd rfl hl
  rename_i as
  obtain ⟨vs, rfl, h2, h3⟩ := hx
  have h1 := lget_some (show lget i as ≠ .dead from hl)
  have hi : i < vs.length := by rw [h2]; exact (List.getElem?_eq_some_iff.1 h1).1
  have hv : vs[i]? = some vs[i] := List.getElem?_eq_getElem hi
  refine ⟨vs[i], ?_, TRep.of_val (h3 i _ _ h1 hv)⟩
  simp [Instr.extract, hi]
theorem realV_ok {x : HV} {v : Value} (hx : TRep g c x v) (hl : realV x ≠ .dead) (ts : Array TypeId) (ty : TypeId) : ∃ u, (Builtin.real_ ts ty #[v]).run Pr w = .ok u w ∧ TRep g c (realV x) u := by
  cases x <;> try exact absurd rfl hl
  rename_i k a b
  have e : v = .complex k a b := hx
  subst e
  exact ⟨.float k a, rfl, rfl⟩
theorem imagV_ok {x : HV} {v : Value} (hx : TRep g c x v) (hl : imagV x ≠ .dead) (ts : Array TypeId) (ty : TypeId) : ∃ u, (Builtin.imag_ ts ty #[v]).run Pr w = .ok u w ∧ TRep g c (imagV x) u := by
  cases x <;> try exact absurd rfl hl
  rename_i k a b
  have e : v = .complex k a b := hx
  subst e
  exact ⟨.float k b, rfl, rfl⟩
theorem cpxOf_ok {x y : HV} {v u : Value} (hx : TRep g c x v) (hy : TRep g c y u) (hl : cpxOf x y ≠ .dead) (ts : Array TypeId) (ty : TypeId) : ∃ z, (Builtin.complex_ ts ty #[v, u]).run Pr w = .ok z w ∧ TRep g c (cpxOf x y) z := by
  unfold cpxOf at hl ⊢
  split at hl
  · rename_i k a k' b
    split at hl
    · rename_i hk
      subst hk
      have e : v = .float k a := hx
      have e' : u = .float k b := hy
      subst e e'
      refine ⟨.complex k a b, ?_, ?_⟩
      · show (if k = k then pure (.complex k a b) else Go.stuck "complex: parts of different kinds" : Sem Value).run Pr w = _
        rw [if_pos rfl]; rfl
      · rw [if_pos rfl]; exact rfl
    · exact absurd rfl hl
  · exact absurd rfl hl
theorem makeFnF_ok {f : FuncId} {xs : List HV} {vs : List Value} (hx : TReps g c xs vs) (hl : makeFnF f xs ≠ .dead) : TRep g c (makeFnF f xs) (.func (.func f) #[] vs.toArray) := by
  have hall : allPtr xs = true := by
    cases h : allPtr xs with
    | true => rfl
    | false =>
      have : makeFnF f xs = .dead := by
        show (allPtr xs).casesOn (motive := fun _ => HV) .dead (makeFn f xs) = .dead
        rw [h]
      exact absurd this hl
  have e : makeFnF f xs = makeFn f xs := by
    show (allPtr xs).casesOn (motive := fun _ => HV) .dead (makeFn f xs) = _
    rw [hall]
  rw [e]
  clear e hl
  have key : ∀ (xs : List HV) (vs : List Value), TReps g c xs vs → allPtr xs = true → (∀ p : Nat × Nat, p ∈ xs.map (fun v => match v with | .ptr k o => (k, o) | _ => (0, 0)) → Nm g c p.1) ∧ vs = (xs.map (fun v => match v with | .ptr k o => (k, o) | _ => (0, 0))).map fun p : Nat × Nat => Value.pointer (some (addrOf g p.1 p.2)) := by
    intro xs
    induction xs with
    | nil =>
      intro vs hv _
      have : vs = [] := List.length_eq_zero_iff.1 hv.1
      subst this
      exact ⟨fun p hp => by simp at hp, rfl⟩
    | cons x r ih =>
      intro vs hv ha
      cases vs with
      | nil => exact absurd hv.1 (by simp)
      | cons u us =>
        have hr : TReps g c r us := ⟨by simpa using hv.1, fun i x' u' h1 h2 => hv.2 (i + 1) x' u' (by simpa using h1) (by simpa using h2)⟩
        have h0 := hv.2 0 x u rfl rfl
        simp only [allPtr, List.all_cons, Bool.and_eq_true] at ha
        obtain ⟨q1, q2⟩ := ih us hr ha.2
        cases x <;> try cases ha.1
        rename_i k o
        obtain ⟨hk, e⟩ : Nm g c k ∧ u = .pointer (some (addrOf g k o)) := h0
        refine ⟨fun p hp => ?_, ?_⟩
        · simp only [List.map_cons, List.mem_cons] at hp
          rcases hp with rfl | hp
          · exact hk
          · exact q1 p hp
        · simp only [List.map_cons]
          rw [← q2, e]
  obtain ⟨q1, q2⟩ := key xs vs hx hall
  exact ⟨q1, congrArg (fun l => Value.func (.func f) #[] l.toArray) q2⟩
theorem loadF_inv {ty : TypeId} {f : HT → HV → HV} (h : loadF Pr D ty = .f f) : ∃ n b, sizeT Pr ty = some n ∧ aggT Pr ty = some b ∧ f = load D b n := by
  unfold loadF at h
  split at h
  · rename_i n b h1 h2
    injection h with h
    exact ⟨n, b, h1, h2, h.symm⟩
  · cases h
theorem loadF_not {ty : TypeId} {f : HV → HV} (h : loadF Pr D ty = .p f) : False := by
  unfold loadF at h
  split at h <;> cases h
def light (o : FOp) : Bool := match kdF o with
  | .pure => true
  | .read => true
  | _ => false
def OpV (Pr : Program) (D gl : Nat) (reg : List Nat) (o : Oper) (t : L) (f : F) (h : HT) (c : Nat) (v : HV) : Prop :=
  ∀ (a : Act) (w : World) (g : Gm), Opr gl reg g c t f a.eval o.op → HOk D g h c w → ∃ u, (execOp a.eval o).run Pr w = .ok (.value u) w ∧ TRep g c v u
def Good (Pr : Program) (D gl : Nat) (reg : List Nat) (cl : Cl) (o : Oper) (t : L) (s : S) (k : K) (fo : FOp) : Prop :=
  ∃ v h' c', v ≠ .dead ∧ exec cl fo k t s = k (putT (dstP gl o.dst) v t) ⟨putF (dstP gl o.dst) v s.f, h', c'⟩ ∧ OpW Pr D gl reg o t s.f s.h s.c v h' c' ∧ (light fo = true → v = valO fo t s.f s.h ∧ h' = s.h ∧ c' = s.c ∧ OpV Pr D gl reg o t s.f s.h s.c v)
theorem good_pure {fo : FOp} {why : Nat} (he : exec cl fo k t s = fin why (dstP gl o.dst) (valO fo t s.f s.h) k t s) (h : ∀ w, exec cl fo k t s ≠ .x w)
    (hok : valO fo t s.f s.h ≠ .dead → ∀ (a : Act) (w : World) (g : Gm), Opr gl reg g s.c t s.f a.eval o.op → HOk D g s.h s.c w → ∃ u, (execOp a.eval o).run Pr w = .ok (.value u) w ∧ TRep g s.c (valO fo t s.f s.h) u) :
    Good Pr D gl reg cl o t s k fo := by
  rw [he] at h
  obtain ⟨h1, h2⟩ := fin_some h
  exact ⟨_, s.h, s.c, h1, he.trans h2, OpW.pure (hok h1), fun _ => ⟨rfl, rfl, rfl, hok h1⟩⟩
theorem good_eff {fo : FOp} {r : CR} (he : exec cl fo k t s = finC (dstP gl o.dst) r k t s) (hl : light fo = false) (h : ∀ w, exec cl fo k t s ≠ .x w)
    (hok : ∀ v h' c', r = .ok v h' c' → ∀ (a : Act) (w : World) (g : Gm), Opr gl reg g s.c t s.f a.eval o.op → HOk D g s.h s.c w → ∃ r : Result Value, Eff D g s.h s.c w r v h' c' ∧ ∀ u w', r = .ok u w' → (execOp a.eval o).run Pr w = .ok (.value u) w') :
    Good Pr D gl reg cl o t s k fo := by
  rw [he] at h
  obtain ⟨v, h', c', hr, hd', h2⟩ := finC_some h
  exact ⟨v, h', c', hd', he.trans h2, OpW.eff (hok v h' c' hr), fun e => by rw [hl] at e; cases e⟩
theorem v_run {x : Sem Value} {u : Value} {w w' : World} (h : x.run Pr w = .ok u w') : (do pure (Next.value (← x)) : Sem Next).run Pr w = .ok (.value u) w' := by
  simp [h]
theorem convF_ok {src dst : TypeId} {x : HV} {v : Value} {h : HT} (hi : HOk D g h c w) (hx : TRep g c x v) :
    (∀ f, convF Pr D src dst = .p f → f x ≠ .dead → ∃ u, (convert src dst v).run Pr w = .ok u w ∧ TRep g c (f x) u) ∧
    (∀ f, convF Pr D src dst = .f f → f h x ≠ .dead → ∃ u, (convert src dst v).run Pr w = .ok u w ∧ TRep g c (f h x) u) := by
  unfold convF
  split
  · rename_i d0 k h0 h1
    exact ⟨fun f hf hl => by injection hf with hf; subst hf; exact toInt_ok h0 h1 hx hl, fun f hf => by cases hf⟩
  · rename_i d0 k h0 h1
    exact ⟨fun f hf hl => by injection hf with hf; subst hf; exact toFlt_ok h0 h1 hx hl, fun f hf => by cases hf⟩
  · rename_i h0 h1
    exact ⟨fun f hf hl => by injection hf with hf; subst hf; exact idStr_ok h0 h1 hx hl, fun f hf => by cases hf⟩
  · rename_i e h0 h1
    split
    · rename_i he
      refine ⟨fun f hf => by (first | cases hf | (split at hf <;> cases hf)), fun f hf hl => ?_⟩
      injection hf with hf; subst hf
      obtain ⟨u, h2, h3⟩ := toStr_ok (Pr := Pr) hi hx hl
      refine ⟨u, ?_, TRep.of_val h3⟩
      have hu : Pr.underlying e = some (.int .u8) := by
        unfold isU8 at he
        split at he
        · assumption
        · cases he
      unfold toStr at hl
      cases x <;> try exact absurd rfl hl
      · have e1 : v = .slice none 0 0 := hx
        subst e1
        simp [convert, run_underlying h0, run_underlying h1, run_underlying hu, h2]
      · obtain ⟨_, A, m, e1, _⟩ := hx
        subst e1
        simp [convert, run_underlying h0, run_underlying h1, run_underlying hu, h2]
    · exact ⟨fun f hf => (by cases hf), fun f hf => (by cases hf)⟩
  · exact ⟨fun f hf => (by cases hf), fun f hf => (by cases hf)⟩
end
end
end Go.FM

/-! ## FnMap -/
namespace Go.FM
noncomputable section
variable [Env]
theorem keyEq_iff {a b : Int} : keyEq a b = true ↔ a = b := by
  unfold keyEq
  cases a <;> cases b <;> simp [Nat.beq_eq] <;> omega
theorem keyEq_beq (a b : Int) : (b == a) = keyEq a b := by
  by_cases h : a = b
  · subst h
    rw [keyEq_iff.2 rfl]; simp
  · cases hk : keyEq a b with
    | true => exact absurd (keyEq_iff.1 hk) h
    | false => exact beq_eq_false_iff_ne.2 fun e => h e.symm
section
variable {Pr : Program} {D : Nat} {w w' : World} {g : Gm} {h h' : HT} {c c' : Nat} {v : HV}
def keyI (key : Int) : Value := .int .i64 key
theorem sameNow_int (a b : Int) : Instr.sameNow (.int .i64) (keyI a) (keyI b) = some (keyEq b a) := by
  rw [← keyEq_beq]; rfl
theorem find_ok (key : Int) : ∀ {es : List ME} {ms : List MapEntry}, MReps g c es ms → ∀ i,
    (findM key es = none ∧ (∀ v, putM key v es = none) ∧ bornM key es = none ∧ delM key es = es ∧ Instr.findNow (.int .i64) (keyI key) ms i = some none) ∨
    (∃ j v m, findM key es = some v ∧ bornM key es = some m.born ∧ ms[j]? = some m ∧ m.key = keyI key ∧ VRep g c v m.val ∧ Instr.findNow (.int .i64) (keyI key) ms i = some (some (i + j, m.val)) ∧
      (∀ v' u', VRep g c v' u' → ∃ l, putM key v' es = some l ∧ MReps g c l (ms.modify j fun e => { e with key := keyI key, val := u' })) ∧ MReps g c (delM key es) (ms.eraseIdx j))
  | [], [], h, i => .inl ⟨rfl, fun _ => rfl, rfl, rfl, rfl⟩
  | [], _ :: _, h, i => h.elim
  | _ :: _, [], h, i => h.elim
  | e :: r, m :: s, h, i => by
    obtain ⟨⟨hk, hv, hb⟩, hr⟩ := h
    have hf : Instr.findNow (.int .i64) (keyI key) (m :: s) i = match some (keyEq e.key key) with
        | some true => some (some (i, m.val))
        | some false => Instr.findNow (.int .i64) (keyI key) s (i + 1)
        | none => none := by
      have := sameNow_int key e.key
      show (match Instr.sameNow (.int .i64) (keyI key) m.key with
        | some true => some (some (i, m.val))
        | some false => Instr.findNow (.int .i64) (keyI key) s (i + 1)
        | none => none) = _
      rw [hk, show Value.int .i64 e.key = keyI e.key from rfl, this]
    cases hq : keyEq e.key key with
    | true =>
      have hke : e.key = key := keyEq_iff.1 hq
      right
      refine ⟨0, e.val, m, by simp [findM, hq], by simp [bornM, hq, hb], rfl, by rw [hk, hke]; rfl, hv, by rw [hf, hq]; rfl, fun v' u' hvu => ⟨⟨e.key, v', e.born⟩ :: r, by simp [putM, hq], ?_⟩, by simp only [delM, hq, if_true]; exact hr⟩
      rw [List.modify_zero_cons]
      exact ⟨⟨by rw [hke]; rfl, hvu, hb⟩, hr⟩
    | false =>
      rcases find_ok key hr (i + 1) with ⟨h1, h2, h3, h4, h5⟩ | ⟨j, v, m', h1, h2, h3, h4, h5, h6, h7, h8⟩
      · left
        exact ⟨by simp [findM, hq, h1], fun v => by simp [putM, hq, h2], by simp [bornM, hq, h3], by simp [delM, hq, h4], by rw [hf, hq]; exact h5⟩
      · right
        refine ⟨j + 1, v, m', by simp [findM, hq, h1], by simp [bornM, hq, h2], by simpa using h3, h4, h5, by rw [hf, hq]; simp only; rw [h6, Nat.add_assoc, Nat.add_comm 1 j], fun v' u' hvu => ?_, ?_⟩
        · obtain ⟨l, q1, q2⟩ := h7 v' u' hvu
          refine ⟨e :: l, by simp [putM, hq, q1], ?_⟩
          rw [List.modify_succ_cons]
          exact ⟨⟨hk, hv, hb⟩, q2⟩
        · have e1 : delM key (e :: r) = e :: delM key r := by simp [delM, hq]
          rw [e1, List.eraseIdx_cons_succ]
          exact ⟨⟨hk, hv, hb⟩, h8⟩
theorem MReps.push : ∀ {es : List ME} {ms : List MapEntry} {e : ME} {m : MapEntry}, MReps g c es ms → MRep g c e m → MReps g c (es ++ [e]) (ms ++ [m])
  | [], [], e, m, _, k => ⟨k, trivial⟩
  | [], _ :: _, _, _, h, _ => h.elim
  | _ :: _, [], _, _, h, _ => h.elim
  | _ :: _, _ :: _, e, m, h, k => ⟨h.1, MReps.push h.2 k⟩
theorem MReps.len : ∀ {es : List ME} {ms : List MapEntry}, MReps g c es ms → ms.length = es.length
  | [], [], _ => rfl
  | [], _ :: _, h => h.elim
  | _ :: _, [], h => h.elim
  | _ :: _, _ :: _, h => by simp [MReps.len h.2]
theorem stamp_ok (b : Nat) (v : HV) (u : Value) (hv : VRep g c v u) : ∀ {es : List ME} {ms : List MapEntry} {l : List ME}, MReps g c es ms → storeM b v es = some l → ∃ i, ms.findIdx? (fun e => (e.born : Int) == (b : Int)) = some i ∧ MReps g c l (ms.modify i fun e => { e with val := u })
  | [], [], _, h, hs => by cases hs
  | [], _ :: _, _, h, _ => h.elim
  | _ :: _, [], _, h, _ => h.elim
  | e :: r, m :: s, l, h, hs => by
    obtain ⟨⟨hk, hw, hb⟩, hr⟩ := h
    unfold storeM at hs
    have hbb : ((m.born : Int) == (b : Int)) = Nat.beq e.born b := by
      rw [hb]
      cases hq : Nat.beq e.born b with
      | true => rw [Nat.eq_of_beq_eq_true hq]; simp
      | false =>
        apply beq_eq_false_iff_ne.2
        intro he
        have : e.born = b := by omega
        rw [this, Nat.beq_refl] at hq; cases hq
    cases hq : Nat.beq e.born b with
    | true =>
      rw [hq, if_pos rfl] at hs
      simp only [Option.some.injEq] at hs; subst hs
      refine ⟨0, by simp [List.findIdx?_cons, hbb, hq], ?_⟩
      rw [List.modify_zero_cons]
      exact ⟨⟨hk, hv, hb⟩, hr⟩
    | false =>
      rw [hq] at hs
      simp only [Bool.false_eq_true, if_false] at hs
      split at hs
      · rename_i l' hl
        simp only [Option.some.injEq] at hs; subst hs
        obtain ⟨i, q1, q2⟩ := stamp_ok b v u hv hr hl
        refine ⟨i + 1, by simp [List.findIdx?_cons, hbb, hq, q1], ?_⟩
        rw [List.modify_succ_cons]
        exact ⟨⟨hk, hw, hb⟩, q2⟩
      · cases hs
theorem find_none_iff {key : Int} : ∀ {es : List ME}, findM key es = none ↔ key ∉ es.map ME.key
  | [] => by simp [findM]
  | e :: r => by
    unfold findM
    cases hq : keyEq e.key key with
    | true => simp [keyEq_iff.1 hq]
    | false =>
      have hne : ¬ key = e.key := fun h => by rw [h, keyEq_iff.2 rfl] at hq; cases hq
      rw [if_neg (by simp), find_none_iff (es := r)]
      simp [hne]
theorem del_none {key : Int} : ∀ {es : List ME}, findM key es = none → delM key es = es
  | [], _ => rfl
  | e :: r, h => by
    unfold findM at h
    cases hq : keyEq e.key key with
    | true => rw [hq, if_pos rfl] at h; cases h
    | false =>
      rw [hq, if_neg (by simp)] at h
      simp only [delM, hq, Bool.false_eq_true, if_false, del_none h]
theorem put_none {key : Int} (v : HV) : ∀ {es : List ME}, findM key es = none → putM key v es = none
  | [], _ => rfl
  | e :: r, h => by
    unfold findM at h
    cases hq : keyEq e.key key with
    | true => rw [hq, if_pos rfl] at h; cases h
    | false =>
      rw [hq, if_neg (by simp)] at h
      simp only [putM, hq, Bool.false_eq_true, if_false, put_none v h]
theorem put_kv {key : Int} (v : HV) : ∀ {es : List ME}, (es.map ME.key).Nodup → ∀ {x : HV}, findM key es = some x → ∃ l, putM key v es = some l ∧ l.map kvM = (es.map kvM).map (fun p => if p.1 = key then (p.1, v) else p) ∧ l.map ME.key = es.map ME.key ∧ l.map ME.born = es.map ME.born
  | [], _, x, h => by cases h
  | e :: r, hn, x, h => by
    simp only [List.map_cons, List.nodup_cons] at hn
    unfold findM at h
    cases hq : keyEq e.key key with
    | true =>
      have hk := keyEq_iff.1 hq
      refine ⟨⟨e.key, v, e.born⟩ :: r, by simp [putM, hq], ?_, rfl, rfl⟩
      simp only [List.map_cons, kvM, hk, if_true]
      congr 1
      rw [List.map_map]
      refine (List.map_congr_left fun a ha => ?_).symm
      have : a.key ≠ key := fun e1 => hn.1 (by rw [hk, ← e1]; exact List.mem_map_of_mem ha)
      simp [kvM, this]
    | false =>
      rw [hq, if_neg (by simp)] at h
      obtain ⟨l, q1, q2, q3, q4⟩ := put_kv v hn.2 h
      have hne : ¬ e.key = key := fun h => by rw [h, keyEq_iff.2 rfl] at hq; cases hq
      exact ⟨e :: l, by simp [putM, hq, q1], by simp [q2, kvM, hne], by simp [q3], by simp [q4]⟩
theorem del_kv {key : Int} : ∀ {es : List ME}, (es.map ME.key).Nodup → (delM key es).map kvM = (es.map kvM).filter fun p => decide (p.1 ≠ key)
  | [], _ => rfl
  | e :: r, hn => by
    simp only [List.map_cons, List.nodup_cons] at hn
    cases hq : keyEq e.key key with
    | true =>
      have hk := keyEq_iff.1 hq
      have e1 : delM key (e :: r) = r := by simp [delM, hq]
      rw [e1, List.map_cons, List.filter_cons_of_neg (by simp [kvM, hk])]
      rw [List.filter_eq_self.2]
      intro p hp
      obtain ⟨a, ha, rfl⟩ := List.mem_map.1 hp
      have : a.key ≠ key := fun e1 => hn.1 (by rw [hk, ← e1]; exact List.mem_map_of_mem ha)
      simp [kvM, this]
    | false =>
      have hne : ¬ e.key = key := fun h => by rw [h, keyEq_iff.2 rfl] at hq; cases hq
      have e1 : delM key (e :: r) = e :: delM key r := by simp [delM, hq]
      rw [e1, List.map_cons, List.map_cons, List.filter_cons_of_pos (by simp [kvM, hne]), del_kv hn.2]
theorem del_sub {key : Int} : ∀ {es : List ME}, (delM key es).Sublist es
  | [] => .slnil
  | e :: r => by
    cases hq : keyEq e.key key with
    | true => simp only [delM, hq, if_true]; exact List.sublist_cons_self e r
    | false => simp only [delM, hq, Bool.false_eq_true, if_false]; exact del_sub.cons_cons e
theorem keys_kv (es : List ME) : es.map ME.key = (es.map kvM).map Prod.fst := by rw [List.map_map]; rfl
theorem simM.keys {es es0 : List ME} (h : simM es es0) : (es0.map ME.key).Perm (es.map ME.key) := by
  rw [keys_kv, keys_kv]; exact h.map _
theorem find_kv {key : Int} : ∀ {es : List ME}, (es.map ME.key).Nodup → ∀ {x : HV}, findM key es = some x ↔ (key, x) ∈ es.map kvM
  | [], _, x => by simp [findM]
  | e :: r, hn, x => by
    simp only [List.map_cons, List.nodup_cons] at hn
    unfold findM
    cases hq : keyEq e.key key with
    | true =>
      have hk := keyEq_iff.1 hq
      rw [if_pos rfl]
      constructor
      · intro h; cases h; simp [kvM, hk]
      · intro h
        rcases List.mem_cons.1 h with h | h
        · simp only [kvM, Prod.mk.injEq] at h; rw [h.2]
        · exfalso
          apply hn.1
          rw [hk, keys_kv]
          exact List.mem_map.2 ⟨(key, x), h, rfl⟩
    | false =>
      have hne : ¬ key = e.key := fun h => by rw [h, keyEq_iff.2 rfl] at hq; cases hq
      rw [if_neg (by simp), find_kv hn.2]
      simp [kvM, hne]
theorem wfM.sub {es l : List ME} {cl : Nat} (h : wfM es cl) (hs : l.Sublist es) : wfM l cl :=
  ⟨h.1.sublist (hs.map _), h.2.1.sublist (hs.map _), fun e he => h.2.2 e (hs.subset he)⟩
theorem find_ok2 (key : Int) {es : List ME} {cl cl0 : Nat} {ms : List MapEntry} (h : MapOk g c es cl cl0 ms) :
    (findM key es = none ∧ (∀ v, putM key v es = none) ∧ delM key es = es ∧ Instr.findNow (.int .i64) (keyI key) ms 0 = some none ∧ (∀ v u, VRep g c v u → Nat.beq (Nat.succ cl) uM = false → MapOk g c (es ++ [⟨key, v, cl⟩]) (Nat.succ cl) (Nat.succ cl0) (ms ++ [⟨keyI key, u, cl0⟩]))) ∨
    (∃ j v m, findM key es = some v ∧ ms[j]? = some m ∧ m.key = keyI key ∧ VRep g c v m.val ∧ Instr.findNow (.int .i64) (keyI key) ms 0 = some (some (j, m.val)) ∧
      (∀ v' u', VRep g c v' u' → ∃ l, putM key v' es = some l ∧ MapOk g c l cl cl0 (ms.modify j fun e => { e with key := keyI key, val := u' })) ∧ MapOk g c (delM key es) cl cl0 (ms.eraseIdx j)) := by
  rcases h with ⟨hr, rfl, hlt⟩ | ⟨hU, es0, hr, hs, hw⟩
  · rcases find_ok key hr 0 with ⟨h1, h2, h3, h4, h5⟩ | ⟨j, v, m, h1, h2, h3, h4, h5, h6, h7, h8⟩
    · exact .inl ⟨h1, h2, h4, h5, fun v u hv hq => .inl ⟨hr.push ⟨rfl, hv, rfl⟩, rfl, by have := Nat.ne_of_beq_eq_false hq; omega⟩⟩
    · refine .inr ⟨j, v, m, h1, h3, h4, h5, by simpa using h6, fun v' u' hv => ?_, .inl ⟨h8, rfl, hlt⟩⟩
      obtain ⟨l, q1, q2⟩ := h7 v' u' hv
      exact ⟨l, q1, .inl ⟨q2, rfl, hlt⟩⟩
  · have hn0 := hw.1
    have hn : (es.map ME.key).Nodup := hs.keys.nodup_iff.1 hn0
    rcases find_ok key hr 0 with ⟨h1, h2, h3, h4, h5⟩ | ⟨j, v, m, h1, h2, h3, h4, h5, h6, h7, h8⟩
    · have hf : findM key es = none := find_none_iff.2 fun hm => find_none_iff.1 h1 (hs.keys.mem_iff.2 hm)
      refine .inl ⟨hf, fun v => put_none v hf, del_none hf, h5, fun v u hv _ => .inr ⟨Nat.le_succ_of_le hU, es0 ++ [⟨key, v, cl0⟩], hr.push ⟨rfl, hv, rfl⟩, ?_, ?_, ?_, ?_⟩⟩
      · unfold simM
        simp only [List.map_append, List.map_cons, List.map_nil]
        exact List.Perm.append hs (List.Perm.refl _)
      · rw [List.map_append]
        refine List.nodup_append.2 ⟨hn0, by simp, ?_⟩
        intro a ha b hb
        simp only [List.map_cons, List.map_nil, List.mem_singleton] at hb
        subst hb
        exact fun e => find_none_iff.1 h1 (e ▸ ha)
      · rw [List.map_append]
        refine List.nodup_append.2 ⟨hw.2.1, by simp, ?_⟩
        intro a ha b hb
        simp only [List.map_cons, List.map_nil, List.mem_singleton] at hb
        subst hb
        obtain ⟨e, he, rfl⟩ := List.mem_map.1 ha
        have := hw.2.2 e he
        omega
      · intro e he
        rcases List.mem_append.1 he with he | he
        · exact Nat.lt_succ_of_lt (hw.2.2 e he)
        · simp only [List.mem_singleton] at he; subst he; exact Nat.lt_succ_self cl0
    · have hf : findM key es = some v := (find_kv hn).2 (hs.mem_iff.1 ((find_kv hn0).1 h1))
      refine .inr ⟨j, v, m, hf, h3, h4, h5, by simpa using h6, fun v' u' hv => ?_, .inr ⟨hU, delM key es0, h8, ?_, hw.sub del_sub⟩⟩
      · obtain ⟨l0, q1, q2⟩ := h7 v' u' hv
        obtain ⟨l0', p1, p2, p3, p4⟩ := put_kv (key := key) v' hn0 h1
        obtain ⟨l, r1, r2, r3, r4⟩ := put_kv (key := key) v' hn hf
        rw [p1] at q1
        have e0 := Option.some.inj q1
        rw [← e0] at q2
        refine ⟨l, r1, .inr ⟨hU, l0', q2, ?_, ?_, ?_, ?_⟩⟩
        · unfold simM; rw [p2, r2]; exact hs.map _
        · rw [p3]; exact hn0
        · rw [p4]; exact hw.2.1
        · intro e he
          have : e.born ∈ l0'.map ME.born := List.mem_map_of_mem he
          rw [p4] at this
          obtain ⟨e', he', hb⟩ := List.mem_map.1 this
          rw [← hb]; exact hw.2.2 e' he'
      · unfold simM; rw [del_kv hn0, del_kv hn]; exact hs.filter _
theorem MapOk.len {es : List ME} {cl cl0 : Nat} {ms : List MapEntry} (h : MapOk g c es cl cl0 ms) : ms.length = es.length := by
  rcases h with ⟨h1, _⟩ | ⟨_, es0, h1, h2, _⟩
  · exact h1.len
  · rw [h1.len]; simpa using h2.length_eq
theorem MapOk.clear {es : List ME} {cl cl0 : Nat} {ms : List MapEntry} (h : MapOk g c es cl cl0 ms) : MapOk g c [] cl cl0 [] := by
  rcases h with ⟨h1, h2⟩ | ⟨h1, es0, h2, h3, h4⟩
  · exact .inl ⟨trivial, h2⟩
  · exact .inr ⟨h1, [], trivial, List.Perm.refl _, by simp [wfM]⟩
theorem MapOk.exact {es : List ME} {cl cl0 : Nat} {ms : List MapEntry} (h : MapOk g c es cl cl0 ms) (hc : Nat.blt cl uM = true) : MReps g c es ms ∧ cl0 = cl ∧ cl < uM := by
  rcases h with h | ⟨h1, _⟩
  · exact h
  · have : cl < uM := Nat.le_of_ble_eq_true hc
    omega
theorem mapT_some {t et : TypeId} (h : mapT Pr t = some et) : ∃ kt, Pr.underlying t = some (.map kt et) ∧ Pr.underlying kt = some (.int .i64) := by
  unfold mapT at h
  split at h
  · rename_i kt et' h1
    split at h
    · rename_i h2
      simp only [Option.some.injEq] at h; subst h
      exact ⟨kt, h1, h2⟩
    · cases h
  · cases h
theorem run_checkN {kt : TypeId} (h : Pr.underlying kt = some (.int .i64)) (e : Bool) (n : Nat) (key : Int) (w : World) : (Instr.checkKey e (n + 1) kt (keyI key)).run Pr w = .ok () w := by
  simp [Instr.checkKey, run_underlying h, keyI]
theorem run_checkInt {kt : TypeId} (h : Pr.underlying kt = some (.int .i64)) (e : Bool) (key : Int) (w : World) : (Instr.checkKey e 10000 kt (keyI key)).run Pr w = .ok () w := run_checkN h e 9999 key w
theorem run_findInt {kt : TypeId} (h : Pr.underlying kt = some (.int .i64)) {key : Int} {ms : List MapEntry} {r : Option (Nat × Value)} (hf : Instr.findNow (.int .i64) (keyI key) ms 0 = some r) (w : World) : (Instr.findKey kt (keyI key) ms).run Pr w = .ok r w := by
  simp [Instr.findKey, run_underlying h, hf]
theorem live_val {x : HV} {u : Value} (h : TRep g c x u) (hl : liveV x = true) : VRep g c x u := by
  cases x <;> first | exact h | cases hl
theorem zero_ok {t : TypeId} (hl : liveV (zeroT Pr t) = true) : ∃ z, (∀ w, (zeroValue t).run Pr w = .ok z w) ∧ VRep g c (zeroT Pr t) z := by
  obtain ⟨i, z, hi, hz, he⟩ := zeroT_some (Pr := Pr) (t := t) (fun e => by rw [e] at hl; cases hl)
  exact ⟨z, fun w => by simp [zeroValue, typeInfo, hi, hz], by rw [he]; exact constV_ok z⟩
theorem map_at (hi : HOk D g h c w) {k : Nat} {es : List ME} {cl : Nat} (hk : k < c) (hb : (HT.get D k h).body = .map es cl) : ∃ (ms : List MapEntry) (cl0 : Nat), w.heap[(g k).b]? = some (.map ms.toArray cl0) ∧ MapOk g c es cl cl0 ms := by
  obtain ⟨ms, cl0, h1, _, h3⟩ := (hi.body hk hb (by simp)).asMap
  exact ⟨ms, cl0, h1, h3⟩
theorem tup_ok {z : Bool} {a : HV} {u : Value} (ha : VRep g c a u) (ok : Bool) : TRep g c (okTup ok a z) (if ok then .tuple #[u, .bool z] else u) := by
  cases ok with
  | false => exact TRep.of_val ha
  | true =>
    refine ⟨[u, .bool z], rfl, rfl, fun i x y hx hy => ?_⟩
    match i with
    | 0 => simp at hx hy; subst hx; subst hy; exact ha
    | 1 => simp at hx hy; subst hx; subst hy; rfl
    | i + 2 => simp at hx
theorem lookup_ok {t : TypeId} {ok : Bool} {f : HT → HV → HV} (hf : lookupF Pr D t ok = .f f) (hi : HOk D g h c w) {x y : HV} {u z : Value} (hx : TRep g c x u) (hy : TRep g c y z) (hl : f h (.tup [x, y]) ≠ .dead) :
    ∃ r, (Instr.lookup t u z ok).run Pr w = .ok r w ∧ TRep g c (f h (.tup [x, y])) r := by
  unfold lookupF at hf
  split at hf
  · rename_i et ht
    obtain ⟨kt, hu, hkt⟩ := mapT_some ht
    split at hf
    · rename_i hlive
      injection hf with hf; subst hf
      obtain ⟨zv, hz1, hz2⟩ := zero_ok (g := g) (c := c) hlive
      unfold lookupV at hl ⊢
      cases y <;> try exact absurd rfl hl
      rename_i ik key
      simp only at hl ⊢
      split at hl
      · rename_i hik
        rw [if_pos hik]
        have := ikEq_eq hik; subst this
        have ez : z = keyI key := hy
        subst ez
        unfold lookV at hl ⊢
        cases x <;> try exact absurd rfl hl
        · rename_i k
          obtain ⟨hk, rfl⟩ := hx
          simp only at hl ⊢
          split at hl
          · rename_i es cl hb
            obtain ⟨ms, cl0, hm, hr⟩ := map_at hi hk.1 hb
            rcases find_ok2 key hr with ⟨h1, h2, h4, h5, h9⟩ | ⟨j, v, m, h1, h3, h4, h5, h6, h7, h8⟩
            · simp only [h1]
              refine ⟨_, ?_, tup_ok hz2 ok⟩
              simp [Instr.lookup, run_underlying hu, MapKept.run_getObj_map hm, run_checkInt hkt, run_findInt hkt h5, hz1]
            · simp only [h1]
              refine ⟨_, ?_, tup_ok h5 ok⟩
              simp [Instr.lookup, run_underlying hu, MapKept.run_getObj_map hm, run_checkInt hkt, run_findInt hkt h6]
          · exact absurd rfl hl
        · have e1 : u = .map none := hx
          subst e1
          refine ⟨_, ?_, tup_ok hz2 ok⟩
          have h5 : Instr.findNow (.int .i64) (keyI key) [] 0 = some none := rfl
          simp [Instr.lookup, run_underlying hu, run_checkInt hkt, run_findInt hkt h5, hz1]
      · exact absurd rfl hl
    · cases hf
  · cases hf
theorem lookupF_not {t : TypeId} {ok : Bool} {f : HV → HV} (h : lookupF Pr D t ok = .p f) : False := by
  unfold lookupF at h
  split at h
  · split at h <;> cases h
  · cases h
theorem lenM_ok {t : TypeId} {kt et : TypeId} (ht : Pr.underlying t = some (.map kt et)) (hi : HOk D g h c w) {x : HV} {u : Value} {ty : TypeId} {rest : List TypeId} (hx : TRep g c x u) (hl : lenM D h x ≠ .dead) :
    ∃ r, (Builtin.len_ (t :: rest).toArray ty #[u]).run Pr w = .ok r w ∧ TRep g c (lenM D h x) r := by
  unfold lenM at hl ⊢
  cases x <;> try exact absurd rfl hl
  · rename_i k
    obtain ⟨hk, rfl⟩ := hx
    simp only at hl ⊢
    split at hl
    · rename_i es cl hb
      obtain ⟨ms, cl0, hm, hr⟩ := map_at hi hk.1 hb
      refine ⟨.int .i64 (Int.ofNat es.length), ?_, rfl⟩
      rw [← hr.len]
      simp [Builtin.len_, Builtin.lenOf, run_underlying ht, MapKept.run_getObj_map hm, goInt]
    · exact absurd rfl hl
  · have e1 : u = .map none := hx
    subst e1
    exact ⟨_, by simp [Builtin.len_, Builtin.lenOf, run_underlying ht]; rfl, rfl⟩
theorem bounds_wide {len cap : Nat} {lo : Option Value} {xl xh : HV} {vh : Value} {b l : Nat} (hlo : LoRep g c lo xl) (hhi : TRep g c xh vh) (hb : natOf xh = some b) (hc : b ≤ cap) (h2 : boundM b xl = some l) :
    (Instr.sliceBounds true len cap lo (some vh) none).run Pr w = .ok (l, b, cap) w ∧ l ≤ b := by
  obtain ⟨k, rfl⟩ := natOf_some hb
  have e : vh = .int k (b : Int) := hhi
  subst e
  cases lo with
  | none =>
    have : xl = .int .i64 (.ofNat 0) := hlo
    subst this
    have h2 : (if Nat.ble 0 b then some 0 else none) = some l := h2
    simp at h2; subst h2
    exact ⟨by simp [Instr.sliceBounds, sliceBound_run (Pr := Pr) (w := w) _ hc], by omega⟩
  | some v =>
    obtain ⟨k2, rfl, hl⟩ := boundM_some hlo h2
    exact ⟨by simp [Instr.sliceBounds, sliceBound_run (Pr := Pr) (w := w) _ hc, sliceBound_run (Pr := Pr) (w := w) _ hl], hl⟩
theorem sliceWide_ok {hh : Bool} {t e : TypeId} {sz : Nat} (hu : Pr.underlying t = some (.slice e)) (hsz : sizeT Pr e = some sz) (hi : HOk D g h c w) {x xl xh : HV} {v : Value} {lo hv : Option Value} (hx : TRep g c x v) (hlo : LoRep g c lo xl) (hhi : HiRep g c hh hv xh) (hl : sliceWide D hh sz h x xl xh ≠ .dead) :
    ∃ u, (Instr.sliceAt t v lo hv none).run Pr w = .ok u w ∧ TRep g c (sliceWide D hh sz h x xl xh) u := by
  unfold sliceWide at hl ⊢
  cases x <;> try exact absurd rfl hl
  rename_i k o n es cl
  obtain ⟨hk, A, m, e1, hnm, hmm, hes, hlen, hbs, hfull, hcl, hA⟩ := hx
  subst e1
  simp only at hl ⊢
  split at hl
  · rename_i hc
    rw [if_pos hc]
    simp only [Bool.and_eq_true, Bool.not_eq_true'] at hc
    obtain ⟨rfl, hcf, hes2⟩ := hc
    have := Nat.eq_of_beq_eq_true hes2; subst this
    have hfull := hfull hcf
    cases hv with
    | none => cases hhi
    | some vh =>
      obtain ⟨_, hhi⟩ := hhi
      split at hl
      · rename_i b hb
        split at hl
        · rename_i hc2
          rw [if_pos hc2]
          simp only [Bool.and_eq_true] at hc2
          have hnb : n < b := Nat.le_of_ble_eq_true hc2.1
          have hin : o + b * es ≤ sizeO (HT.get D k h).body := Nat.le_of_ble_eq_true hc2.2
          have hno : (HT.get D k h).body ≠ .no := fun e => by
            rw [e] at hin
            have h0 : o + b * es ≤ 0 := hin
            have := Nat.mul_le_mul (show 1 ≤ b by omega) hes
            omega
          have hlb : (g k).len = sizeO (HT.get D k h).body := by
            have hbk := hi.body hk.1 rfl hno
            cases hm : isMap (HT.get D k h).body with
            | true =>
              exfalso
              cases hq : (HT.get D k h).body with
              | map es' cl' =>
                rw [hq] at hin
                have h0 : o + b * es ≤ 0 := hin
                have := Nat.mul_le_mul (show 1 ≤ b by omega) hes
                omega
              | _ => rw [hq] at hm; cases hm
            | false =>
              obtain ⟨us, _, _, q3, _⟩ := hbk.cells hm
              exact q3
          split at hl
          · rename_i l hl2
            have hbm : b ≤ m := by
              have h1 : b * es ≤ m * es := by omega
              exact Nat.le_of_mul_le_mul_right h1 hes
            obtain ⟨q, hlb2⟩ := bounds_wide (Pr := Pr) (w := w) (len := n) hlo hhi hb hbm hl2
            show ∃ u, _ ∧ TRep g c (HV.slc k (o + l * es) (b - l) es false) u
            refine ⟨.slice (some (if m = l then A else A.add (l * es))) (b - l) (m - l), ?_, hk, _, m - l, rfl, by omega, by omega, hes, ?_, ?_, fun hc => ?_, fun hc => (by cases hc), fun h0 => ?_⟩
            · simp [Instr.sliceAt, Instr.slice, run_underlying hu, q, sizeT_run hsz]
              split <;> simp_all
            · show o + l * es + (b - l) * es ≤ (g k).len
              have : l * es + (b - l) * es = b * es := by rw [← Nat.add_mul]; congr 1; omega
              omega
            · show (g k).o + (o + l * es) + (m - l) * es ≤ (g k).bs
              have : l * es + (m - l) * es = m * es := by rw [← Nat.add_mul]; congr 1; omega
              omega
            · show (g k).len ≤ o + l * es + (m - l) * es
              have : l * es + (m - l) * es = m * es := by rw [← Nat.add_mul]; congr 1; omega
              omega
            · rw [if_neg (by omega), hA (by omega), addr_add]
          · exact absurd rfl hl
        · exact absurd rfl hl
      · exact absurd rfl hl
  · exact absurd rfl hl
theorem sliceH_ok {hh : Bool} {t e : TypeId} {sz : Nat} (hu : Pr.underlying t = some (.slice e)) (hsz : sizeT Pr e = some sz) (hi : HOk D g h c w) {x xl xh : HV} {v : Value} {lo hv : Option Value} (hx : TRep g c x v) (hlo : LoRep g c lo xl) (hhi : HiRep g c hh hv xh) (hl : sliceH D hh sz h (.tup [x, xl, xh]) ≠ .dead) :
    ∃ u, (Instr.sliceAt t v lo hv none).run Pr w = .ok u w ∧ TRep g c (sliceH D hh sz h (.tup [x, xl, xh])) u := by
  have e1 : sliceH D hh sz h (.tup [x, xl, xh]) = orV (sliceSlc hh sz x xl xh) (sliceWide D hh sz h x xl xh) := rfl
  rw [e1] at hl ⊢
  have hf : sliceF Pr hh t = .f (sliceSlc hh sz) := by unfold sliceF; rw [hu]; simp only [hsz]
  by_cases hd : sliceSlc hh sz x xl xh = .dead
  · rw [hd] at hl ⊢
    exact sliceWide_ok hu hsz hi hx hlo hhi hl
  · have e2 : orV (sliceSlc hh sz x xl xh) (sliceWide D hh sz h x xl xh) = sliceSlc hh sz x xl xh := by
      cases hq : sliceSlc hh sz x xl xh <;> first | rfl | exact absurd hq hd
    rw [e2]
    exact sliceF_ok hf hx hlo hhi hd
def setB (w : World) (b : Nat) (o : Obj) : World := { w with heap := w.heap.setIfInBounds b o }
theorem Chg.setB (w : World) (b : Nat) (o : Obj) : Chg b w (setB w b o) := ⟨rfl, rfl, rfl, by simp [FM.setB], fun k _ hk => by simp only [FM.setB, Array.getElem?_setIfInBounds]; rw [if_neg (Ne.symm hk)]⟩
theorem set_eff {k cl cl' cl1 : Nat} {es es' : List ME} {ms ms' : List MapEntry} (hi : HOk D g h c w) (hk : Nm g c k) (ho : HT.get D k h = .own 0 (.map es cl)) {x : HV} (hr : setM D k x es' cl' h c = .ok v h' c') (hms : MapOk g c es' cl' cl1 ms') {r : Result Value} {z : Value}
    (hrun : r = .ok z (setB w (g k).b (.map ms'.toArray cl1))) (hv : TRep g c x z) : Eff D g h c w r v h' c' := by
  cases hr
  have hk4 : k < 4 ^ D := Nat.lt_of_lt_of_le hk.1 hi.le
  have ho' : hp D h k = .own 0 (.map es cl) := by rw [hp_lt hk4]; exact ho
  obtain ⟨ms0, cl0, b1, b2, b3⟩ := (hi.inv.own k 0 _ ho').asMap
  have hlt := (Array.getElem?_eq_some_iff.1 b1).1
  have hb : BOk g c (g k) (.map es' cl') (setB w (g k).b (.map ms'.toArray cl1)) := .inr ⟨es', cl', cl1, ms', rfl, by simp [FM.setB, Array.getElem?_setIfInBounds, hlt], b2, hms⟩
  obtain ⟨e1, e2⟩ := hp_unpre (D := D) (h := h) (pre := 0) (c := c) hi.deep (.inl rfl)
  have hs := hp_set (o := .own 0 (.map es' cl')) e2 hk4
  have hps := Post.set hi.inv ho' (Chg.setB w _ _) hb
  rw [e1] at hs
  rw [← hs] at hps
  exact ⟨z, _, g, hrun, ⟨deep_set _ _ _ _ e2, hi.le, hps.inv⟩, hps, hv⟩
theorem own_body {k : Nat} {b : HB} {p : Nat} (ho : HT.get D k h = .own p b) : (HT.get D k h).body = b := by rw [ho]; rfl
theorem setIf_eq (w : World) (b : Nat) (o : Obj) : ({ w with heap := w.heap.setIfInBounds b o } : World) = setB w b o := rfl
theorem same_bits (key : Int) : Instr.sameBits 10000 (keyI key) (keyI key) = true := by
  have : ∀ n, Instr.sameBits n (keyI key) (keyI key) = true := fun n => by cases n <;> simp [Instr.sameBits, keyI]
  exact this _
theorem run_keyStays (key : Int) (w : World) : (Instr.keyThatStays (keyI key) (keyI key)).run Pr w = .ok (keyI key) w := by
  simp [Instr.keyThatStays, same_bits]
theorem upd_ok {t : TypeId} {f : HT → Nat → HV → HV → CR} (hf : updF Pr D t = .f f) (hi : HOk D g h c w) {x y q : HV} {ux uy uq : Value} (hx : TRep g c x ux) (hy : TRep g c y uy) (hq : TRep g c q uq) (hr : f h c x (.tup [y, q]) = .ok v h' c') :
    ∃ w' g', (Instr.mapUpdate t ux uy uq).run Pr w = .ok () w' ∧ HOk D g' h' c' w' ∧ Post g (hp D h) c w g' (hp D h') c' w' ∧ v = .und := by
  have fin : ∀ {r : Result Unit}, Eff D g h c w (r.andThen fun _ w => .ok undef w) v h' c' → v = .und → (∀ z w', (r.andThen fun _ w => .ok undef w) = .ok z w' → r = .ok () w') → ∃ w' g', r = .ok () w' ∧ HOk D g' h' c' w' ∧ Post g (hp D h) c w g' (hp D h') c' w' ∧ v = .und := fun ⟨z, w', g', q1, q2, q3, _⟩ hv hz => ⟨w', g', hz z w' q1, q2, q3, hv⟩
  have hz : ∀ (r : Result Unit) z w', (r.andThen fun _ w => .ok undef w) = .ok z w' → r = .ok () w' := fun r z w' he => by
    cases r with
    | ok u w1 => simp only [Result.andThen_ok, Result.ok.injEq] at he; rw [he.2]
    | _ => simp [Result.andThen] at he
  unfold updF at hf
  split at hf
  · rename_i et ht
    obtain ⟨kt, hu, hkt⟩ := mapT_some ht
    injection hf with hf; subst hf
    unfold updE at hr
    cases x <;> try (cases hr; done)
    rename_i k
    cases y <;> try (cases hr; done)
    rename_i ik key
    simp only at hr
    obtain ⟨hk, rfl⟩ := hx
    have ey : uy = .int ik key := hy
    subst ey
    split at hr
    · rename_i hc
      simp only [Bool.and_eq_true] at hc
      have := ikEq_eq hc.1; subst this
      have hqv := live_val hq hc.2
      split at hr
      · rename_i es cl ho
        obtain ⟨ms, cl0, hm, hms⟩ := map_at hi hk.1 (own_body ho)
        rcases find_ok2 key hms with ⟨h1, h2, h4, h5, h9⟩ | ⟨j, v0, m, h1, h3, h4, h5, h6, h7, h8⟩
        · rw [h2] at hr
          simp only at hr
          cases hbc : Nat.beq (Nat.succ cl) uM with
          | true => rw [hbc] at hr; cases hr
          | false =>
          rw [hbc] at hr
          simp only at hr
          have hv : v = .und := by cases hr; rfl
          refine fin (set_eff (ms := ms) (z := undef) (ms' := ms ++ [⟨keyI key, uq, cl0⟩]) hi hk ho hr (h9 _ _ hqv hbc) ?_ rfl) hv (hz _)
          have hr2 : (Instr.mapUpdate t (.map (some (g k).b)) (keyI key) uq).run Pr w = .ok () (setB w (g k).b (.map (ms ++ [(⟨keyI key, uq, cl0⟩ : MapEntry)]).toArray (Nat.succ cl0))) := by
            simp [Instr.mapUpdate, run_underlying hu, MapKept.run_getObj_map hm, run_checkInt hkt, run_findInt hkt h5, MapKept.run_setObj_map _ hm, setIf_eq]
          show ((Instr.mapUpdate t (.map (some (g k).b)) (keyI key) uq).run Pr w).andThen _ = _
          rw [hr2]; rfl
        · obtain ⟨l, q1, q2⟩ := h7 q uq hqv
          rw [q1] at hr
          simp only at hr
          have hv : v = .und := by cases hr; rfl
          refine fin (set_eff (ms := ms) (z := undef) hi hk ho hr q2 ?_ rfl) hv (hz _)
          have hr2 : (Instr.mapUpdate t (.map (some (g k).b)) (keyI key) uq).run Pr w = .ok () (setB w (g k).b (.map (ms.modify j fun e => { e with key := keyI key, val := uq }).toArray cl0)) := by
            simp [Instr.mapUpdate, run_underlying hu, MapKept.run_getObj_map hm, run_checkInt hkt, run_findInt hkt h6, h3, h4, run_keyStays, MapKept.run_setObj_map _ hm, setIf_eq]
          show ((Instr.mapUpdate t (.map (some (g k).b)) (keyI key) uq).run Pr w).andThen _ = _
          rw [hr2]; rfl
      · cases hr
    · cases hr
  · cases hf
theorem ent_ok {t : TypeId} {f : HT → Nat → HV → HV → CR} (hf : entF Pr D t = .f f) (hi : HOk D g h c w) {x y : HV} {ux uy : Value} (hx : TRep g c x ux) (hy : TRep g c y uy) (hr : f h c x y = .ok v h' c') :
    Eff D g h c w ((Instr.mapEntry t ux uy).run Pr w) v h' c' := by
  unfold entF at hf
  split at hf
  · rename_i et ht
    obtain ⟨kt, hu, hkt⟩ := mapT_some ht
    split at hf
    · rename_i hlive
      obtain ⟨zv, hz1, hz2⟩ := zero_ok (g := g) (c := c) hlive
      injection hf with hf; subst hf
      unfold entE at hr
      cases x <;> try (cases hr; done)
      rename_i k
      cases y <;> try (cases hr; done)
      rename_i ik key
      simp only at hr
      obtain ⟨hk, rfl⟩ := hx
      have ey : uy = .int ik key := hy
      subst ey
      have pair : ∀ {a : HV} {u : Value} {b : Nat}, VRep g c a u → TRep g c (.tup [a, .int .i64 (.ofNat b)]) (.tuple #[u, .int .i64 (b : Int)]) := fun {a u b} ha => ⟨[u, .int .i64 (b : Int)], rfl, rfl, fun i x y hx hy => by
        match i with
        | 0 => simp at hx hy; subst hx; subst hy; exact ha
        | 1 => simp at hx hy; subst hx; subst hy; rfl
        | i + 2 => simp at hx⟩
      split at hr
      · rename_i hc
        have := ikEq_eq hc; subst this
        split at hr
        · rename_i es cl ho
          split at hr
          rotate_left
          · cases hr
          rename_i hcl
          obtain ⟨ms, cl0, hm, hmo⟩ := map_at hi hk.1 (own_body ho)
          obtain ⟨hms, ecl, hlt⟩ := hmo.exact hcl
          have ecl := ecl.symm
          subst ecl
          rcases find_ok key hms 0 with ⟨h1, h2, h3, h4, h5⟩ | ⟨j, v0, m, h1, h2, h3, h4, h5, h6, h7, h8⟩
          · rw [h1, h3] at hr
            simp only at hr
            cases hbc : Nat.beq (Nat.succ cl) uM with
            | true => rw [hbc] at hr; cases hr
            | false =>
            rw [hbc] at hr
            simp only at hr
            refine set_eff (ms := ms) (ms' := ms ++ [⟨keyI key, zv, cl⟩]) hi hk ho hr (.inl ⟨hms.push ⟨rfl, hz2, rfl⟩, rfl, by have := Nat.ne_of_beq_eq_false hbc; omega⟩) ?_ (pair hz2)
            show (Instr.mapEntry t (.map (some (g k).b)) (keyI key)).run Pr w = _
            simp [Instr.mapEntry, run_underlying hu, MapKept.run_getObj_map hm, run_checkInt hkt, run_findInt hkt h5, MapKept.run_setObj_map _ hm, setIf_eq, hz1, goInt]
          · rw [h1, h2] at hr
            simp only at hr
            have hsame : MReps g c es (ms.modify j fun e => { e with key := keyI key }) := by
              have : (ms.modify j fun e => { e with key := keyI key }) = ms := by
                apply List.ext_getElem?
                intro i
                rw [List.getElem?_modify]
                by_cases hij : j = i
                · subst hij
                  rw [h3]
                  simp only [if_true, Option.map_some]
                  congr 1
                  cases m; simp only at h4; subst h4; rfl
                · simp [hij]
              rw [this]; exact hms
            refine set_eff (ms := ms) hi hk ho hr (.inl ⟨hsame, rfl, hlt⟩) ?_ (pair h5)
            show (Instr.mapEntry t (.map (some (g k).b)) (keyI key)).run Pr w = _
            simp only [Nat.zero_add] at h6
            simp [Instr.mapEntry, run_underlying hu, MapKept.run_getObj_map hm, run_checkInt hkt, run_findInt hkt h6, h3, h4, run_keyStays, MapKept.run_setObj_map _ hm, setIf_eq, goInt]
        · cases hr
      · cases hr
    · cases hf
  · cases hf
theorem entSt_ok {t : TypeId} (hi : HOk D g h c w) {x y q : HV} {ux uy uq : Value} (hx : TRep g c x ux) (hy : TRep g c y uy) (hq : TRep g c q uq) (hr : entStE D h c x (.tup [y, q]) = .ok v h' c') :
    ∃ w' g', (Instr.entryStore t ux uy uq).run Pr w = .ok () w' ∧ HOk D g' h' c' w' ∧ Post g (hp D h) c w g' (hp D h') c' w' ∧ v = .und := by
  unfold entStE at hr
  cases x <;> try (cases hr; done)
  rename_i k
  cases y <;> try (cases hr; done)
  rename_i ik n
  cases n with
  | negSucc n => cases hr
  | ofNat born =>
    simp only at hr
    obtain ⟨hk, rfl⟩ := hx
    have ey : uy = .int ik (Int.ofNat born) := hy
    subst ey
    split at hr
    · rename_i hc
      have hqv := live_val hq hc
      split at hr
      · rename_i es cl ho
        split at hr
        rotate_left
        · cases hr
        rename_i hcl
        obtain ⟨ms, cl0, hm, hmo⟩ := map_at hi hk.1 (own_body ho)
        obtain ⟨hms, ecl, hlt⟩ := hmo.exact hcl
        have ecl := ecl.symm
        subst ecl
        split at hr
        · rename_i l hl
          obtain ⟨i, q1, q2⟩ := stamp_ok born q uq hqv hms hl
          have hv : v = .und := by cases hr; rfl
          obtain ⟨z, w', g', r1, r2, r3, r4⟩ := set_eff (r := .ok undef (setB w (g k).b (.map (ms.modify i fun e => { e with val := uq }).toArray cl))) (ms := ms) (z := undef) hi hk ho hr (.inl ⟨q2, rfl, hlt⟩) rfl rfl
          refine ⟨w', g', ?_, r2, r3, hv⟩
          simp only [Result.ok.injEq] at r1
          obtain ⟨_, rfl⟩ := r1
          have q1' : ms.toArray.findIdx? (fun e => (e.born : Int) == (born : Int)) = some i := by simpa using q1
          simp [Instr.entryStore, MapKept.run_getObj_map hm, asInt, asIntOf, q1, q1', MapKept.run_setObj_map _ hm, setIf_eq]
        · cases hr
      · cases hr
    · cases hr
theorem del_ok {t ty : TypeId} {rest : List TypeId} {f : HT → Nat → HV → HV → CR} (hf : delF Pr D t = .f f) (hi : HOk D g h c w) {x y : HV} {ux uy : Value} (hx : TRep g c x ux) (hy : TRep g c y uy) (hr : f h c x y = .ok v h' c') :
    Eff D g h c w ((Builtin.delete_ (t :: rest).toArray ty #[ux, uy]).run Pr w) v h' c' := by
  unfold delF at hf
  split at hf
  · rename_i et ht
    obtain ⟨kt, hu, hkt⟩ := mapT_some ht
    injection hf with hf; subst hf
    have et : TRep g c (.tup []) (.tuple #[]) := ⟨[], rfl, rfl, fun i x y hx hy => by simp at hx⟩
    unfold delE at hr
    cases x <;> try (cases y <;> cases hr; done)
    · rename_i k
      cases y <;> try (cases hr; done)
      rename_i ik key
      simp only at hr
      obtain ⟨hk, rfl⟩ := hx
      have ey : uy = .int ik key := hy
      subst ey
      split at hr
      · rename_i hc
        have := ikEq_eq hc; subst this
        split at hr
        · rename_i es cl ho
          obtain ⟨ms, cl0, hm, hms⟩ := map_at hi hk.1 (own_body ho)
          rcases find_ok2 key hms with ⟨h1, h2, h4, h5, h9⟩ | ⟨j, v0, m, h1, h3, h4, h5, h6, h7, h8⟩
          · refine set_eff (ms := ms) (ms' := ms) hi hk ho hr (by rw [h4]; exact hms) ?_ et
            show (Builtin.delete_ (t :: rest).toArray ty #[.map (some (g k).b), keyI key]).run Pr w = _
            simp [Builtin.delete_, run_underlying hu, MapKept.run_getObj_map hm, run_checkInt hkt, run_findInt hkt h5, MapKept.run_setObj_map _ hm, setIf_eq]
          · refine set_eff (ms := ms) (ms' := ms.eraseIdx j) hi hk ho hr h8 ?_ et
            show (Builtin.delete_ (t :: rest).toArray ty #[.map (some (g k).b), keyI key]).run Pr w = _
            have hj := (List.getElem?_eq_some_iff.1 h3).1
            simp [Builtin.delete_, run_underlying hu, MapKept.run_getObj_map hm, run_checkInt hkt, run_findInt hkt h6, MapKept.run_setObj_map _ hm, setIf_eq, Array.eraseIdxIfInBounds_eq, hj]
        · cases hr
      · cases hr
    · cases y <;> try (cases hr; done)
      rename_i ik key
      simp only at hr
      have e1 : ux = .map none := hx
      subst e1
      have ey : uy = .int ik key := hy
      subst ey
      split at hr
      · rename_i hc
        have := ikEq_eq hc; subst this
        cases hr
        refine Eff.same (z := .tuple #[]) hi ?_ et
        show (Builtin.delete_ (t :: rest).toArray ty #[.map none, keyI key]).run Pr w = _
        simp [Builtin.delete_, run_underlying hu, run_checkInt hkt]
      · cases hr
  · cases hf
theorem clr_ok {t ty : TypeId} {rest : List TypeId} {kt et : TypeId} (ht : Pr.underlying t = some (.map kt et)) (hi : HOk D g h c w) {x y : HV} {ux : Value} (hx : TRep g c x ux) (hr : clrE D h c x y = .ok v h' c') :
    Eff D g h c w ((Builtin.clear_ (t :: rest).toArray ty #[ux]).run Pr w) v h' c' := by
  unfold clrE at hr
  cases x <;> try (cases hr; done)
  · rename_i k
    obtain ⟨hk, rfl⟩ := hx
    simp only at hr
    split at hr
    · rename_i es cl ho
      obtain ⟨ms, cl0, hm, hms⟩ := map_at hi hk.1 (own_body ho)
      refine set_eff (ms := ms) (ms' := []) (cl1 := cl0) hi hk ho hr (hms.clear) ?_ (z := undef) rfl
      simp [Builtin.clear_, run_underlying ht, MapKept.run_getObj_map hm, MapKept.run_setObj_map _ hm, setIf_eq, undef]
    · cases hr
  · have e1 : ux = .map none := hx
    subst e1
    cases hr
    refine Eff.same (z := undef) hi ?_ rfl
    simp [Builtin.clear_, run_underlying ht, undef]
theorem make_ok {t : TypeId} {vs : List HV} (hi : HOk D g h c w) (hr : makeM D h c vs = .ok v h' c') : Eff D g h c w ((Instr.makeMap t none).run Pr w) v h' c' := by
  have hb : BOk (g.new c ⟨w.heap.size, 0, 1, 1⟩) (c + 1) ⟨w.heap.size, 0, 1, 1⟩ (.map [] 0) (w.alloc (.map #[] 0)) := .inr ⟨[], 0, 0, [], rfl, heap_alloc_new w _, ⟨rfl, Nat.le_refl _⟩, .inl ⟨trivial, rfl, by decide⟩⟩
  refine new_eff hi (Ext.alloc w _) (Nat.le_refl _) hb hr (z := .map (some w.heap.size)) ?_ ⟨nm_new g c _ (Nat.le_refl _), by rw [gnew_self]⟩
  simp [Instr.makeMap, newObj, Sem.run]
end
end
end Go.FM

/-! ## FnCmp -/
namespace Go.FM
noncomputable section
variable [Env]
theorem next_none : Extern.allNextRows.lookup cmpName = none := by
  have h : (Extern.allNextRows.lookup cmpName).isNone = true := by decide +kernel
  simpa using h
theorem next_none0 : Extern.allNextRows.lookup "" = none := by
  have h : (Extern.allNextRows.lookup "").isNone = true := by decide +kernel
  simpa using h
theorem gen_none : Extern.allGenericRows.lookup cmpName = none := by
  have h : (Extern.allGenericRows.lookup cmpName).isNone = true := by decide +kernel
  simpa using h
theorem typed_none : Extern.allTypedRows.lookup cmpName = none := by
  have h : (Extern.allTypedRows.lookup cmpName).isNone = true := by decide +kernel
  simpa using h
theorem row_some : Extern.allRows.lookup cmpName = some Extern.BytealgCompare.compare := by kernel_rfl
theorem get_at {n a i : Nat} (h : i < n) : (⟨(bytesOf n a).toArray⟩ : ByteArray)[i]! = UInt8.ofNat (bAt a i) := by
  have h1 : i < (⟨(bytesOf n a).toArray⟩ : ByteArray).size := by simp [ByteArray.size, bytesOf_length]; exact h
  rw [getElem!_pos _ i h1]
  have h2 := bytesOf_get n a i h
  show (bytesOf n a).toArray[i] = _
  have h3 : (bytesOf n a)[i]? = some ((bytesOf n a)[i]'(by rw [bytesOf_length]; exact h)) := List.getElem?_eq_getElem _
  rw [h3] at h2
  simpa using h2
theorem bAt_lt' (a i : Nat) : bAt a i < 256 := Nat.mod_lt _ (by decide)
theorem u8_ne {x y : Nat} (hx : x < 256) (hy : y < 256) : (UInt8.ofNat x != UInt8.ofNat y) = !(Nat.beq x y) := by
  by_cases h : x = y
  · subst h; simp [Nat.beq_refl]
  · have h1 : Nat.beq x y = false := by
      cases hb : Nat.beq x y with
      | false => rfl
      | true => exact absurd (Nat.eq_of_beq_eq_true hb) h
    rw [h1]
    simp only [Bool.not_false, bne_iff_ne, ne_eq]
    intro e
    have := congrArg UInt8.toNat e
    simp only [UInt8.toNat_ofNat'] at this
    omega
theorem u8_lt {x y : Nat} (hx : x < 256) (hy : y < 256) : (UInt8.ofNat x < UInt8.ofNat y) ↔ x < y := by
  rw [UInt8.lt_iff_toNat_lt]
  simp only [UInt8.toNat_ofNat']
  omega
theorem find_congr {α : Type} {p q : α → Bool} : ∀ {l : List α}, (∀ x ∈ l, p x = q x) → l.find? p = l.find? q
  | [], _ => rfl
  | a :: r, h => by
    have h1 := h a (by simp)
    have h2 := find_congr (l := r) fun x hx => h x (by simp [hx])
    simp only [List.find?_cons, h1, h2]
theorem cmp_eq (n a m b : Nat) : Extern.BytealgCompare.cmp ⟨(bytesOf n a).toArray⟩ ⟨(bytesOf m b).toArray⟩ = cmpN n a m b := by
  have s1 : (⟨(bytesOf n a).toArray⟩ : ByteArray).size = n := by simp [ByteArray.size, bytesOf_length]
  have s2 : (⟨(bytesOf m b).toArray⟩ : ByteArray).size = m := by simp [ByteArray.size, bytesOf_length]
  unfold Extern.BytealgCompare.cmp cmpN
  rw [s1, s2]
  have hf : ((List.range (min n m)).find? fun i => (⟨(bytesOf n a).toArray⟩ : ByteArray)[i]! != (⟨(bytesOf m b).toArray⟩ : ByteArray)[i]!) = (List.range (Nat.min n m)).find? fun i => !(Nat.beq (bAt a i) (bAt b i)) := by
    refine find_congr fun i hi => ?_
    have hi : i < min n m := List.mem_range.1 hi
    rw [get_at (show i < n by omega), get_at (show i < m by omega), u8_ne (bAt_lt' _ _) (bAt_lt' _ _)]
  rw [hf]
  cases hq : (List.range (Nat.min n m)).find? fun i => !(Nat.beq (bAt a i) (bAt b i)) with
  | none =>
    simp only
    have e1 : Nat.blt n m = decide (n < m) := by rw [Bool.eq_iff_iff]; simp [Nat.blt_eq]
    have e2 : Nat.blt m n = decide (m < n) := by rw [Bool.eq_iff_iff]; simp [Nat.blt_eq]
    simp [e1, e2]
  | some i =>
    have hi : i < min n m := List.mem_range.1 (List.mem_of_find?_eq_some hq)
    simp only
    rw [get_at (show i < n by omega), get_at (show i < m by omega)]
    have e1 : Nat.blt (bAt a i) (bAt b i) = decide (bAt a i < bAt b i) := by rw [Bool.eq_iff_iff]; simp [Nat.blt_eq]
    simp [e1, u8_lt (bAt_lt' a i) (bAt_lt' b i)]
theorem compare_eq (a b : Value) : Extern.BytealgCompare.compare #[a, b] = (do pure (goInt (Extern.BytealgCompare.cmp (← Extern.Bytes.bytesOf a) (← Extern.Bytes.bytesOf b)))) := rfl
section
variable {Pr : Program} {g : Gm} {c : Nat} {w : World}
theorem cmp_run {f : FuncId} (h : isCmp Pr f = true) {x y : HV} {u v : Value} (hx : TRep g c x u) (hy : TRep g c y v) (hl : cmpV x y ≠ .dead) : ∃ z, (callFunc f #[u, v]).run Pr w = .ok (.value z) w ∧ TRep g c (cmpV x y) z := by
  unfold isCmp at h
  split at h
  · rename_i fn hf
    simp only [Bool.and_eq_true, beq_iff_eq] at h
    obtain ⟨h1, h2, h3⟩ := h
    unfold cmpV at hl ⊢
    cases x <;> try (cases y <;> exact absurd rfl hl)
    rename_i n a
    cases y <;> try exact absurd rfl hl
    rename_i m b
    obtain ⟨_, rfl⟩ := hx
    obtain ⟨_, rfl⟩ := hy
    refine ⟨.int .i64 (cmpN n a m b), ?_, rfl⟩
    have hname : (fn.name == "runtime.NumGoroutine") = false := by rw [h2]; decide
    have hname2 : ¬ fn.name = "runtime.NumGoroutine" := by simpa using hname
    have hmark : ∀ (w : World), (mark (.extern f) : Sem Unit).run Pr w = .ok () w := fun w => rfl
    have hn : Extern.findNext fn = none := by simp [Extern.findNext, h2, h3, next_none, next_none0]
    have he : Extern.find fn = some Extern.BytealgCompare.compare := by simp [Extern.find, h2, gen_none, typed_none, row_some]
    have hb : fn.body = none := by simpa using h1
    simp [callFunc, hf, hname2, hb, hn, he, hmark, compare_eq, Extern.Bytes.bytesOf, strOf, cmp_eq, goInt]
  · cases h
end
end
end Go.FM

/-! ## FnComp2 -/
namespace Go.FM
noncomputable section
variable [Env]
section
variable {Pr : Program} {D : Nat} {w w' : World} {g g' : Gm} {c c' : Nat} {nt gl : Nat} {reg : List Nat} {t : L} {s : S} {a : Act} {cl : Cl} {o : Oper} {k : K}
theorem compBi_ok {cc : Call} {b : Builtin} (ho : o.op = .call cc) (hc : cc.callee = .builtin b)
    (h : ∀ w, exec cl (compBi Pr D gl reg (dstP gl o.dst) b cc.argTypes.toList cc.args.toList) k t s ≠ .x w) :
    Good Pr D gl reg cl o t s k (compBi Pr D gl reg (dstP gl o.dst) b cc.argTypes.toList cc.args.toList) := by
  have bi : ∀ (a : Act) (w : World), (execOp a.eval o).run Pr w = (builtin b cc.argTypes o.type (cc.args.map fun | .const _ => true | _ => false) (cc.args.map a.eval)).run Pr w := fun a w => by
    simp [execOp, ho, Go.resolve, hc, invoke]
    rfl
  have ts : ∀ l, cc.argTypes.toList = l → cc.argTypes = l.toArray := fun l h => by rw [← h]
  have as : ∀ l, cc.args.toList = l → cc.args = l.toArray := fun l h => by rw [← h]
  unfold compBi at h ⊢
  split at h
  ·
    rename_i ty rest x e1 e2
    have e1 := ts _ e1
    have e2 := as _ e2
    split at h
    · rename_i kt et hmap
      refine good_pure (why := 45) rfl h fun hl a w g hs hi => ?_
      obtain ⟨u, h1, h2⟩ := lenM_ok (ty := o.type) (rest := rest) hmap hi (hs.get ho (x := x) (by simp [Op.operands, Call.operands, hc, e2])) hl
      refine ⟨u, ?_, h2⟩
      rw [bi, e1, e2]
      simp [builtin, h1]
    cases hf : lenF Pr ty with
    | no => rw [hf] at h; exact absurd rfl (h 20)
    | f f =>
      rw [hf] at h
      refine good_pure (why := 41) rfl h fun hl a w g hs hi => ?_
      obtain ⟨u, h1, h2⟩ := lenF_ok (ty := o.type) (rest := rest) (w := w) hf (hs.get ho (x := x) (by simp [Op.operands, Call.operands, hc, e2])) hl
      refine ⟨u, ?_, h2⟩
      rw [bi, e1, e2]
      simp [builtin, h1]
  ·
    rename_i ty rest x y e1 e2
    have e1 := ts _ e1
    have e2 := as _ e2
    cases hf : delF Pr D ty with
    | no => rw [hf] at h; exact absurd rfl (h 24)
    | f f =>
      rw [hf] at h
      refine good_eff rfl rfl h fun v h' c' hr a w g hs hi => ?_
      refine ⟨_, del_ok (ty := o.type) (rest := rest) hf hi (hs.get ho (x := x) (by simp [Op.operands, Call.operands, hc, e2])) (hs.get ho (x := y) (by simp [Op.operands, Call.operands, hc, e2])) hr, fun u w' h1 => ?_⟩
      rw [bi, e1, e2]
      simp [builtin, h1]
  ·
    rename_i ty t2 x y e1 e2
    have e1 := ts _ e1
    have e2 := as _ e2
    cases hf : appendF Pr D ty t2 with
    | no => rw [hf] at h; exact absurd rfl (h 24)
    | f f =>
      rw [hf] at h
      refine good_eff rfl rfl h fun v h' c' hr a w g hs hi => ?_
      refine ⟨_, append_ok (ty := o.type) hf hi (hs.get ho (x := x) (by simp [Op.operands, Call.operands, hc, e2])) (hs.get ho (x := y) (by simp [Op.operands, Call.operands, hc, e2])) hr, fun u w' h1 => ?_⟩
      rw [bi, e1, e2]
      simp [builtin, h1]
  ·
    rename_i ty rest x y e1 e2
    have e1 := ts _ e1
    have e2 := as _ e2
    cases hf : copyF Pr D ty with
    | no => rw [hf] at h; exact absurd rfl (h 24)
    | f f =>
      rw [hf] at h
      refine good_eff rfl rfl h fun v h' c' hr a w g hs hi => ?_
      refine ⟨_, copy_ok (ty := o.type) (rest := rest) hf hi (hs.get ho (x := x) (by simp [Op.operands, Call.operands, hc, e2])) (hs.get ho (x := y) (by simp [Op.operands, Call.operands, hc, e2])) hr, fun u w' h1 => ?_⟩
      rw [bi, e1, e2]
      simp [builtin, h1]
  ·
    rename_i ty rest x e1 e2
    have e1 := ts _ e1
    have e2 := as _ e2
    split at h
    · rename_i kt et hmap
      refine good_eff rfl rfl h fun v h' c' hr a w g hs hi => ?_
      refine ⟨_, clr_ok (ty := o.type) (rest := rest) hmap hi (hs.get ho (x := x) (by simp [Op.operands, Call.operands, hc, e2])) hr, fun u w' h1 => ?_⟩
      rw [bi, e1, e2]
      simp [builtin, h1]
    cases hf : clearF Pr D ty with
    | no => rw [hf] at h; exact absurd rfl (h 24)
    | f f =>
      rw [hf] at h
      refine good_eff rfl rfl h fun v h' c' hr a w g hs hi => ?_
      refine ⟨_, clear_ok (ty := o.type) (rest := rest) hf hi (hs.get ho (x := x) (by simp [Op.operands, Call.operands, hc, e2])) hr, fun u w' h1 => ?_⟩
      rw [bi, e1, e2]
      simp [builtin, h1]
  ·
    rename_i l x y e2
    have e2 := as _ e2
    refine good_pure (why := 42) rfl h fun hl a w g hs hi => ?_
    obtain ⟨u, h1, h2⟩ := minV_ok (Pr := Pr) (w := w) (hs.get ho (x := x) (by simp [Op.operands, Call.operands, hc, e2])) (hs.get ho (x := y) (by simp [Op.operands, Call.operands, hc, e2])) hl cc.argTypes o.type
    refine ⟨u, ?_, h2⟩
    rw [bi, e2]
    simp [builtin, h1]
  ·
    rename_i l x y e2
    have e2 := as _ e2
    refine good_pure (why := 42) rfl h fun hl a w g hs hi => ?_
    obtain ⟨u, h1, h2⟩ := maxV_ok (Pr := Pr) (w := w) (hs.get ho (x := x) (by simp [Op.operands, Call.operands, hc, e2])) (hs.get ho (x := y) (by simp [Op.operands, Call.operands, hc, e2])) hl cc.argTypes o.type
    refine ⟨u, ?_, h2⟩
    rw [bi, e2]
    simp [builtin, h1]
  ·
    rename_i l x e2
    have e2 := as _ e2
    refine good_pure (why := 41) rfl h fun hl a w g hs hi => ?_
    obtain ⟨u, h1, h2⟩ := realV_ok (Pr := Pr) (w := w) (hs.get ho (x := x) (by simp [Op.operands, Call.operands, hc, e2])) hl cc.argTypes o.type
    refine ⟨u, ?_, h2⟩
    rw [bi, e2]
    simp [builtin, h1]
  ·
    rename_i l x e2
    have e2 := as _ e2
    refine good_pure (why := 41) rfl h fun hl a w g hs hi => ?_
    obtain ⟨u, h1, h2⟩ := imagV_ok (Pr := Pr) (w := w) (hs.get ho (x := x) (by simp [Op.operands, Call.operands, hc, e2])) hl cc.argTypes o.type
    refine ⟨u, ?_, h2⟩
    rw [bi, e2]
    simp [builtin, h1]
  ·
    rename_i l x y e2
    have e2 := as _ e2
    refine good_pure (why := 42) rfl h fun hl a w g hs hi => ?_
    obtain ⟨u, h1, h2⟩ := cpxOf_ok (Pr := Pr) (w := w) (hs.get ho (x := x) (by simp [Op.operands, Call.operands, hc, e2])) (hs.get ho (x := y) (by simp [Op.operands, Call.operands, hc, e2])) hl cc.argTypes o.type
    refine ⟨u, ?_, h2⟩
    rw [bi, e2]
    simp [builtin, h1]
  · exact absurd rfl (h 27)
theorem nilCheck_ok {x : HV} {v : Value} (hx : TRep g c x v) (hl : nilCheck x ≠ .dead) {y : Operand} (ho : o.op = .nilCheck y) {ρ : Operand → Value} (hv : ρ y = v) : (execOp ρ o).run Pr w = .ok (.value v) w ∧ TRep g c (nilCheck x) v := by
  cases x <;> try exact absurd rfl hl
  · rename_i k off
    have h2 := hx
    obtain ⟨_, e⟩ := hx
    subst e
    exact ⟨by simp [execOp, ho, hv], h2⟩
  · rename_i f caps
    have h2 := hx
    obtain ⟨_, e⟩ := hx
    subst e
    exact ⟨by simp [execOp, ho, hv], h2⟩
theorem compOp_ok (hcl : ClOk Pr D cl)
    (h : ∀ w, exec cl (compOp Pr D gl reg o.dst o.op) k t s ≠ .x w) : Good Pr D gl reg cl o t s k (compOp Pr D gl reg o.dst o.op) := by
  cases ho : o.op <;> rw [ho] at h <;> try exact absurd rfl (h 31)
  case move x =>
    refine good_pure (why := 41) rfl h fun hl a w g hs hi => ⟨a.eval x, ?_, hs.get ho (x := x) (by simp [Op.operands])⟩
    simp [execOp, ho]
  case assign x =>
    refine good_pure (why := 41) rfl h fun hl a w g hs hi => ⟨a.eval x, ?_, hs.get ho (x := x) (by simp [Op.operands])⟩
    simp [execOp, ho]
  case pick x y z =>
    refine good_pure (why := 43) rfl h fun hl a w g hs hi => ?_
    obtain ⟨b, h1, h2⟩ := pickV_ok (hs.get ho (x := x) (by simp [Op.operands])) (hs.get ho (x := y) (by simp [Op.operands])) (hs.get ho (x := z) (by simp [Op.operands])) hl
    refine ⟨_, ?_, h2⟩
    simp [execOp, ho, h1, asBool]
  case alloc e =>
    cases hf : allocF Pr D e with
    | no => simp only [compOp] at h; rw [hf] at h; exact absurd rfl (h 25)
    | f f =>
      simp only [compOp] at h ⊢
      rw [hf] at h ⊢
      refine good_eff rfl rfl h fun v h' c' hr a w g hs hi => ⟨_, alloc_ok hf hi hr, fun u w' h1 => ?_⟩
      simp [execOp, ho, h1]
  case box e x =>
    cases hf : boxF Pr D e with
    | no => simp only [compOp] at h; rw [hf] at h; exact absurd rfl (h 25)
    | f f =>
      simp only [compOp] at h ⊢
      rw [hf] at h ⊢
      refine good_eff rfl rfl h fun v h' c' hr a w g hs hi => ⟨_, box_ok hf hi (hs.get ho (x := x) (by simp [Op.operands])) hr, fun u w' h1 => ?_⟩
      simp [execOp, ho, h1]
  case build ty ps =>
    cases hf : buildF Pr ty (ps.toList.map (·.1)) with
    | no => simp only [compOp] at h; rw [hf] at h; exact absurd rfl (h 23)
    | f f =>
      simp only [compOp] at h ⊢
      rw [hf] at h ⊢
      refine good_pure (why := 44) rfl h fun hl a w g hs hi => ?_
      have hx : TReps g s.c (evs (ps.toList.map fun p => opnd gl reg p.2) t s.f) (ps.toList.map fun p => a.eval p.2) := by
        have := opnds_ok (l := ps.toList.map (·.2)) fun x hx => hs.get ho (x := x) (by simpa [Op.operands] using hx)
        simpa [opnds, List.map_map, Function.comp_def] using this
      obtain ⟨u, h1, h2⟩ := buildF_ok (w := w) hf hx hl
      refine ⟨u, ?_, h2⟩
      have e : (ps.map fun p : Nat × Operand => (p.1, a.eval p.2)) = (ps.toList.map fun p => (p.1, a.eval p.2)).toArray := by rw [← Array.toList_map]
      simp only [execOp, ho]
      rw [show (fun x : Nat × Operand => match x with | (i, x) => (i, a.eval x)) = fun p => (p.1, a.eval p.2) from rfl, e]
      exact v_run h1
  case buildSlice ty len ps =>
    cases hf : buildSliceF Pr D ty len (ps.toList.map (·.1)) with
    | no => simp only [compOp] at h; rw [hf] at h; exact absurd rfl (h 25)
    | f f =>
      simp only [compOp] at h ⊢
      rw [hf] at h ⊢
      refine good_eff rfl rfl h fun v h' c' hr a w g hs hi => ?_
      have hx : TReps g s.c (evs (ps.toList.map fun p => opnd gl reg p.2) t s.f) (ps.toList.map fun p => a.eval p.2) := by
        have := opnds_ok (l := ps.toList.map (·.2)) fun x hx => hs.get ho (x := x) (by simpa [Op.operands] using hx)
        simpa [opnds, List.map_map, Function.comp_def] using this
      refine ⟨_, buildSlice_ok hf hi hx hr, fun u w' h1 => ?_⟩
      have e : (ps.map fun p : Nat × Operand => (p.1, a.eval p.2)) = (ps.toList.map fun p => (p.1, a.eval p.2)).toArray := by rw [← Array.toList_map]
      simp only [execOp, ho]
      rw [show (fun x : Nat × Operand => match x with | (i, x) => (i, a.eval x)) = fun p => (p.1, a.eval p.2) from rfl, e]
      exact v_run h1
  case load ty x =>
    cases hf : loadF Pr D ty with
    | no => simp only [compOp] at h; rw [hf] at h; exact absurd rfl (h 26)
    | p f => exact (loadF_not hf).elim
    | f f =>
      simp only [compOp] at h ⊢
      rw [hf] at h ⊢
      obtain ⟨n, b, h1, h2, rfl⟩ := loadF_inv hf
      refine good_pure (why := 45) rfl h fun hl a w g hs hi => ?_
      obtain ⟨A, hA, u, h3, h4⟩ := load_ok h1 h2 hi (hs.get ho (x := x) (by simp [Op.operands])) hl
      refine ⟨u, ?_, TRep.of_val h4⟩
      simp only [execOp, ho]
      exact v_run (by simp [Instr.loadAt, Instr.sureAddr, hA, h3])
  case store ty x y =>
    cases hf : storeF Pr D ty with
    | no => simp only [compOp] at h; rw [hf] at h; exact absurd rfl (h 24)
    | f f =>
      simp only [compOp] at h ⊢
      rw [hf] at h ⊢
      obtain ⟨v, h', c', hr, hd', h2⟩ := finC_some h
      refine ⟨v, h', c', hd', h2, fun a w g hs hi next Q hn => ?_, fun e => by cases e⟩
      obtain ⟨w', g', q1, q2, q3, rfl⟩ := store_ok hf hi (hs.get ho (x := x) (by simp [Op.operands])) (hs.get ho (x := y) (by simp [Op.operands])) hr
      unfold Oper.wp
      have e : (execOp a.eval o).run Pr w = .ok .skip w' := by simp [execOp, ho, q1]
      rw [e]
      exact hn undef _ g' q2 q3 rfl
  case nilCheck x =>
    refine good_pure (why := 41) rfl h fun hl a w g hs hi => ⟨a.eval x, nilCheck_ok (hs.get ho (x := x) (by simp [Op.operands])) hl ho rfl⟩
  case binOp op ty x y z =>
    cases hf : binF Pr op ty with
    | no => simp only [compOp] at h; rw [hf] at h; exact absurd rfl (h 21)
    | f f =>
      simp only [compOp] at h ⊢
      rw [hf] at h ⊢
      refine good_pure (why := 42) rfl h fun hl a w g hs hi => ?_
      obtain ⟨u, ⟨h1, h2⟩, h3⟩ := binF_ok (w := w) hf (hs.get ho (x := x) (by simp [Op.operands])) (hs.get ho (x := y) (by simp [Op.operands])) hl
      exact ⟨u, by simp [execOp, ho, h1, h2], h3⟩
  case unOp op ty x =>
    refine good_pure (why := 41) rfl h fun hl a w g hs hi => ?_
    obtain ⟨u, h1, h2⟩ := unV_ok (Pr := Pr) (w := w) (hs.get ho (x := x) (by simp [Op.operands])) hl
    exact ⟨u, by simp [execOp, ho, h1], h2⟩
  case convert src dst x =>
    simp only [compOp] at h ⊢
    cases hf : convF Pr D src dst with
    | no => rw [hf] at h; exact absurd rfl (h 26)
    | p f =>
      rw [hf] at h
      refine good_pure (why := 41) rfl h fun hl a w g hs hi => ?_
      obtain ⟨u, h1, h2⟩ := (convF_ok (src := src) (dst := dst) hi (hs.get ho (x := x) (by simp [Op.operands]))).1 f hf hl
      refine ⟨u, ?_, h2⟩
      simp only [execOp, ho]
      exact v_run h1
    | f f =>
      rw [hf] at h
      refine good_pure (why := 45) rfl h fun hl a w g hs hi => ?_
      obtain ⟨u, h1, h2⟩ := (convF_ok (src := src) (dst := dst) hi (hs.get ho (x := x) (by simp [Op.operands]))).2 f hf hl
      refine ⟨u, ?_, h2⟩
      simp only [execOp, ho]
      exact v_run h1
  case makeFunc fn first caps =>
    cases fn <;> try exact absurd rfl (h 31)
    rename_i f
    simp only [compOp] at h ⊢
    split at h
    · rename_i he
      rw [if_pos he]
      have he : first = #[] := by simpa [Array.isEmpty_iff] using he
      refine good_pure (why := 44) rfl h fun hl a w g hs hi => ?_
      refine ⟨.func (.func f) #[] (caps.toList.map a.eval).toArray, ?_, makeFnF_ok (opnds_ok fun y hy => hs.get ho (x := y) (by simp [Op.operands] at hy ⊢; simp [hy])) hl⟩
      simp only [execOp, ho, he]
      exact v_run (by simp [Instr.makeFunc, ← Array.toList_map])
    · exact absurd rfl (h 28)
  case makeSlice ty l cc =>
    cases hf : makeSliceF Pr D ty with
    | no => simp only [compOp] at h; rw [hf] at h; exact absurd rfl (h 25)
    | f f =>
      simp only [compOp] at h ⊢
      rw [hf] at h ⊢
      refine good_eff rfl rfl h fun v h' c' hr a w g hs hi => ⟨_, makeSlice_ok hf hi (hs.get ho (x := l) (by simp [Op.operands])) (hs.get ho (x := cc) (by simp [Op.operands])) hr, fun u w' h1 => ?_⟩
      simp [execOp, ho, h1]
  case makeMap ty res =>
    cases res with
    | some r => exact absurd rfl (h 31)
    | none =>
      refine good_eff rfl rfl h fun v h' c' hr a w g hs hi => ⟨_, make_ok (Pr := Pr) (t := ty) hi hr, fun u w' h1 => ?_⟩
      simp only [execOp, ho, Option.map_none]
      exact v_run h1
  case lookup ty x y ok =>
    cases hf : lookupF Pr D ty ok with
    | no => simp only [compOp] at h; rw [hf] at h; exact absurd rfl (h 26)
    | p f => exact (lookupF_not hf).elim
    | f f =>
      simp only [compOp] at h ⊢
      rw [hf] at h ⊢
      refine good_pure (why := 45) rfl h fun hl a w g hs hi => ?_
      obtain ⟨u, h1, h2⟩ := lookup_ok hf hi (hs.get ho (x := x) (by simp [Op.operands])) (hs.get ho (x := y) (by simp [Op.operands])) hl
      exact ⟨u, by simp [execOp, ho, h1], h2⟩
  case mapUpdate ty x y z =>
    cases hf : updF Pr D ty with
    | no => simp only [compOp] at h; rw [hf] at h; exact absurd rfl (h 24)
    | f f =>
      simp only [compOp] at h ⊢
      rw [hf] at h ⊢
      obtain ⟨v, h', c', hr, hd', h2⟩ := finC_some h
      refine ⟨v, h', c', hd', h2, fun a w g hs hi next Q hn => ?_, fun e => by cases e⟩
      obtain ⟨w', g', q1, q2, q3, rfl⟩ := upd_ok hf hi (hs.get ho (x := x) (by simp [Op.operands])) (hs.get ho (x := y) (by simp [Op.operands])) (hs.get ho (x := z) (by simp [Op.operands])) hr
      unfold Oper.wp
      have e : (execOp a.eval o).run Pr w = .ok .skip w' := by simp [execOp, ho, q1]
      rw [e]
      exact hn undef _ g' q2 q3 rfl
  case mapEntry ty x y =>
    cases hf : entF Pr D ty with
    | no => simp only [compOp] at h; rw [hf] at h; exact absurd rfl (h 24)
    | f f =>
      simp only [compOp] at h ⊢
      rw [hf] at h ⊢
      refine good_eff rfl rfl h fun v h' c' hr a w g hs hi => ⟨_, ent_ok hf hi (hs.get ho (x := x) (by simp [Op.operands])) (hs.get ho (x := y) (by simp [Op.operands])) hr, fun u w' h1 => ?_⟩
      simp [execOp, ho, h1]
  case entryStore ty x y z =>
    obtain ⟨v, h', c', hr, hd', h2⟩ := finC_some h
    refine ⟨v, h', c', hd', h2, fun a w g hs hi next Q hn => ?_, fun e => by cases e⟩
    obtain ⟨w', g', q1, q2, q3, rfl⟩ := entSt_ok (Pr := Pr) (t := ty) hi (hs.get ho (x := x) (by simp [Op.operands])) (hs.get ho (x := y) (by simp [Op.operands])) (hs.get ho (x := z) (by simp [Op.operands])) hr
    unfold Oper.wp
    have e : (execOp a.eval o).run Pr w = .ok .skip w' := by simp [execOp, ho, q1]
    rw [e]
    exact hn undef _ g' q2 q3 rfl
  case slice ty x lo hi mx =>
    cases mx with
    | none =>
      simp only [compOp] at h ⊢
      split at h
      · rename_i e hu
        cases hsz : sizeT Pr e with
        | none => rw [hsz] at h; exact absurd rfl (h 22)
        | some n =>
          rw [hsz] at h
          refine good_pure (why := 45) rfl h fun hl a w g hs hi' => ?_
          obtain ⟨u, h1, h2⟩ := sliceH_ok (Pr := Pr) (w := w) hu hsz hi' (hs.get ho (x := x) (by simp [Op.operands])) (optG_ok fun y hy => hs.get ho (x := y) (by simp [Op.operands, hy])) (hiG_ok fun y hy => hs.get ho (x := y) (by simp [Op.operands, hy])) hl
          refine ⟨u, ?_, h2⟩
          simp only [execOp, ho, Option.map_none]
          exact v_run h1
      cases hf : sliceF Pr hi.isSome ty with
      | no => rw [hf] at h; exact absurd rfl (h 22)
      | f f =>
        rw [hf] at h
        refine good_pure (why := 43) rfl h fun hl a w g hs hi' => ?_
        obtain ⟨u, h1, h2⟩ := sliceF_ok (w := w) hf (hs.get ho (x := x) (by simp [Op.operands])) (optG_ok fun y hy => hs.get ho (x := y) (by simp [Op.operands, hy])) (hiG_ok fun y hy => hs.get ho (x := y) (by simp [Op.operands, hy])) hl
        refine ⟨u, ?_, h2⟩
        simp only [execOp, ho, Option.map_none]
        exact v_run h1
    | some mx =>
      simp only [compOp] at h ⊢
      split at h
      · rename_i e hu
        split at h
        · rename_i n hn
          split at h
          · rename_i hh
            cases hi with
            | none => cases hh
            | some hi =>
              refine good_pure (why := 44) rfl h fun hl a w g hs hi' => ?_
              obtain ⟨u, h1, h2⟩ := clip_ok (Pr := Pr) (w := w) hu hn (hs.get ho (x := x) (by simp [Op.operands])) (optG_ok fun y hy => hs.get ho (x := y) (by simp [Op.operands, hy])) (hs.get ho (x := hi) (by simp [Op.operands])) (hs.get ho (x := mx) (by simp [Op.operands])) hl
              refine ⟨u, ?_, h2⟩
              simp only [execOp, ho, Option.map_some]
              exact v_run h1
          · exact absurd rfl (h 29)
        · exact absurd rfl (h 29)
      · exact absurd rfl (h 29)
  case fieldAddr ty x i =>
    cases hf : fieldAddrF Pr ty i with
    | no => simp only [compOp] at h; rw [hf] at h; exact absurd rfl (h 20)
    | f f =>
      simp only [compOp] at h ⊢
      rw [hf] at h ⊢
      refine good_pure (why := 41) rfl h fun hl a w g hs hi => ?_
      obtain ⟨u, h1, h2⟩ := fieldAddrF_ok (w := w) hf (hs.get ho (x := x) (by simp [Op.operands])) hl
      exact ⟨u, by simp [execOp, ho, h1], h2⟩
  case field ty x i =>
    cases hf : fieldF Pr ty i with
    | no => simp only [compOp] at h; rw [hf] at h; exact absurd rfl (h 20)
    | f f =>
      simp only [compOp] at h ⊢
      rw [hf] at h ⊢
      refine good_pure (why := 41) rfl h fun hl a w g hs hi => ?_
      obtain ⟨u, h1, h2⟩ := fieldF_ok (w := w) hf (hs.get ho (x := x) (by simp [Op.operands])) hl
      exact ⟨u, by simp [execOp, ho, h1], h2⟩
  case indexAddr ty x y =>
    cases hf : indexAddrF Pr ty with
    | no => simp only [compOp] at h; rw [hf] at h; exact absurd rfl (h 21)
    | f f =>
      simp only [compOp] at h ⊢
      rw [hf] at h ⊢
      refine good_pure (why := 42) rfl h fun hl a w g hs hi => ?_
      obtain ⟨u, h1, h2⟩ := indexAddrF_ok (w := w) hf (hs.get ho (x := x) (by simp [Op.operands])) (hs.get ho (x := y) (by simp [Op.operands])) hl
      exact ⟨u, by simp [execOp, ho, h1], h2⟩
  case index ty x y =>
    cases hf : indexF Pr ty with
    | no => simp only [compOp] at h; rw [hf] at h; exact absurd rfl (h 21)
    | f f =>
      simp only [compOp] at h ⊢
      rw [hf] at h ⊢
      refine good_pure (why := 42) rfl h fun hl a w g hs hi => ?_
      obtain ⟨u, h1, h2⟩ := indexF_ok (w := w) hf (hs.get ho (x := x) (by simp [Op.operands])) (hs.get ho (x := y) (by simp [Op.operands])) hl
      exact ⟨u, by simp [execOp, ho, h1], h2⟩
  case extract x i =>
    refine good_pure (why := 41) rfl h fun hl a w g hs hi => ?_
    obtain ⟨u, h1, h2⟩ := extractV_ok (Pr := Pr) (w := w) (hs.get ho (x := x) (by simp [Op.operands])) hl
    exact ⟨u, by simp [execOp, ho, h1], h2⟩
  case call cc =>
    simp only [compOp] at h ⊢
    split at h
    · rename_i fn hc
      split at h
      · rename_i hcmp
        rw [if_pos hcmp]
        unfold cmpOp at h ⊢
        split at h
        · rename_i x y e2
          have e3 : cc.args = #[x, y] := by
            have : cc.args.toList.toArray = [x, y].toArray := by rw [e2]
            simpa using this
          refine good_pure (why := 42) rfl h fun hl a w g hs hi => ?_
          obtain ⟨z, h1, h2⟩ := cmp_run (w := w) hcmp (hs.get ho (x := x) (by simp [Op.operands, Call.operands, hc, e3])) (hs.get ho (x := y) (by simp [Op.operands, Call.operands, hc, e3])) hl
          refine ⟨z, ?_, h2⟩
          have hev : a.eval (.func fn) = .func (.func fn) #[] #[] := rfl
          simp [execOp, ho, Go.resolve, hc, hev, Deferred.ofValue, invoke, e3, h1]
        · exact absurd rfl (h 36)
      rename_i hncmp
      rw [if_neg hncmp]
      obtain ⟨v, h', c', hr, hd', h2⟩ := finC_some (show ∀ w, finC (dstP gl o.dst) (cl fn (evs (opnds gl reg cc.args.toList) t s.f) s.h s.c) k t s ≠ .x w from h)
      obtain ⟨q1, q2⟩ := hcl _ _ _ _ _ _ _ hr hd'
      refine ⟨v, h', c', hd', h2, call_wp ho q1 q2 fun a g hs => ⟨#[], cc.args.toList.map a.eval, ⟨_, hc, rfl⟩, by simp [← Array.toList_map], opnds_ok fun y hy => hs.get ho (x := y) (by simp [Op.operands, Call.operands, hc] at hy ⊢; simp [hy])⟩, fun e => by cases e⟩
    · rename_i v' hne hc
      obtain ⟨v, h', c', hr, hd', h2⟩ := finC_some (show ∀ w, finC (dstP gl o.dst) (calv cl ((opnd gl reg v').ev t s.f) (evs (opnds gl reg cc.args.toList) t s.f) s.h s.c) k t s ≠ .x w from h)
      have he : exec cl (.calv (dstP gl o.dst) (opnd gl reg v') (opnds gl reg cc.args.toList)) k t s = finC (dstP gl o.dst) (calv cl ((opnd gl reg v').ev t s.f) (evs (opnds gl reg cc.args.toList) t s.f) s.h s.c) k t s := rfl
      unfold calv at hr
      split at hr
      · rename_i fn caps hv
        obtain ⟨q1, q2⟩ := hcl _ _ _ _ _ _ _ hr hd'
        refine ⟨v, h', c', hd', he.trans h2, call_wp ho q1 q2 fun a g hs => ?_, fun e => by cases e⟩
        have hx := hs.get ho (x := v') (by simp [Op.operands, Call.operands, hc])
        rw [hv] at hx
        obtain ⟨c1, c2⟩ := hx
        refine ⟨_, cc.args.toList.map a.eval ++ caps.map fun p => Value.pointer (some (addrOf g p.1 p.2)), ⟨_, hc, c2⟩, by simp, ?_⟩
        have h1 := opnds_ok (l := cc.args.toList) fun y hy => hs.get ho (x := y) (by simp [Op.operands, Call.operands, hc] at hy ⊢; simp [hy])
        refine ⟨by rw [List.length_append, List.length_append, h1.1]; simp, fun i x u hx hu => ?_⟩
        rw [List.getElem?_append] at hx hu
        rw [h1.1] at hu
        split at hx
        · rename_i hlt
          rw [if_pos hlt] at hu
          exact h1.2 i x u hx hu
        · rename_i hlt
          rw [if_neg hlt] at hu
          simp only [List.getElem?_map, Option.map_eq_some_iff] at hx hu
          obtain ⟨p, hp, rfl⟩ := hx
          obtain ⟨p', hp', rfl⟩ := hu
          rw [hp] at hp'
          simp only [Option.some.injEq] at hp'; subst hp'
          exact ⟨c1 p (List.mem_of_getElem? hp), rfl⟩
      · cases hr
    · rename_i b hc
      exact compBi_ok ho hc h
    · exact absurd rfl (h 30)
theorem compOp_nogrd (gl : Nat) (reg : List Nat) (dst : Option Nat) (op : Op) {q : G} {want : Bool} {st : P} {x : FOp} : compOp Pr D gl reg dst op ≠ .grd q want st x := by
  cases op <;> simp only [compOp, oF1, oF2, oF3, oFN, oE2, oAN, oH1, compBi, cmpOp] <;> intro h <;> (try cases h) <;> (repeat (first | (split at h) | cases h))
end
end
end Go.FM

/-! ## FnReg -/
namespace Go.FM
noncomputable section
variable [Env]
section
variable {Pr : Program} {D : Nat} {w w' : World} {g g' : Gm} {c c' : Nat} {nt gl : Nat} {reg : List Nat} {t : L} {f : F} {s : S} {a : Act} {cl : Cl} {o : Oper} {k : K} {ops : Array Oper}
def GuardIs (ops : Array Oper) (gl : Nat) (reg : List Nat) (t : L) (f : F) (o : Oper) (b : Bool) : Prop := match o.guard with
  | none => b = true
  | some (j, want) => ∃ x, (ops[j]?).bind (·.dst) = some x ∧ wants ((opnd gl reg (.tmp x)).ev t f) want = some b
theorem wants_ok {x : HV} {want b : Bool} {j q : Nat} (hd : (ops[j]?).bind (·.dst) = some q) (hx : TRep g c x (a.tmps.getD q undef)) (h : wants x want = some b) : (yielded ops a.tmps j == some want) = b := by
  have hy : yielded ops a.tmps j = match a.tmps[q]? with | some (.bool b) => some b | _ => none := by
    unfold yielded
    rw [hd]
    rfl
  cases x <;> try cases h
  · rename_i v
    have e : a.tmps.getD q undef = .bool v := hx
    have hsz : a.tmps[q]? = some (.bool v) := by
      rw [Array.getD_eq_getD_getElem?] at e
      cases hq : a.tmps[q]? with
      | none => rw [hq] at e; simp [undef] at e
      | some u => rw [hq] at e; simp at e; rw [e]
    rw [hy, hsz]
    cases v <;> cases want <;> rfl
  · have e : a.tmps.getD q undef = undef := hx
    have hn : yielded ops a.tmps j = none := by
      rw [hy]
      rw [Array.getD_eq_getD_getElem?] at e
      cases hq : a.tmps[q]? with
      | none => rfl
      | some u => rw [hq] at e; simp at e; rw [e]; rfl
    rw [hn]
    cases want <;> rfl
theorem guard_ok {b : Bool} (hg : GuardIs ops gl reg t f o b) (hx : ∀ j want q, o.guard = some (j, want) → (ops[j]?).bind (·.dst) = some q → TRep g c ((opnd gl reg (.tmp q)).ev t f) (a.tmps.getD q undef)) :
    Region.wanted o (yielded ops a.tmps) = b := by
  unfold GuardIs at hg
  unfold Region.wanted
  cases ho : o.guard with
  | none => rw [ho] at hg; exact hg.symm
  | some p =>
    obtain ⟨j, want⟩ := p
    rw [ho] at hg
    obtain ⟨q, h1, h2⟩ := hg
    exact wants_ok h1 (hx j want q ho h1) h2
theorem GuardIs.uniq {b b' : Bool} (h : GuardIs ops gl reg t f o b) (h' : GuardIs ops gl reg t f o b') : b = b' := by
  unfold GuardIs at h h'
  cases hg : o.guard with
  | none => rw [hg] at h h'; exact h.trans h'.symm
  | some p =>
    rw [hg] at h h'
    obtain ⟨x, h1, h2⟩ := h
    obtain ⟨x', h1', h2'⟩ := h'
    rw [h1] at h1'
    simp only [Option.some.injEq] at h1'; subst h1'
    rw [h2] at h2'
    exact Option.some.inj h2'
theorem compG_ok (hcl : ClOk Pr D cl) (h : ∀ w, exec cl (compG Pr D ops nt gl reg o) k t s ≠ .x w) :
    ∃ b v h' c', dstOk nt o.dst = true ∧ GuardIs ops gl reg t s.f o b ∧ v ≠ .dead ∧ exec cl (compG Pr D ops nt gl reg o) k t s = k (putT (dstP gl o.dst) v t) ⟨putF (dstP gl o.dst) v s.f, h', c'⟩ ∧
      (b = true → OpW Pr D gl reg o t s.f s.h s.c v h' c') ∧ (b = false → v = .und ∧ h' = s.h ∧ c' = s.c) ∧ (light (compG Pr D ops nt gl reg o) = true → v = valG (compG Pr D ops nt gl reg o) t s.f s.h ∧ h' = s.h ∧ c' = s.c ∧ (b = true → OpV Pr D gl reg o t s.f s.h s.c v)) := by
  unfold compG at h ⊢
  cases hd : dstOk nt o.dst with
  | false => rw [hd] at h; exact absurd rfl (h 34)
  | true =>
    rw [hd] at h
    simp only at h ⊢
    cases ho : o.guard with
    | none =>
      rw [ho] at h
      simp only at h ⊢
      obtain ⟨v, h', c', h1, h2, h3, h4⟩ := compOp_ok hcl h
      refine ⟨true, v, h', c', trivial, by unfold GuardIs; rw [ho], h1, h2, fun _ => h3, (fun e => by cases e), fun e => ?_⟩
      obtain ⟨q1, q2, q3, q4⟩ := h4 e
      refine ⟨?_, q2, q3, fun _ => q4⟩
      rw [q1]
      unfold valG
      split
      · rename_i e2; exact absurd e2 (compOp_nogrd _ _ _ _)
      · rfl
    | some p =>
      obtain ⟨j, want⟩ := p
      rw [ho] at h
      simp only at h ⊢
      cases hj : (ops[j]?).bind (·.dst) with
      | none => rw [hj] at h; exact absurd rfl (h 32)
      | some q =>
        rw [hj] at h
        simp only at h ⊢
        have e : ∀ x, exec cl (.grd (opnd gl reg (.tmp q)) want (dstP gl o.dst) x) k t s = Option.casesOn (wants ((opnd gl reg (.tmp q)).ev t s.f) want) (.x 47) fun b => b.casesOn (put (dstP gl o.dst) .und k t s) (exec cl x k t s) := fun _ => rfl
        rw [e] at h
        rw [e]
        cases hw : wants ((opnd gl reg (.tmp q)).ev t s.f) want with
        | none => rw [hw] at h; exact absurd rfl (h 47)
        | some b =>
          rw [hw] at h
          cases b with
          | false =>
            exact ⟨false, .und, s.h, s.c, trivial, by unfold GuardIs; rw [ho]; exact ⟨q, hj, hw⟩, (fun e => by cases e), put_eq _ _ _ _ _, (fun e => by cases e), (fun _ => ⟨rfl, rfl, rfl⟩), fun _ => ⟨by simp only [valG, hw], rfl, rfl, fun e => by cases e⟩⟩
          | true =>
            obtain ⟨v, h', c', h1, h2, h3, h4⟩ := compOp_ok hcl (k := k) (t := t) (s := s) (gl := gl) (reg := reg) (o := o) h
            refine ⟨true, v, h', c', trivial, by unfold GuardIs; rw [ho]; exact ⟨q, hj, hw⟩, h1, h2, fun _ => h3, (fun e => by cases e), fun e => ?_⟩
            obtain ⟨q1, q2, q3, q4⟩ := h4 (by
              revert e
              unfold light kdF
              cases compOp Pr D gl reg o.dst o.op <;> intro e <;> first | rfl | exact absurd e Bool.false_ne_true)
            refine ⟨?_, q2, q3, fun _ => q4⟩
            rw [q1]
            simp only [valG, hw]
theorem light_run {fo : FOp} (hl : light fo = true) (hv : valG fo t s.f s.h ≠ .dead) : ∀ w, exec cl fo R.n t s ≠ .x w := by
  have key : ∀ (fo : FOp), light fo = true → valO fo t s.f s.h ≠ .dead → ∃ why st, exec cl fo R.n t s = fin why st (valO fo t s.f s.h) R.n t s := by
    intro fo hl hv
    cases fo <;> first | exact absurd rfl hv | exact ⟨_, _, rfl⟩
  have fin_ok : ∀ why st v, v ≠ .dead → ∀ w, fin why st v R.n t s ≠ .x w := by
    intro why st v hv w
    unfold fin
    rw [forceV_eq _ _ hv, put_eq]
    intro e; cases e
  cases fo with
  | grd g want st o =>
    have e : exec cl (.grd g want st o) R.n t s = Option.casesOn (wants (g.ev t s.f) want) (.x 47) fun b => b.casesOn (put st .und R.n t s) (exec cl o R.n t s) := rfl
    rw [e]
    simp only [valG] at hv
    cases hw : wants (g.ev t s.f) want with
    | none => rw [hw] at hv; exact absurd rfl hv
    | some b =>
      rw [hw] at hv
      cases b with
      | false =>
        intro w
        show put st .und R.n t s ≠ _
        rw [put_eq]
        intro e; cases e
      | true =>
        obtain ⟨why, st', h⟩ := key o (by
          revert hl
          unfold light kdF
          cases o <;> intro e <;> first | rfl | exact absurd e Bool.false_ne_true) hv
        intro w
        show exec cl o R.n t s ≠ _
        rw [h]
        exact fin_ok _ _ _ hv w
  | _ =>
    obtain ⟨why, st', h⟩ := key _ hl hv
    rw [h]
    exact fin_ok _ _ _ hv
theorem light_at (hcl : ClOk Pr D cl) {h : HT} (hl : light (compG Pr D ops nt gl reg o) = true) (hv : valG (compG Pr D ops nt gl reg o) t f h ≠ .dead) (hg : GuardIs ops gl reg t f o true) (c : Nat) :
    OpV Pr D gl reg o t f h c (valG (compG Pr D ops nt gl reg o) t f h) := by
  obtain ⟨b, v, h', c', q1, q2, q3, q4, q5, q6, q7⟩ := compG_ok (k := R.n) (s := ⟨f, h, c⟩) (t := t) hcl (light_run (s := ⟨f, h, c⟩) hl hv)
  obtain ⟨rfl, rfl, rfl, q8⟩ := q7 hl
  cases q2.uniq hg
  exact q8 rfl
theorem runOps_cons (cl : Cl) (o : FOp) (r : FOps) : runOps cl (.cons o r) = exec cl o (runOps cl r) := rfl
theorem ops_wp (hcl : ClOk Pr D cl) (hgl : GlOk nt gl) {Q : Exit → Act → World → Prop} : ∀ (l : List Oper) (i : Nat) (reg : List Nat) (t : L) (s : S) (a : Act) (w : World) (g : Gm), ops.toList.drop i = l →
    (∀ w, runOps cl (compOps Pr D ops nt gl reg l) t s ≠ .x w) → SRel nt gl reg g s.c t s.f a → HOk D g s.h s.c w →
    (∀ t' s' a' w' g', runOps cl (compOps Pr D ops nt gl reg l) t s = .n t' s' → SRel nt gl (regOps reg l) g' s'.c t' s'.f a' → HOk D g' s'.h s'.c w' → Post g (hp D s.h) s.c w g' (hp D s'.h) s'.c w' → Q .normal a' w') →
    wpOps Pr ops Q (List.range' i l.length) a w := by
  intro l
  induction l with
  | nil =>
    intro i reg t s a w g hl hx hs hi hq
    exact hq t s a w g rfl hs hi (Post.refl hi.inv)
  | cons o r ih =>
    intro i reg t s a w g hl hx hs hi hq
    have hio : ops[i]? = some o := by
      have := congrArg (·[0]?) hl
      simpa using this
    have hr : ops.toList.drop (i + 1) = r := by
      have := congrArg List.tail hl
      simpa using this
    have e : compOps Pr D ops nt gl reg (o :: r) = .cons (compG Pr D ops nt gl reg o) (compOps Pr D ops nt gl (regOf o.dst reg) r) := rfl
    rw [e, runOps_cons] at hx hq
    obtain ⟨b, v, h', c', hd, hgd, hv, he, hT, hF, _⟩ := compG_ok hcl hx
    rw [he] at hx hq
    rw [List.length_cons, List.range'_succ]
    simp only [wpOps, hio]
    have hw := guard_ok (g := g) (c := s.c) hgd fun j want q _ _ => opnd_ok hs (.tmp q)
    cases b with
    | false =>
      obtain ⟨rfl, rfl, rfl⟩ := hF rfl
      rw [if_neg (by simp [hw])]
      exact ih (i + 1) _ _ _ _ w g hr hx (hs.put hgl hd (show TRep g s.c .und undef from rfl)) hi hq
    | true =>
      rw [if_pos hw]
      refine .inl (hT rfl a w g (hs.opr o.op) hi _ _ fun u w' g' q1 q2 q3 => ?_)
      refine ih (i + 1) _ _ _ _ w' g' hr hx ((hs.mono q2.agree q2.le).put hgl hd q3) q1 fun t' s' a' w'' g'' k1 k2 k3 k4 => hq t' s' a' w'' g'' k1 k2 k3 (q2.trans k4)
end
end
end Go.FM

/-! ## FnTrace -/
namespace Go.FM
noncomputable section
variable [Env]
theorem hvEq_eq {a b : HV} (h : hvEq a b = true) : a = b := by
  cases a <;> cases b <;> first | rfl | (exact absurd h Bool.false_ne_true) | skip
  · rename_i k x k' y
    simp only [hvEq, Bool.and_eq_true] at h
    cases ikEq_eq h.1
    obtain ⟨_, h⟩ := h
    cases x <;> cases y <;> first | (exact absurd h Bool.false_ne_true) | (have := Nat.eq_of_beq_eq_true h; subst this; rfl)
  · simp only [hvEq, beq_iff_eq] at h; rw [h]
  · simp only [hvEq, Bool.and_eq_true, beq_iff_eq] at h
    rw [h.1, Nat.eq_of_beq_eq_true h.2]
  · simp only [hvEq, Bool.and_eq_true, beq_iff_eq] at h
    rw [h.1.1, Nat.eq_of_beq_eq_true h.1.2, Nat.eq_of_beq_eq_true h.2]
  · simp only [hvEq, Bool.and_eq_true] at h
    rw [Nat.eq_of_beq_eq_true h.1, Nat.eq_of_beq_eq_true h.2]
  · simp only [hvEq, Bool.and_eq_true] at h
    rw [Nat.eq_of_beq_eq_true h.1, Nat.eq_of_beq_eq_true h.2]
  · simp only [hvEq, Bool.and_eq_true, beq_iff_eq] at h
    rw [Nat.eq_of_beq_eq_true h.1, h.2]
  · simp only [hvEq, Bool.and_eq_true, beq_iff_eq] at h
    rw [Nat.eq_of_beq_eq_true h.1.1.1.1, Nat.eq_of_beq_eq_true h.1.1.1.2, Nat.eq_of_beq_eq_true h.1.1.2, Nat.eq_of_beq_eq_true h.1.2, h.2]
  · rw [Nat.eq_of_beq_eq_true h]
  · simp only [hvEq, Bool.and_eq_true] at h
    rw [ikEq_eq h.1, Nat.eq_of_beq_eq_true h.2]
theorem hvEqs_eq : ∀ {a b : List HV}, hvEqs a b = true → a = b
  | [], [], _ => rfl
  | x :: a, y :: b, h => by
    simp only [hvEqs, Bool.and_eq_true] at h
    rw [hvEq_eq h.1, hvEqs_eq h.2]
  | [], _ :: _, h => by cases h
  | _ :: _, [], h => by cases h
theorem hvEqT_eq : ∀ {a b : List HV}, hvEqT a b = true → a = b
  | [], [], _ => rfl
  | x :: a, y :: b, h => by
    simp only [hvEqT, Bool.and_eq_true] at h
    rw [hvEqT_eq h.2]
    have h1 := h.1
    split at h1
    · rw [hvEqs_eq h1]
    · rw [hvEq_eq h1]
  | [], _ :: _, h => by cases h
  | _ :: _, [], h => by cases h
theorem vEq_eq {a b : HV} (h : vEq a b = true) : a = b := by
  unfold vEq at h
  split at h
  · rw [hvEqs_eq h]
  · rw [hvEqT_eq h]
  · exact hvEq_eq h
theorem valG_pure {fo : FOp} {t : L} {f : F} (h : kdF fo = .pure) (m m' : HT) : valG fo t f m = valG fo t f m' := by
  cases fo with
  | grd g want st o =>
    cases o <;> first | (cases h; done) | rfl
  | _ => first | (cases h; done) | rfl
theorem light_kd {fo : FOp} : light fo = true ↔ kdF fo = .pure ∨ kdF fo = .read := by
  unfold light
  cases kdF fo <;> simp
def isEff : Kd → Bool
  | .eff => true
  | _ => false
def effAt (ks : List Kd) (i : Nat) : Bool := match ks[i]? with
  | some k => isEff k
  | none => false
def cnt (ks : List Kd) : Nat → Nat
  | 0 => 0
  | i + 1 => if effAt ks i then cnt ks i + 1 else cnt ks i
def marks (ks : List Kd) : Nat → List Nat
  | 0 => [0]
  | i + 1 => if effAt ks i then (i + 1) :: marks ks i else marks ks i
theorem marks_le (ks : List Kd) : ∀ i q, q ∈ marks ks i → q ≤ i
  | 0, q, h => by simp [marks] at h; omega
  | i + 1, q, h => by
    simp only [marks] at h
    split at h
    · rcases List.mem_cons.1 h with h | h
      · omega
      · have := marks_le ks i q h; omega
    · have := marks_le ks i q h; omega
theorem cnt_mono (ks : List Kd) {i j : Nat} (h : i ≤ j) : cnt ks i ≤ cnt ks j := by
  induction h with
  | refl => exact Nat.le_refl _
  | step h ih => simp only [cnt]; split <;> omega
theorem marks_at (ks : List Kd) : ∀ i q, q ∈ marks ks i → (marks ks i)[cnt ks i - cnt ks q]? = some q
  | 0, q, h => by simp [marks] at h; subst h; simp [marks]
  | i + 1, q, h => by
    simp only [marks, cnt] at h ⊢
    split
    · rename_i he
      rw [if_pos he] at h
      rcases List.mem_cons.1 h with h | h
      · subst h
        simp [cnt, he]
      · have h1 := marks_at ks i q h
        have h2 := cnt_mono ks (marks_le ks i q h)
        rw [show cnt ks i + 1 - cnt ks q = (cnt ks i - cnt ks q) + 1 by omega]
        simpa using h1
    · rename_i he
      rw [if_neg he] at h
      exact marks_at ks i q h
theorem same_get (p : HT → Bool) : ∀ (n : Nat) (hs : List HT), same p n hs = true → ∀ i h, i < n → hs[i]? = some h → p h = true
  | 0, _, _, i, _, hi, _ => absurd hi (Nat.not_lt_zero i)
  | n + 1, [], hs, i, h, hi, hg => by simp at hg
  | n + 1, x :: r, hs, i, h, hi, hg => by
    have e : same p (n + 1) (x :: r) = (p x).casesOn (motive := fun _ => Bool) false (same p n r) := rfl
    rw [e] at hs
    cases hx : p x with
    | false => rw [hx] at hs; cases hs
    | true =>
      rw [hx] at hs
      cases i with
      | zero => simp at hg; subst hg; exact hx
      | succ i => exact same_get p n r hs i h (by omega) (by simpa using hg)
def PHas (m : Nat) (q : HT → Bool) : Pend → Prop
  | .nil => False
  | .cons n p r => (m ≤ n ∧ p = q) ∨ PHas m q r
theorem pAll_has {h : HT} {m : Nat} {q : HT → Bool} : ∀ {l : Pend}, pAll h l = true → PHas (m + 1) q l → q h = true
  | .nil, _, hp => hp.elim
  | .cons n p r, ha, hp => by
    have e : pAll h (.cons n p r) = Nat.casesOn (motive := fun _ => Bool) n (pAll h r) fun _ => (p h).casesOn (motive := fun _ => Bool) false (pAll h r) := rfl
    rw [e] at ha
    cases n with
    | zero =>
      rcases hp with hp | hp
      · omega
      · exact pAll_has ha hp
    | succ n =>
      simp only at ha
      cases hx : p h with
      | false => rw [hx] at ha; cases ha
      | true =>
        rw [hx] at ha
        rcases hp with hp | hp
        · rw [← hp.2]; exact hx
        · exact pAll_has ha hp
theorem pNext_has {m : Nat} {q : HT → Bool} : ∀ {l : Pend}, PHas (m + 1) q l → PHas m q (pNext l) ∨ m = 0
  | .nil, hp => hp.elim
  | .cons n p r, hp => by
    have e : pNext (.cons n p r) = Nat.casesOn (motive := fun _ => Pend) n (pNext r) fun n => .cons n p (pNext r) := rfl
    rw [e]
    cases n with
    | zero =>
      rcases hp with hp | hp
      · omega
      · exact pNext_has hp
    | succ n =>
      rcases hp with hp | hp
      · exact .inl (.inl ⟨by omega, hp.2⟩)
      · rcases pNext_has hp with h | h
        · exact .inl (.inr h)
        · exact .inr h
end
end Go.FM
