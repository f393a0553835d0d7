/-
  The abstract machine: what its operations on plain values answer is what the model's answer.
-/
import Derived.Test.YtmfegciehdjicaaAbsSim
set_option linter.unusedVariables false
set_option linter.unusedSimpArgs false
namespace Go.AbsM

section
variable {P : Program} {w : World} {g : Gh} {S : List Store}

theorem HRep.inv_x {u v : Value} (h : HRep P w g S (.x u) v) : v = u ∧ plain u = true := by
  have h' : Rep P w g.M (.x u) v := h
  cases h' with
  | x hp => exact ⟨rfl, hp⟩
theorem HRep.inv_str {l : List UInt8} {v : Value} (h : HRep P w g S (.str l) v) : v = .string ⟨l.toArray⟩ := by
  have h' : Rep P w g.M (.str l) v := h
  cases h'
  rfl
theorem HRep.inv_nils {v : Value} (h : HRep P w g S .nils v) : v = .slice none 0 0 := by
  have h' : Rep P w g.M .nils v := h
  cases h'
  rfl
theorem HRep.inv_cap0 {v : Value} (h : HRep P w g S .cap0 v) : ∃ A, v = .slice A 0 0 := by
  have h' : Rep P w g.M .cap0 v := h
  cases h'
  exact ⟨_, rfl⟩
theorem HRep.mk_x {u : Value} (h : plain u = true) : HRep P w g S (.x u) u := HRep.of_rep (.x h)
theorem HRep.mk_int (k : IntKind) (n : Int) : HRep P w g S (.int k n) (.int k n) := HRep.of_rep (.x rfl)
theorem HRep.mk_bool (b : Bool) : HRep P w g S (.bool b) (.bool b) := HRep.of_rep (.x rfl)
theorem HRep.mk_str (l : List UInt8) : HRep P w g S (.str l) (.string ⟨l.toArray⟩) := HRep.of_rep .str

/-! ### Integers, floats, complex numbers, strings -/
theorem intBin_sound {op : BinOp} {k : IntKind} {a b : Int} {r : AV} (t : TypeId) (hs : op ≠ .shl ∧ op ≠ .shr) (h : intBin op k a b = some r) : ∃ v, (binOp op t (.int k a) (.int k b)).run P w = .ok v w ∧ HRep P w g S r v := by
  cases op <;> simp only [intBin] at h <;> try (simp only [Option.some.injEq] at h; subst h; exact ⟨_, by simp [binOp, Op.intArith, Op.intBits, Op.intCmp], HRep.mk_x rfl⟩)
  · split at h
    · cases h
    · rename_i hb
      simp only [Option.some.injEq] at h; subst h
      exact ⟨_, by simp [binOp, Op.intDiv, hb], HRep.mk_x rfl⟩
  · split at h
    · cases h
    · rename_i hb
      simp only [Option.some.injEq] at h; subst h
      exact ⟨_, by simp [binOp, Op.intDiv, hb], HRep.mk_x rfl⟩
  all_goals simp at h

theorem shiftA_sound {op : BinOp} {k k' : IntKind} {a b : Int} {r : AV} (t : TypeId) (hs : op = .shl ∨ op = .shr) (h : shiftA op k a b = some r) : ∃ v, (binOp op t (.int k a) (.int k' b)).run P w = .ok v w ∧ HRep P w g S r v := by
  unfold shiftA at h
  split at h
  · cases h
  · rename_i hb
    rcases hs with rfl | rfl <;> simp only [Option.some.injEq] at h <;> subst h <;> exact ⟨_, by simp [binOp, Op.shift, hb], HRep.mk_x rfl⟩

theorem floatArith_run {op : BinOp} {k : FloatKind} {a b r : Nat} (h : floatArithA op k a b = some r) : (Op.floatArith op k a b).run P w = .ok (.float k r) w := by
  cases op <;> simp only [floatArithA] at h <;> first | (simp [Op.floatArith, h]; done) | (cases h; done)

theorem floatBin_sound {op : BinOp} {k : FloatKind} {a b : Nat} {r : AV} (t : TypeId) (h : floatBin op k a b = some r) : ∃ v, (binOp op t (.float k a) (.float k b)).run P w = .ok v w ∧ HRep P w g S r v := by
  cases op <;> simp only [floatBin] at h <;> try (simp only [Option.some.injEq] at h; subst h; exact ⟨_, by simp [binOp, Op.floatCmp], HRep.mk_x rfl⟩)
  all_goals first
    | (obtain ⟨r', hr, rfl⟩ := Option.map_eq_some_iff.1 h
       exact ⟨_, by simp only [binOp]; simp [floatArith_run hr], HRep.mk_x rfl⟩)
    | (cases h; done)

theorem complex_arith {op : BinOp} {k : FloatKind} {a b r : Nat} (h : floatArithA op k a b = some r) : (Op.Complex.arith op k a b).run P w = .ok r w := by
  simp [Op.Complex.arith, floatArith_run h]
theorem complex_cmp (k : FloatKind) (a b : Nat) : (Op.Complex.cmp .eql k a b).run P w = .ok (k.format.order a b == some .eq) w := by
  simp [Op.Complex.cmp, Op.floatCmp, asBool]

theorem complexBin_sound {op : BinOp} {k : FloatKind} {a b c d : Nat} {r : AV} (t : TypeId) (h : complexBin op k a b c d = some r) : ∃ v, (binOp op t (.complex k a b) (.complex k c d)).run P w = .ok v w ∧ HRep P w g S r v := by
  cases op <;> simp only [complexBin] at h <;> try (cases h; done)
  · split at h
    · rename_i x y hx hy
      simp only [Option.some.injEq] at h; subst h
      exact ⟨_, by simp [binOp, Op.complexOp, complex_arith hx, complex_arith hy], HRep.mk_x rfl⟩
    · cases h
  · split at h
    · rename_i x y hx hy
      simp only [Option.some.injEq] at h; subst h
      exact ⟨_, by simp [binOp, Op.complexOp, complex_arith hx, complex_arith hy], HRep.mk_x rfl⟩
    · cases h
  · split at h
    · rename_i hk
      subst hk
      split at h
      · rename_i ac bd ad bc h1 h2 h3 h4
        split at h
        · rename_i x y hx hy
          simp only [Option.some.injEq] at h; subst h
          refine ⟨.complex .f64 x y, ?_, HRep.mk_x rfl⟩
          simp [binOp, Op.complexOp, Op.Complex.conv, Op.Complex.product, Op.Complex.mul, Op.Complex.sub, Op.Complex.add, complex_arith h1, complex_arith h2, complex_arith h3, complex_arith h4, complex_arith hx, complex_arith hy]
        · cases h
      · cases h
    · cases h
  · simp only [Option.some.injEq] at h; subst h
    exact ⟨_, by simp [binOp, Op.complexOp, complex_cmp], HRep.mk_x rfl⟩
  · simp only [Option.some.injEq] at h; subst h
    exact ⟨_, by simp [binOp, Op.complexOp, complex_cmp], HRep.mk_x rfl⟩

theorem strBin_sound {op : BinOp} {a b : List UInt8} {r : AV} (t : TypeId) (h : strBin op a b = some r) : ∃ v, (binOp op t (.string ⟨a.toArray⟩) (.string ⟨b.toArray⟩)).run P w = .ok v w ∧ HRep P w g S r v := by
  cases op <;> simp only [strBin] at h <;> try (cases h; done)
  · split at h
    · rename_i hl
      simp only [Option.some.injEq] at h; subst h
      refine ⟨.string ⟨(a ++ b).toArray⟩, ?_, HRep.mk_str _⟩
      have hs : ¬ (IntKind.i64.max < (((⟨a.toArray⟩ : ByteArray).size : Int) + ((⟨b.toArray⟩ : ByteArray).size : Int))) := by
        have h1 : (⟨a.toArray⟩ : ByteArray).size = a.length := by simp [ByteArray.size]
        have h2 : (⟨b.toArray⟩ : ByteArray).size = b.length := by simp [ByteArray.size]
        have h3 : IntKind.i64.max = 9223372036854775807 := by decide
        rw [h1, h2, h3]; omega
      have hs' : (((⟨a.toArray⟩ : ByteArray).size : Int) + ((⟨b.toArray⟩ : ByteArray).size : Int)) ≤ 9223372036854775807 := by
        have h3 : IntKind.i64.max = 9223372036854775807 := by decide
        rw [h3] at hs; omega
      have he : (⟨a.toArray⟩ : ByteArray) ++ ⟨b.toArray⟩ = ⟨(a ++ b).toArray⟩ := by
        apply ByteArray.ext
        simp
      simp [binOp, Op.stringOp, hs, he]
      first | done | exact hs'
    · cases h
  all_goals
    simp only [Option.some.injEq] at h; subst h
    exact ⟨_, by simp [binOp, Op.stringOp], HRep.mk_x rfl⟩

theorem unA_sound {op : UnOp} {a r : AV} {v : Value} (hv : HRep P w g S a v) (h : unA op a = some r) : ∃ u, (Op.unary op v).run P w = .ok u w ∧ HRep P w g S r u := by
  unfold unA at h
  split at h
  all_goals first
    | (cases h; done)
    | (obtain ⟨rfl, _⟩ := hv.inv_x
       split at h <;> first
         | (simp only [Option.some.injEq] at h; subst h; exact ⟨_, by simp [Op.unary, Op.intArith, Op.intBits], HRep.mk_x rfl⟩)
         | (cases h; done))

/-! ### Types, parts of values, equality -/
theorem sizeT_run {t : TypeId} {n : Nat} (h : sizeT P t = some n) : (sizeOf t).run P w = .ok n w := by
  obtain ⟨i, hi, rfl⟩ := Option.map_eq_some_iff.1 h
  simp [sizeOf, typeInfo, hi]
theorem sizeT_cells {t : TypeId} {n : Nat} (h : sizeT P t = some n) : P.cellsOf t = n := by
  unfold sizeT at h
  simp [Program.cellsOf, h]
theorem aggT_run {t : TypeId} {b : Bool} (h : aggT P t = some b) : (isAgg t).run P w = .ok b w := by
  unfold aggT at h
  split at h <;> first
    | (cases h; done)
    | (rename_i hu
       simp only [Option.some.injEq] at h; subst h
       simp [isAgg, run_underlying hu])
    | (rename_i d h1 h2 hu
       simp only [Option.some.injEq] at h; subst h
       cases d <;> simp [isAgg, run_underlying hu] <;> first
         | exact absurd rfl (h1 _)
         | exact absurd rfl (h2 _ _))

/-- A struct's cells stand to values one by one. -/
def CellsRep (P : Program) (w : World) (g : Gh) (S : List Store) (cs : List AV) (vs : List Value) : Prop :=
  vs.length = cs.length ∧ ∀ (i : Nat) (c : AV) (u : Value), cs[i]? = some c → vs[i]? = some u → CRep P w g S c u ∧ u.oneCell' = true

theorem HRep.inv_agg {cs : List AV} {v : Value} (h : HRep P w g S (.agg cs) v) : ∃ vs : List Value, v = .agg vs.toArray ∧ CellsRep P w g S cs vs := by
  obtain ⟨vs, hv, hl, hr⟩ := h
  exact ⟨vs, hv, hl, hr⟩
theorem HRep.mk_agg {cs : List AV} {vs : List Value} (h : CellsRep P w g S cs vs) : HRep P w g S (.agg cs) (.agg vs.toArray) := ⟨vs, rfl, h.1, h.2⟩

theorem CellsRep.drop {cs : List AV} {vs : List Value} (h : CellsRep P w g S cs vs) (n : Nat) : CellsRep P w g S (cs.drop n) (vs.drop n) :=
  ⟨by simp [h.1], fun i c u hc hu => h.2 (n + i) c u (by simpa using hc) (by simpa using hu)⟩
theorem CellsRep.take {cs : List AV} {vs : List Value} (h : CellsRep P w g S cs vs) (n : Nat) : CellsRep P w g S (cs.take n) (vs.take n) :=
  ⟨by simp [h.1], fun i c u hc hu => by
    rw [List.getElem?_take] at hc hu
    split at hc
    · rename_i hi; rw [if_pos hi] at hu; exact h.2 i c u hc hu
    · cases hc⟩
theorem CellsRep.append {cs ds : List AV} {vs us : List Value} (h : CellsRep P w g S cs vs) (k : CellsRep P w g S ds us) : CellsRep P w g S (cs ++ ds) (vs ++ us) := by
  refine ⟨by simp [h.1, k.1], fun i c u hc hu => ?_⟩
  by_cases hi : i < cs.length
  · rw [List.getElem?_append_left hi] at hc
    rw [List.getElem?_append_left (by rw [h.1]; exact hi)] at hu
    exact h.2 i c u hc hu
  · rw [List.getElem?_append_right (by omega)] at hc
    rw [List.getElem?_append_right (by rw [h.1]; omega), h.1] at hu
    exact k.2 _ c u hc hu

theorem partA_sound {t : TypeId} {cs : List AV} {vs : List Value} {off : Nat} {r : AV} (hc : CellsRep P w g S cs vs) (h : partA P t cs off = some r) : ∃ v, (part t vs.toArray off).run P w = .ok v w ∧ HRep P w g S r v := by
  unfold partA at h
  split at h
  · rename_i n hn ha
    split at h
    · rename_i hl
      simp only [Option.some.injEq] at h; subst h
      refine ⟨.agg ((vs.drop off).take n).toArray, ?_, HRep.mk_agg ((hc.drop off).take n)⟩
      simp [part, aggT_run ha, sizeT_run hn]
    · cases h
  · rename_i n hn ha
    have hlt : off < cs.length := by
      rcases Nat.lt_or_ge off cs.length with h1 | h1
      · exact h1
      · rw [List.getElem?_eq_none h1] at h; cases h
    have hlv : off < vs.length := by rw [hc.1]; exact hlt
    refine ⟨vs[off], ?_, HRep.of_cell (hc.2 off r vs[off] h (List.getElem?_eq_getElem hlv)).1⟩
    simp [part, aggT_run ha, hlv]
  · cases h

theorem eqFields_sound {d : Nat} (ih : ∀ (t : TypeId) (x y : AV) (vx vy : Value) (b : Bool), HRep P w g S x vx → HRep P w g S y vy → eqIn P d t x y = some b → (Op.equalIn d t vx vy).run P w = .ok b w) :
    ∀ (fs : List Field) (xs ys : List AV) (us vs : List Value) (b : Bool), CellsRep P w g S xs us → CellsRep P w g S ys vs → eqIn.eqFields P d fs xs ys = some b → (Op.eqFields d us.toArray vs.toArray fs).run P w = .ok b w
  | [], xs, ys, us, vs, b, hx, hy, h => by simp [eqIn.eqFields] at h; subst h; simp [Op.eqFields]
  | f :: r, xs, ys, us, vs, b, hx, hy, h => by
    rw [eqIn.eqFields] at h
    by_cases hn : f.name = "_"
    · rw [if_pos hn] at h
      have := eqFields_sound ih r xs ys us vs b hx hy h
      simpa [Op.eqFields, hn] using this
    · rw [if_neg hn] at h
      split at h
      · rename_i a c ha hc
        obtain ⟨va, hra, hva⟩ := partA_sound hx ha
        obtain ⟨vc, hrc, hvc⟩ := partA_sound hy hc
        split at h
        · rename_i he
          have hq := ih f.type a c va vc true hva hvc he
          have := eqFields_sound ih r xs ys us vs b hx hy h
          simp only [Op.eqFields, ne_eq, hn, not_false_eq_true, if_true, Sem.run_bind, hra, hrc, hq, Result.andThen_ok]
          simpa using this
        · rename_i he
          have hq := ih f.type a c va vc false hva hvc he
          simp only [Option.some.injEq] at h; subst h
          simp [Op.eqFields, hn, hra, hrc, hq]
        · cases h
      · cases h

theorem eqIn_sound : ∀ (d : Nat) (t : TypeId) (x y : AV) (vx vy : Value) (b : Bool), HRep P w g S x vx → HRep P w g S y vy → eqIn P d t x y = some b → (Op.equalIn d t vx vy).run P w = .ok b w := by
  intro d
  induction d with
  | zero => intro t x y vx vy b _ _ h; simp [eqIn] at h
  | succ d ih =>
    intro t x y vx vy b hx hy h
    unfold eqIn at h
    split at h
    · rename_i a c hu
      obtain ⟨rfl, _⟩ := hx.inv_x
      obtain ⟨rfl, _⟩ := hy.inv_x
      simp only [Option.some.injEq] at h; subst h
      exact run_equalIn_bool w d t a c hu
    · rename_i k0 k a k' c hu
      obtain ⟨rfl, _⟩ := hx.inv_x
      obtain ⟨rfl, _⟩ := hy.inv_x
      split at h
      · rename_i hk
        subst hk
        simp only [Option.some.injEq] at h; subst h
        exact run_equalIn_int w d t k k0 a c hu
      · cases h
    · rename_i k0 k a k' c hu
      obtain ⟨rfl, _⟩ := hx.inv_x
      obtain ⟨rfl, _⟩ := hy.inv_x
      split at h
      · rename_i hk
        subst hk
        simp only [Option.some.injEq] at h; subst h
        simp [Op.equalIn, run_underlying hu]
      · cases h
    · rename_i k0 k a b' k' a' b'' hu
      obtain ⟨rfl, _⟩ := hx.inv_x
      obtain ⟨rfl, _⟩ := hy.inv_x
      split at h
      · rename_i hk
        subst hk
        simp only [Option.some.injEq] at h; subst h
        simp [Op.equalIn, run_underlying hu]
      · cases h
    · rename_i a c hu
      have e1 := hx.inv_str
      have e2 := hy.inv_str
      subst e1; subst e2
      simp only [Option.some.injEq] at h; subst h
      rw [run_equalIn_string w d t _ _ hu]
      simp
    · rename_i fields xs ys hu
      obtain ⟨us, rfl, hus⟩ := hx.inv_agg
      obtain ⟨vs, rfl, hvs⟩ := hy.inv_agg
      split at h
      · cases h
      · rename_i hst
        have hf : P.fieldsOf t = fields := by simp [Program.fieldsOf, hu]
        rw [run_equalIn_struct w d t _ _ (by rw [hf]; exact hu) (by simpa using hst), hf]
        exact eqFields_sound ih fields.toList xs ys us vs b hus hvs h
    · cases h

/-! ### Slices as they are read -/
theorem HRep.inv_sl {e : TypeId} {xs : List AV} {v : Value} (h : HRep P w g S (.sl e xs) v) : ∃ A c us, v = .slice A xs.length c ∧ xs.length ≤ c ∧ c ≤ maxLen ∧ 0 < P.cellsOf e ∧ RepL P w g.M e xs us ∧
    (xs ≠ [] → ∃ b o, A = some ⟨b, o, none⟩ ∧ ∀ (j : Nat) (cv : Value), (flat us)[j]? = some cv → w.cell? ⟨b, o + j, none⟩ = some cv ∧ g.M b (o + j)) := by
  have h' : Rep P w g.M (.sl e xs) v := h
  cases h' with
  | sl h1 h2 h3 h4 h5 h6 h7 h8 =>
    subst h1
    exact ⟨_, _, _, rfl, h3, h4, h5, ⟨h2, h6, h7⟩, h8⟩

theorem HRep.inv_arr {i k : Nat} {e : TypeId} {lo n tot : Nat} {v : Value} (h : HRep P w g S (.arr i k e lo n tot) v) : ∃ fz xs, getOb S i k = some (.arr fz e xs) ∧ tot ≤ xs.length ∧ (xs.length = tot → lo + n ≤ tot ∧ ∃ A c, v = .slice A n c ∧ n ≤ c ∧ c ≤ maxLen ∧
      (lo = 0 ∨ 0 < n → A = some ⟨g.B i k, lo * P.cellsOf e, none⟩) ∧ (fz = false → (lo + c) * P.cellsOf e ≤ g.C i k)) ∧ v.oneCell' = true := h

theorem HRep.inv_ref {i k off : Nat} {v : Value} (h : HRep P w g S (.ref i k off) v) : (∃ cs, getOb S i k = some (.box cs)) ∧ v = .pointer (some ⟨g.B i k, off, none⟩) := h
end
end Go.AbsM
