/-
  The abstract machine: objects whose contents turn.
-/
import Derived.Test.YtmfegciehdjicaaAbsStore
set_option linter.unusedVariables false
set_option linter.unusedSimpArgs false
namespace Go.AbsM

/-- New blocks, and one block that turned. -/
structure Chg (B0 : Nat) (w w' : World) : Prop where
  os : w'.os = w.os
  tape : w'.tape = w.tape
  output : w'.output = w.output
  size : w.heap.size ≤ w'.heap.size
  heap : ∀ b, b < w.heap.size → b ≠ B0 → w'.heap[b]? = w.heap[b]?

theorem Chg.setRow (w : World) (b : Nat) (cs : Array Value) : Chg b w (w.setRow b cs) := ⟨rfl, rfl, rfl, by simp, fun k _ hk => setRow_other w b k cs hk⟩
theorem Chg.of_ext {B0 : Nat} {w w' : World} (h : Ext w w') : Chg B0 w w' := ⟨h.os, h.tape, h.output, h.size, fun b hb _ => h.heap b hb⟩

/-- The ghost where an object's place turns. -/
def Gh.at (g : Gh) (i k b c : Nat) : Gh := { M := g.M, B := fun i' j => if i' = i ∧ j = k then b else g.B i' j, C := fun i' j => if i' = i ∧ j = k then c else g.C i' j }

section
variable {P : Program} {w w' : World} {g : Gh} {may : Nat → Prop} {S : List Store}

theorem Chg.fr (hi : SInv P w g may S) (hm : ∀ b, w.heap.size ≤ b → may b) {B0 : Nat} (hc : Chg B0 w w') (hB : may B0) (hM : ∀ o, ¬ g.M B0 o) : Fr may w g.M w' g.M := by
  have hcell : ∀ b o, g.M b o → w'.heap[b]? = w.heap[b]? := fun b o h => hc.heap b (hi.mlt b o h) fun e => hM o (e ▸ h)
  exact ⟨hc.os, hc.tape, hc.output, hc.size, fun b hb => hc.heap b (Nat.lt_of_not_le fun hh => hb (hm b hh)) fun e => hb (e ▸ hB), fun _ _ h => h, fun b o h => World.cell?_of_block (w := w) (a := ⟨b, o, none⟩) (hcell b o h), fun _ _ _ h => h⟩

theorem SInv.setArr (hi : SInv P w g may S) (hm : ∀ b, w.heap.size ≤ b → may b) {i k : Nat} {e : TypeId} {xs xs' : List AV} (hg : getOb S i k = some (.arr false e xs)) {b c0 : Nat} (hc : Chg (g.B i k) w w')
    (hlen : xs.length ≤ xs'.length) (hbb : (b = g.B i k ∧ c0 = g.C i k) ∨ (w.heap.size ≤ b ∧ xs.length < xs'.length))
    (hnew : ∃ (cur us : List Value) (cap : Nat), w'.heap[b]? = some (.cells cur.toArray e (0, 0)) ∧ cur.length = c0 ∧ c0 = cap * P.cellsOf e ∧ cap ≤ maxLen ∧ xs'.length ≤ cap ∧ RepL P w' g.M e xs' us ∧ cur.take (xs'.length * P.cellsOf e) = flat us) :
    SInv P w' (g.at i k b c0) may (setOb S i k (.arr false e xs')) ∧ Kp 0 S g (setOb S i k (.arr false e xs')) (g.at i k b c0) ∧ Fr may w g.M w' (g.at i k b c0).M := by
  have hlt := hi.lt hg rfl
  have hfr : Fr may w g.M w' g.M := hc.fr hi hm hlt.2.1 hlt.2.2
  have hkp : Kp 0 S g (setOb S i k (.arr false e xs')) (g.at i k b c0) := by
    refine ⟨fun i' k' cs _ h => ?_, fun i' k' fz e' ys _ h => ?_⟩
    · have hn : ¬ (i' = i ∧ k' = k) := by rintro ⟨rfl, rfl⟩; rw [hg] at h; cases h
      rw [getOb_set, if_neg hn]
      exact ⟨⟨cs, h⟩, by simp [Gh.at, hn]⟩
    · by_cases hn : i' = i ∧ k' = k
      · obtain ⟨rfl, rfl⟩ := hn
        rw [hg] at h
        simp only [Option.some.injEq, Ob.arr.injEq] at h
        obtain ⟨rfl, rfl, rfl⟩ := h
        refine ⟨false, xs', by rw [getOb_set]; simp [hg], hlen, fun he => ?_⟩
        rcases hbb with ⟨rfl, rfl⟩ | ⟨_, hh⟩
        · exact ⟨by simp [Gh.at], fun _ => ⟨rfl, by simp [Gh.at]⟩⟩
        · omega
      · rw [getOb_set, if_neg hn]
        exact ⟨fz, ys, h, Nat.le_refl _, fun _ => ⟨by simp [Gh.at, hn], fun hf => ⟨hf, by simp [Gh.at, hn]⟩⟩⟩
  refine ⟨?_, hkp, hfr⟩
  have old : ∀ i' k' o', getOb (setOb S i k (.arr false e xs')) i' k' = some o' → (i' = i ∧ k' = k ∧ o' = .arr false e xs') ∨ (¬ (i' = i ∧ k' = k) ∧ getOb S i' k' = some o') := by
    intro i' k' o' h
    rw [getOb_set] at h
    by_cases hn : i' = i ∧ k' = k
    · rw [if_pos hn, hg] at h
      simp at h
      exact .inl ⟨hn.1, hn.2, h.symm⟩
    · rw [if_neg hn] at h
      exact .inr ⟨hn, h⟩
  have hBo : ∀ i' j, ¬ (i' = i ∧ j = k) → (g.at i k b c0).B i' j = g.B i' j := fun i' j h => by simp [Gh.at, h]
  have hCo : ∀ i' j, ¬ (i' = i ∧ j = k) → (g.at i k b c0).C i' j = g.C i' j := fun i' j h => by simp [Gh.at, h]
  have hBn : (g.at i k b c0).B i k = b := by simp [Gh.at]
  have hCn : (g.at i k b c0).C i k = c0 := by simp [Gh.at]
  have hmb : may b := by
    rcases hbb with ⟨rfl, _⟩ | ⟨hh, _⟩
    · exact hlt.2.1
    · exact hm b hh
  have hnM : ∀ o, ¬ g.M b o := by
    rcases hbb with ⟨rfl, _⟩ | ⟨hh, _⟩
    · exact hlt.2.2
    · intro o h; have := hi.mlt b o h; omega
  have heapo : ∀ i' k' o', ¬ (i' = i ∧ k' = k) → getOb S i' k' = some o' → o'.loose = true → w'.heap[g.B i' k']? = w.heap[g.B i' k']? := fun i' k' o' hn h hl =>
    hc.heap _ (hi.lt h hl).1 fun he => hn (hi.inj i' k' o' i k _ h hg hl rfl he)
  refine ⟨fun i' k' cs h => ?_, fun i' k' e' ys h => ?_, fun i' k' e' ys h => ?_, fun i1 k1 o1 i2 k2 o2 h1 h2 hl1 hl2 he => ?_, fun b o h => Nat.lt_of_lt_of_le (hi.mlt b o h) hc.size⟩
  · rcases old i' k' _ h with ⟨_, _, hh⟩ | ⟨hn, h⟩
    · cases hh
    · rw [hBo i' k' hn]
      obtain ⟨h1, h2, vs, t, h3, h4, h5⟩ := hi.box i' k' cs h
      exact ⟨h1, h2, vs, t, by rw [heapo i' k' _ hn h rfl]; exact h3, h4, fun j c u hc' hu => ⟨CRep.keep (g := g) (g' := g.at i k b c0) (S := S) hfr.sub hfr.cell hkp (AV.from_zero _) (h5 j c u hc' hu).1, (h5 j c u hc' hu).2⟩⟩
  · rcases old i' k' _ h with ⟨rfl, rfl, hh⟩ | ⟨hn, h⟩
    · cases hh
      rw [hBn, hCn]
      obtain ⟨_, _, he, _⟩ := hi.arr _ _ e xs hg
      obtain ⟨cur, us, cap, h1, h2, h3, h4, h5, h6, h7⟩ := hnew
      exact ⟨hmb, hnM, he, cur, us, cap, h1, h2, h3, h4, h5, h6, h7⟩
    · rw [hBo i' k' hn, hCo i' k' hn]
      obtain ⟨h1, h2, he, cur, us, cap, h3, h4, h5, h6, h7, h8, h9⟩ := hi.arr i' k' _ _ h
      exact ⟨h1, h2, he, cur, us, cap, by rw [heapo i' k' _ hn h rfl]; exact h3, h4, h5, h6, h7, h8.mono hfr.sub hfr.cell, h9⟩
  · rcases old i' k' _ h with ⟨_, _, hh⟩ | ⟨hn, h⟩
    · cases hh
    · rw [hBo i' k' hn]
      obtain ⟨he, us, hr, hcl⟩ := hi.fz i' k' _ _ h
      exact ⟨he, us, hr.mono hfr.sub hfr.cell, fun m cv hm => ⟨(hfr.cell _ _ (hcl m cv hm).2).trans (hcl m cv hm).1, (hcl m cv hm).2⟩⟩
  · rcases old i1 k1 _ h1 with ⟨rfl, rfl, rfl⟩ | ⟨hn1, q1⟩
    · rcases old i2 k2 _ h2 with ⟨rfl, rfl, rfl⟩ | ⟨hn2, q2⟩
      · exact ⟨rfl, rfl⟩
      · rw [hBn, hBo i2 k2 hn2] at he
        rcases hbb with ⟨rfl, _⟩ | ⟨hh, _⟩
        · have := hi.inj _ _ _ i2 k2 o2 hg q2 rfl hl2 he
          exact absurd ⟨this.1.symm, this.2.symm⟩ hn2
        · have := (hi.lt q2 hl2).1; omega
    · rcases old i2 k2 _ h2 with ⟨rfl, rfl, rfl⟩ | ⟨hn2, q2⟩
      · rw [hBn, hBo i1 k1 hn1] at he
        rcases hbb with ⟨rfl, _⟩ | ⟨hh, _⟩
        · exact absurd (hi.inj i1 k1 o1 _ _ _ q1 hg hl1 rfl he) hn1
        · have := (hi.lt q1 hl1).1; omega
      · rw [hBo i1 k1 hn1, hBo i2 k2 hn2] at he
        exact hi.inj i1 k1 o1 i2 k2 o2 q1 q2 hl1 hl2 he

theorem SInv.setBox (hi : SInv P w g may S) (hm : ∀ b, w.heap.size ≤ b → may b) {i k : Nat} {cs ds : List AV} (hg : getOb S i k = some (.box cs)) (hc : Chg (g.B i k) w w')
    (hnew : ∃ (vs : List Value) (t : TypeId), w'.heap[g.B i k]? = some (.cells vs.toArray t (0, 0)) ∧ vs.length = ds.length ∧ ∀ (j : Nat) (c : AV) (u : Value), ds[j]? = some c → vs[j]? = some u → CRep P w g S (c.shift i) u ∧ u.oneCell' = true) :
    SInv P w' g may (setOb S i k (.box ds)) ∧ Kp 0 S g (setOb S i k (.box ds)) g ∧ Fr may w g.M w' g.M := by
  have hlt := hi.lt hg rfl
  have hfr : Fr may w g.M w' g.M := hc.fr hi hm hlt.2.1 hlt.2.2
  have hkp : Kp 0 S g (setOb S i k (.box ds)) g := by
    refine ⟨fun i' k' cs' _ h => ?_, fun i' k' fz e' ys _ h => ?_⟩
    · by_cases hn : i' = i ∧ k' = k
      · obtain ⟨rfl, rfl⟩ := hn
        exact ⟨⟨ds, by rw [getOb_set]; simp [hg]⟩, rfl⟩
      · exact ⟨⟨cs', by rw [getOb_set, if_neg hn]; exact h⟩, rfl⟩
    · have hn : ¬ (i' = i ∧ k' = k) := by rintro ⟨rfl, rfl⟩; rw [hg] at h; cases h
      rw [getOb_set, if_neg hn]
      exact ⟨fz, ys, h, Nat.le_refl _, fun _ => ⟨rfl, fun hf => ⟨hf, rfl⟩⟩⟩
  refine ⟨?_, hkp, hfr⟩
  have old : ∀ i' k' o', getOb (setOb S i k (.box ds)) i' k' = some o' → (i' = i ∧ k' = k ∧ o' = .box ds) ∨ (¬ (i' = i ∧ k' = k) ∧ getOb S i' k' = some o') := by
    intro i' k' o' h
    rw [getOb_set] at h
    by_cases hn : i' = i ∧ k' = k
    · rw [if_pos hn, hg] at h
      simp at h
      exact .inl ⟨hn.1, hn.2, h.symm⟩
    · rw [if_neg hn] at h
      exact .inr ⟨hn, h⟩
  have heapo : ∀ i' k' o', ¬ (i' = i ∧ k' = k) → getOb S i' k' = some o' → o'.loose = true → w'.heap[g.B i' k']? = w.heap[g.B i' k']? := fun i' k' o' hn h hl =>
    hc.heap _ (hi.lt h hl).1 fun he => hn (hi.inj i' k' o' i k _ h hg hl rfl he)
  refine ⟨fun i' k' cs' h => ?_, fun i' k' e' ys h => ?_, fun i' k' e' ys h => ?_, fun i1 k1 o1 i2 k2 o2 h1 h2 hl1 hl2 he => ?_, fun b o h => Nat.lt_of_lt_of_le (hi.mlt b o h) hc.size⟩
  · rcases old i' k' _ h with ⟨rfl, rfl, hh⟩ | ⟨hn, h⟩
    · cases hh
      obtain ⟨vs, t, h1, h2, h3⟩ := hnew
      exact ⟨hlt.2.1, hlt.2.2, vs, t, h1, h2, fun j c u hc' hu => ⟨(h3 j c u hc' hu).1.keep hfr.sub hfr.cell hkp (AV.from_zero _), (h3 j c u hc' hu).2⟩⟩
    · obtain ⟨h1, h2, vs, t, h3, h4, h5⟩ := hi.box i' k' _ h
      exact ⟨h1, h2, vs, t, by rw [heapo i' k' _ hn h rfl]; exact h3, h4, fun j c u hc' hu => ⟨(h5 j c u hc' hu).1.keep hfr.sub hfr.cell hkp (AV.from_zero _), (h5 j c u hc' hu).2⟩⟩
  · rcases old i' k' _ h with ⟨_, _, hh⟩ | ⟨hn, h⟩
    · cases hh
    · obtain ⟨h1, h2, he, cur, us, cap, h3, h4, h5, h6, h7, h8, h9⟩ := hi.arr i' k' _ _ h
      exact ⟨h1, h2, he, cur, us, cap, by rw [heapo i' k' _ hn h rfl]; exact h3, h4, h5, h6, h7, h8.mono hfr.sub hfr.cell, h9⟩
  · rcases old i' k' _ h with ⟨_, _, hh⟩ | ⟨hn, h⟩
    · cases hh
    · obtain ⟨he, us, hr, hcl⟩ := hi.fz i' k' _ _ h
      exact ⟨he, us, hr.mono hfr.sub hfr.cell, fun m cv hm => ⟨(hfr.cell _ _ (hcl m cv hm).2).trans (hcl m cv hm).1, (hcl m cv hm).2⟩⟩
  · rcases old i1 k1 _ h1 with ⟨rfl, rfl, rfl⟩ | ⟨hn1, q1⟩
    · rcases old i2 k2 _ h2 with ⟨rfl, rfl, rfl⟩ | ⟨hn2, q2⟩
      · exact ⟨rfl, rfl⟩
      · have := hi.inj _ _ _ i2 k2 o2 hg q2 rfl hl2 he
        exact absurd ⟨this.1.symm, this.2.symm⟩ hn2
    · rcases old i2 k2 _ h2 with ⟨rfl, rfl, rfl⟩ | ⟨hn2, q2⟩
      · exact absurd (hi.inj i1 k1 o1 _ _ _ q1 hg hl1 rfl he) hn1
      · exact hi.inj i1 k1 o1 i2 k2 o2 q1 q2 hl1 hl2 he

/-- Read only from now on: nothing turns but what may be relied on. -/
def Gh.fz (g : Gh) (b n : Nat) : Gh := { g with M := fun b' o => g.M b' o ∨ (b' = b ∧ o < n) }

theorem SInv.setFz (hi : SInv P w g may S) {i k : Nat} {e : TypeId} {xs : List AV} (hg : getOb S i k = some (.arr false e xs)) :
    SInv P w (g.fz (g.B i k) (xs.length * P.cellsOf e)) may (setOb S i k (.arr true e xs)) ∧ Kp 0 S g (setOb S i k (.arr true e xs)) (g.fz (g.B i k) (xs.length * P.cellsOf e)) ∧ Fr may w g.M w (g.fz (g.B i k) (xs.length * P.cellsOf e)).M := by
  have hlt := hi.lt hg rfl
  have hfr : Fr may w g.M w (g.fz (g.B i k) (xs.length * P.cellsOf e)).M :=
    ⟨rfl, rfl, rfl, Nat.le_refl _, fun _ _ => rfl, fun _ _ h => .inl h, fun _ _ _ => rfl, fun b o hb h => h.elim id fun h => absurd hlt.2.1 (h.1 ▸ hb)⟩
  have hkp : Kp 0 S g (setOb S i k (.arr true e xs)) (g.fz (g.B i k) (xs.length * P.cellsOf e)) := by
    refine ⟨fun i' k' cs' _ h => ?_, fun i' k' fz e' ys _ h => ?_⟩
    · have hn : ¬ (i' = i ∧ k' = k) := by rintro ⟨rfl, rfl⟩; rw [hg] at h; cases h
      exact ⟨⟨cs', by rw [getOb_set, if_neg hn]; exact h⟩, rfl⟩
    · by_cases hn : i' = i ∧ k' = k
      · obtain ⟨rfl, rfl⟩ := hn
        rw [hg] at h
        simp only [Option.some.injEq, Ob.arr.injEq] at h
        obtain ⟨rfl, rfl, rfl⟩ := h
        exact ⟨true, xs, by rw [getOb_set]; simp [hg], Nat.le_refl _, fun _ => ⟨rfl, fun h => by cases h⟩⟩
      · rw [getOb_set, if_neg hn]
        exact ⟨fz, ys, h, Nat.le_refl _, fun _ => ⟨rfl, fun hf => ⟨hf, rfl⟩⟩⟩
  refine ⟨?_, hkp, hfr⟩
  have old : ∀ i' k' o', getOb (setOb S i k (.arr true e xs)) i' k' = some o' → (i' = i ∧ k' = k ∧ o' = .arr true e xs) ∨ (¬ (i' = i ∧ k' = k) ∧ getOb S i' k' = some o') := by
    intro i' k' o' h
    rw [getOb_set] at h
    by_cases hn : i' = i ∧ k' = k
    · rw [if_pos hn, hg] at h
      simp at h
      exact .inl ⟨hn.1, hn.2, h.symm⟩
    · rw [if_neg hn] at h
      exact .inr ⟨hn, h⟩
  have hMo : ∀ i' k' o', ¬ (i' = i ∧ k' = k) → getOb S i' k' = some o' → o'.loose = true → ∀ j, ¬ (g.fz (g.B i k) (xs.length * P.cellsOf e)).M (g.B i' k') j := fun i' k' o' hn h hl j hh =>
    hh.elim ((hi.lt h hl).2.2 j) fun hh => hn (hi.inj i' k' o' i k _ h hg hl rfl hh.1)
  refine ⟨fun i' k' cs' h => ?_, fun i' k' e' ys h => ?_, fun i' k' e' ys h => ?_, fun i1 k1 o1 i2 k2 o2 h1 h2 hl1 hl2 he => ?_, fun b o h => h.elim (hi.mlt b o) fun h => h.1 ▸ hlt.1⟩
  · rcases old i' k' _ h with ⟨_, _, hh⟩ | ⟨hn, h⟩
    · cases hh
    · obtain ⟨h1, h2, vs, t, h3, h4, h5⟩ := hi.box i' k' _ h
      exact ⟨h1, hMo i' k' _ hn h rfl, vs, t, h3, h4, fun j c u hc' hu => ⟨(h5 j c u hc' hu).1.keep hfr.sub hfr.cell hkp (AV.from_zero _), (h5 j c u hc' hu).2⟩⟩
  · rcases old i' k' _ h with ⟨_, _, hh⟩ | ⟨hn, h⟩
    · cases hh
    · obtain ⟨h1, h2, he, cur, us, cap, h3, h4, h5, h6, h7, h8, h9⟩ := hi.arr i' k' _ _ h
      exact ⟨h1, hMo i' k' _ hn h rfl, he, cur, us, cap, h3, h4, h5, h6, h7, h8.mono hfr.sub hfr.cell, h9⟩
  · rcases old i' k' _ h with ⟨rfl, rfl, hh⟩ | ⟨hn, h⟩
    · cases hh
      obtain ⟨_, _, he, cur, us, cap, h3, h4, h5, h6, h7, h8, h9⟩ := hi.arr _ _ _ _ hg
      refine ⟨he, us, h8.mono hfr.sub hfr.cell, fun m cv hm => ?_⟩
      have hml : m < xs.length * P.cellsOf e := by
        have := (List.getElem?_eq_some_iff.1 hm).1
        rw [h8.len] at this; exact this
      refine ⟨?_, .inr ⟨rfl, hml⟩⟩
      rw [← h9, List.getElem?_take, if_pos hml] at hm
      show w.cell? ⟨g.B _ _, m, none⟩ = _
      rw [cell_of_row w _ m cur.toArray e (0, 0) h3]
      simpa using hm
    · obtain ⟨he, us, hr, hcl⟩ := hi.fz i' k' _ _ h
      exact ⟨he, us, hr.mono hfr.sub hfr.cell, fun m cv hm => ⟨(hcl m cv hm).1, .inl (hcl m cv hm).2⟩⟩
  · rcases old i1 k1 _ h1 with ⟨rfl, rfl, rfl⟩ | ⟨hn1, q1⟩
    · simp [Ob.loose] at hl1
    · rcases old i2 k2 _ h2 with ⟨rfl, rfl, rfl⟩ | ⟨hn2, q2⟩
      · simp [Ob.loose] at hl2
      · exact hi.inj i1 k1 o1 i2 k2 o2 q1 q2 hl1 hl2 he
end
end Go.AbsM
