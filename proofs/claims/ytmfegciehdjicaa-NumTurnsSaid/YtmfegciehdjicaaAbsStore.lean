/-
  The abstract machine: what it does to its stores, against what the model does to memory.
-/
import Derived.Test.YtmfegciehdjicaaAbsOps4
set_option linter.unusedVariables false
set_option linter.unusedSimpArgs false
namespace Go.AbsM

theorem AV.shift_zero (c : AV) : c.shift 0 = c := by cases c <;> rfl

/-- New blocks, nothing else. -/
structure Ext (w w' : World) : Prop where
  os : w'.os = w.os
  tape : w'.tape = w.tape
  output : w'.output = w.output
  size : w.heap.size ≤ w'.heap.size
  heap : ∀ b, b < w.heap.size → w'.heap[b]? = w.heap[b]?

theorem Below_heap_alloc (w : World) (o : Obj) (b : Nat) (h : b < w.heap.size) : (w.alloc o).heap[b]? = w.heap[b]? := Go.RowKit.Below.heap_alloc w o b h
theorem Ext.refl (w : World) : Ext w w := ⟨rfl, rfl, rfl, Nat.le_refl _, fun _ _ => rfl⟩
theorem Ext.alloc (w : World) (o : Obj) : Ext w (w.alloc o) := ⟨rfl, rfl, rfl, by simp, fun b hb => Below_heap_alloc w o b hb⟩
theorem Ext.drew (w : World) : Ext w w.drew := ⟨rfl, rfl, rfl, Nat.le_refl _, fun _ _ => rfl⟩
theorem Ext.trans {a b c : World} (h : Ext a b) (k : Ext b c) : Ext a c :=
  ⟨k.os.trans h.os, k.tape.trans h.tape, k.output.trans h.output, Nat.le_trans h.size k.size, fun n hn => (k.heap n (Nat.lt_of_lt_of_le hn h.size)).trans (h.heap n hn)⟩
theorem Ext.cell {w w' : World} (h : Ext w w') {b : Nat} (hb : b < w.heap.size) (o : Nat) : w'.cell? ⟨b, o, none⟩ = w.cell? ⟨b, o, none⟩ := World.cell?_of_block (w := w) (a := ⟨b, o, none⟩) (h.heap b hb)
theorem Ext.fr {w w' : World} (h : Ext w w') {may : Nat → Prop} {M : Nat → Nat → Prop} (hm : ∀ b, w.heap.size ≤ b → may b) (hM : ∀ b o, M b o → b < w.heap.size) : Fr may w M w' M :=
  ⟨h.os, h.tape, h.output, h.size, fun b hb => h.heap b (Nat.lt_of_not_le fun hh => hb (hm b hh)), fun _ _ h => h, fun b o hh => h.cell (hM b o hh) o, fun _ _ _ h => h⟩

theorem lt_of_heap {w : World} {b : Nat} {o : Obj} (h : w.heap[b]? = some o) : b < w.heap.size := (Array.getElem?_eq_some_iff.1 h).1

section
variable {P : Program} {w w' : World} {g : Gh} {may : Nat → Prop} {S : List Store}

theorem SInv.lt (hi : SInv P w g may S) {i k : Nat} {o : Ob} (h : getOb S i k = some o) (hl : o.loose = true) : g.B i k < w.heap.size ∧ may (g.B i k) ∧ ∀ j, ¬ g.M (g.B i k) j := by
  cases o with
  | box cs =>
    obtain ⟨h1, h2, vs, t, h3, _⟩ := hi.box i k cs h
    exact ⟨lt_of_heap h3, h1, h2⟩
  | arr fz e xs =>
    simp [Ob.loose] at hl; subst hl
    obtain ⟨h1, h2, _, cur, us, cap, h3, _⟩ := hi.arr i k e xs h
    exact ⟨lt_of_heap h3, h1, h2⟩

/-- The ghost behind a new object of this frame. -/
def Gh.new (g : Gh) (k b c : Nat) : Gh := { M := g.M, B := fun i j => if i = 0 ∧ j = k then b else g.B i j, C := fun i j => if i = 0 ∧ j = k then c else g.C i j }

def createS (S : List Store) (k : Nat) (o : Ob) : List Store := match S with
  | [] => []
  | t :: r => ((k, o) :: drop (killStore k t) k) :: r

theorem getOb_createS (hne : S ≠ []) (k : Nat) (o : Ob) (j m : Nat) : getOb (createS S k o) j m = if j = 0 then (if m = k then some o else (getOb S 0 m).map (Ob.kill k)) else getOb S j m := by
  cases S with
  | nil => exact absurd rfl hne
  | cons t r => exact getOb_create t r k o j m

theorem Kp.create (hne : S ≠ []) (k : Nat) (o : Ob) (b c : Nat) : Kp 1 S g (createS S k o) (g.new k b c) := by
  refine ⟨fun i j cs hi h => ?_, fun i j fz e xs hi h => ?_⟩
  · have h0 : i ≠ 0 := by omega
    rw [getOb_createS hne, if_neg h0]
    exact ⟨⟨cs, h⟩, by simp [Gh.new, h0]⟩
  · have h0 : i ≠ 0 := by omega
    rw [getOb_createS hne, if_neg h0]
    exact ⟨fz, xs, h, Nat.le_refl _, fun _ => ⟨by simp [Gh.new, h0], fun hf => ⟨hf, by simp [Gh.new, h0]⟩⟩⟩

theorem CRep.create (hx : Ext w w') (hM : ∀ b o, g.M b o → b < w.heap.size) (hne : S ≠ []) {k b c0 : Nat} {o : Ob} {c : AV} {u : Value} (h : CRep P w g S c u) : CRep P w' (g.new k b c0) (createS S k o) (c.killCell k) u := by
  have hcell : ∀ b o, g.M b o → w'.cell? ⟨b, o, none⟩ = w.cell? ⟨b, o, none⟩ := fun b o h => hx.cell (hM b o h) o
  have other : c.from 1 → c.killCell k = c → CRep P w' (g.new k b c0) (createS S k o) (c.killCell k) u := fun h1 h2 => by
    rw [h2]
    exact CRep.keep (g := g) (g' := g.new k b c0) (S := S) (fun _ _ h => h) hcell (Kp.create hne k o b c0) h1 h
  cases c with
  | arr i j e lo n tot =>
    cases i with
    | zero =>
      simp only [AV.killCell]
      split
      · trivial
      · rename_i hj
        obtain ⟨fz, xs, hg, ht, hq, h1⟩ := h
        refine ⟨fz, xs, ?_, ht, fun hl => ?_, h1⟩
        · rw [getOb_createS hne, if_pos rfl, if_neg hj, hg]; rfl
        · obtain ⟨hln, A, c, rfl, hnc, hcm, hA, hC⟩ := hq hl
          refine ⟨hln, A, c, rfl, hnc, hcm, fun h3 => ?_, fun hf => ?_⟩
          · simp only [Gh.new, hj, and_false, if_false]; exact hA h3
          · simp only [Gh.new, hj, and_false, if_false]; exact hC hf
    | succ i => exact other (by simp [AV.from]) rfl
  | ref i j off =>
    cases i with
    | zero =>
      simp only [AV.killCell]
      split
      · trivial
      · rename_i hj
        obtain ⟨⟨cs, hg⟩, rfl⟩ := h
        refine ⟨⟨cs.map (AV.killCell k), ?_⟩, ?_⟩
        · rw [getOb_createS hne, if_pos rfl, if_neg hj, hg]; rfl
        · simp [Gh.new, hj]
    | succ i => exact other (by simp [AV.from]) rfl
  | ear i j e tot m off =>
    cases i with
    | zero =>
      simp only [AV.killCell]
      split
      · trivial
      · rename_i hj
        obtain ⟨fz, xs, hg, ht, hq⟩ := h
        refine ⟨fz, xs, ?_, ht, fun hl => ?_⟩
        · rw [getOb_createS hne, if_pos rfl, if_neg hj, hg]; rfl
        · simp only [Gh.new, hj, and_false, if_false]; exact hq hl
    | succ i => exact other (by simp [AV.from]) rfl
  | agg => exact h.elim
  | tup => exact h.elim
  | own => exact h.elim
  | obj => exact h.elim
  | _ => exact other (by simp [AV.from]) rfl

theorem HRep1.create (hx : Ext w w') (hM : ∀ b o, g.M b o → b < w.heap.size) (hne : S ≠ []) {k b c0 : Nat} {o : Ob} {c : AV} {u : Value} (h : HRep1 P w g S c u) : HRep1 P w' (g.new k b c0) (createS S k o) (c.kill1 k) u := by
  have cell : ∀ c : AV, CRep P w g S c u → HRep1 P w' (g.new k b c0) (createS S k o) (c.killCell k) u := fun c h => HRep1.of_cell (h.create hx hM hne)
  cases c with
  | agg cs =>
    obtain ⟨vs, rfl, hl, hr⟩ := h
    refine ⟨vs, rfl, by simpa using hl, fun i c u h1 h2 => ?_⟩
    simp only [List.getElem?_map, Option.map_eq_some_iff] at h1
    obtain ⟨c', h1, rfl⟩ := h1
    exact ⟨(hr i c' u h1 h2).1.create hx hM hne, (hr i c' u h1 h2).2⟩
  | _ =>
    unfold HRep1 at h
    exact cell _ h

theorem HRep.create (hx : Ext w w') (hM : ∀ b o, g.M b o → b < w.heap.size) (hne : S ≠ []) {k b c0 : Nat} {o : Ob} {c : AV} {u : Value} (h : HRep P w g S c u) : HRep P w' (g.new k b c0) (createS S k o) (c.kill k) u := by
  cases c with
  | tup as =>
    obtain ⟨vs, rfl, hl, hr⟩ := h
    refine ⟨vs, rfl, by simpa using hl, fun i c u h1 h2 => ?_⟩
    simp only [List.getElem?_map, Option.map_eq_some_iff] at h1
    obtain ⟨c', h1, rfl⟩ := h1
    exact (hr i c' u h1 h2).create hx hM hne
  | agg cs =>
    have h' := HRep1.create (c := .agg cs) hx hM hne (k := k) (b := b) (c0 := c0) (o := o) h
    exact h'
  | _ =>
    unfold HRep HRep1 at h
    exact HRep.of_cell (CRep.create hx hM hne h)

/-- What a new object asks. -/
def NewOK (P : Program) (w' : World) (g : Gh) (S' : List Store) (b c0 : Nat) : Ob → Prop
  | .box cs => ∃ (vs : List Value) (t : TypeId), w'.heap[b]? = some (.cells vs.toArray t (0, 0)) ∧ CellsRep P w' g S' cs vs
  | .arr fz e xs => fz = false ∧ 0 < P.cellsOf e ∧ ∃ (cur us : List Value) (cap : Nat), w'.heap[b]? = some (.cells cur.toArray e (0, 0)) ∧ cur.length = c0 ∧ c0 = cap * P.cellsOf e ∧ cap ≤ maxLen ∧ xs.length ≤ cap ∧ RepL P w' g.M e xs us ∧ cur.take (xs.length * P.cellsOf e) = flat us

theorem SInv.createG (hi : SInv P w g may S) (hne : S ≠ []) (hx : Ext w w') {k b c0 : Nat} {o : Ob} (hmb : may b) (hnM : ∀ o, ¬ g.M b o) (hnB : ∀ i k o, getOb S i k = some o → o.loose = true → g.B i k ≠ b) (ho : NewOK P w' (g.new k b c0) (createS S k o) b c0 o) :
    SInv P w' (g.new k b c0) may (createS S k o) := by
  have hM := hi.mlt
  have hcell : ∀ b o, g.M b o → w'.cell? ⟨b, o, none⟩ = w.cell? ⟨b, o, none⟩ := fun b o h => hx.cell (hM b o h) o
  have old : ∀ i j o', getOb (createS S k o) i j = some o' → (i = 0 ∧ j = k ∧ o' = o) ∨ (¬ (i = 0 ∧ j = k) ∧ ∃ p, getOb S i j = some p ∧ o' = if i = 0 then p.kill k else p) := by
    intro i j o' h
    rw [getOb_createS hne] at h
    by_cases h0 : i = 0
    · subst h0
      rw [if_pos rfl] at h
      by_cases hj : j = k
      · subst hj; simp at h; exact .inl ⟨rfl, rfl, h.symm⟩
      · rw [if_neg hj] at h
        obtain ⟨p, hp, rfl⟩ := Option.map_eq_some_iff.1 h
        exact .inr ⟨by simp [hj], p, hp, by simp⟩
    · rw [if_neg h0] at h
      exact .inr ⟨by simp [h0], o', h, by simp [h0]⟩
  have hBo : ∀ i j, ¬ (i = 0 ∧ j = k) → (g.new k b c0).B i j = g.B i j := fun i j h => by simp [Gh.new, h]
  have hCo : ∀ i j, ¬ (i = 0 ∧ j = k) → (g.new k b c0).C i j = g.C i j := fun i j h => by simp [Gh.new, h]
  have hBn : (g.new k b c0).B 0 k = b := by simp [Gh.new]
  have hCn : (g.new k b c0).C 0 k = c0 := by simp [Gh.new]
  refine ⟨fun i j cs h => ?_, fun i j e xs h => ?_, fun i j e xs h => ?_, fun i j p i' j' p' h h' hl hl' he => ?_, fun b o h => Nat.lt_of_lt_of_le (hM b o h) hx.size⟩
  · rcases old i j _ h with ⟨rfl, rfl, rfl⟩ | ⟨hn, p, hp, hpo⟩
    · rw [hBn]
      obtain ⟨vs, t, hh, hc⟩ := ho
      exact ⟨hmb, hnM, vs, t, hh, hc.1, fun m c u h1 h2 => by rw [AV.shift_zero]; exact hc.2 m c u h1 h2⟩
    · rw [hBo i j hn]
      cases p with
      | arr fz e xs => split at hpo <;> simp [Ob.kill] at hpo
      | box ds =>
        obtain ⟨h1, h2, vs, t, h3, h4, h5⟩ := hi.box i j ds hp
        refine ⟨h1, h2, vs, t, by rw [hx.heap _ (lt_of_heap h3)]; exact h3, ?_, fun m c u hc hu => ?_⟩
        · split at hpo <;> simp [Ob.kill] at hpo <;> subst hpo <;> simpa using h4
        · by_cases h0 : i = 0
          · subst h0
            simp [Ob.kill] at hpo; subst hpo
            simp only [List.getElem?_map, Option.map_eq_some_iff] at hc
            obtain ⟨c', hc, rfl⟩ := hc
            have := h5 m c' u hc hu
            rw [AV.shift_zero] at this ⊢
            exact ⟨this.1.create hx hM hne, this.2⟩
          · rw [if_neg h0] at hpo
            simp at hpo; subst hpo
            have := h5 m c u hc hu
            refine ⟨CRep.keep (g := g) (g' := g.new k b c0) (S := S) (fun _ _ h => h) hcell (Kp.create hne k o b c0) ?_ this.1, this.2⟩
            have hf := AV.from_shift c i
            cases c <;> simp_all [AV.shift, AV.from] <;> omega
  · rcases old i j _ h with ⟨rfl, rfl, rfl⟩ | ⟨hn, p, hp, hpo⟩
    · rw [hBn, hCn]
      obtain ⟨_, he, cur, us, cap, h1, h2, h3, h4, h5, h6, h7⟩ := ho
      exact ⟨hmb, hnM, he, cur, us, cap, h1, h2, h3, h4, h5, h6, h7⟩
    · rw [hBo i j hn, hCo i j hn]
      cases p with
      | box ds => split at hpo <;> simp [Ob.kill] at hpo
      | arr fz e' xs' =>
        have : fz = false ∧ e' = e ∧ xs' = xs := by split at hpo <;> simp [Ob.kill] at hpo <;> first | exact ⟨hpo.1, hpo.2.1.symm, hpo.2.2.symm⟩ | exact ⟨hpo.1.symm, hpo.2.1.symm, hpo.2.2.symm⟩
        obtain ⟨rfl, rfl, rfl⟩ := this
        obtain ⟨h1, h2, he, cur, us, cap, h3, h4, h5, h6, h7, h8, h9⟩ := hi.arr i j _ _ hp
        exact ⟨h1, h2, he, cur, us, cap, by rw [hx.heap _ (lt_of_heap h3)]; exact h3, h4, h5, h6, h7, h8.mono (fun _ _ h => h) hcell, h9⟩
  · rcases old i j _ h with ⟨rfl, rfl, rfl⟩ | ⟨hn, p, hp, hpo⟩
    · exact absurd ho.1 (by simp)
    · rw [hBo i j hn]
      cases p with
      | box ds => split at hpo <;> simp [Ob.kill] at hpo
      | arr fz e' xs' =>
        have : fz = true ∧ e' = e ∧ xs' = xs := by split at hpo <;> simp [Ob.kill] at hpo <;> first | exact ⟨hpo.1, hpo.2.1.symm, hpo.2.2.symm⟩ | exact ⟨hpo.1.symm, hpo.2.1.symm, hpo.2.2.symm⟩
        obtain ⟨rfl, rfl, rfl⟩ := this
        obtain ⟨he, us, hr, hc⟩ := hi.fz i j _ _ hp
        exact ⟨he, us, hr.mono (fun _ _ h => h) hcell, fun m cv hm => ⟨(hcell _ _ (hc m cv hm).2).trans (hc m cv hm).1, (hc m cv hm).2⟩⟩
  · have loose : ∀ (i : Nat) (p : Ob), (if i = 0 then p.kill k else p).loose = p.loose := by
      intro i p; split
      · cases p <;> rfl
      · rfl
    rcases old i j _ h with ⟨rfl, rfl, rfl⟩ | ⟨hn, q, hq, rfl⟩
    · rcases old i' j' _ h' with ⟨rfl, rfl, rfl⟩ | ⟨hn', q', hq', rfl⟩
      · exact ⟨rfl, rfl⟩
      · rw [hBn, hBo i' j' hn'] at he
        rw [loose] at hl'
        exact absurd he.symm (hnB _ _ _ hq' hl')
    · rcases old i' j' _ h' with ⟨rfl, rfl, rfl⟩ | ⟨hn', q', hq', rfl⟩
      · rw [hBn, hBo i j hn] at he
        rw [loose] at hl
        exact absurd he (hnB _ _ _ hq hl)
      · rw [hBo i j hn, hBo i' j' hn'] at he
        rw [loose] at hl hl'
        exact hi.inj i j q i' j' q' hq hq' hl hl' he

theorem SInv.create (hi : SInv P w g may S) (hne : S ≠ []) (hx : Ext w w') (hm : ∀ b, w.heap.size ≤ b → may b) {k b c0 : Nat} {o : Ob} (hb : w.heap.size ≤ b) (ho : NewOK P w' (g.new k b c0) (createS S k o) b c0 o) :
    SInv P w' (g.new k b c0) may (createS S k o) :=
  hi.createG hne hx (hm b hb) (fun o h => by have := hi.mlt b o h; omega) (fun i j q hq hl he => by have := (hi.lt hq hl).1; omega) ho
end

section
variable {P : Program} {w w' : World} {g : Gh} {may : Nat → Prop} {s : St} {a : Act}

theorem createS_ne {S : List Store} (h : S ≠ []) (k : Nat) (o : Ob) : createS S k o ≠ [] := by
  cases S with
  | nil => exact absurd rfl h
  | cons t r => simp [createS]

theorem Sim.createG (hs : Sim P may s a w g) (hx : Ext w w') {k b c0 : Nat} {o : Ob} (hmb : may b) (hnM : ∀ o, ¬ g.M b o) (hnB : ∀ i k o, getOb s.stores i k = some o → o.loose = true → g.B i k ≠ b) (ho : NewOK P w' (g.new k b c0) (createS s.stores k o) b c0 o) :
    Sim P may (s.create k o) a w' (g.new k b c0) := by
  refine ⟨hs.inv.createG hs.ne hx hmb hnM hnB ho, by simpa [St.create] using hs.len, fun t x h => ?_, hs.defers, createS_ne hs.ne k o⟩
  simp only [St.create, List.getElem?_map, Option.map_eq_some_iff] at h
  obtain ⟨y, hy, rfl⟩ := h
  exact (hs.slots t y hy).create hx hs.inv.mlt hs.ne

theorem Sim.create (hs : Sim P may s a w g) (hx : Ext w w') (hm : ∀ b, w.heap.size ≤ b → may b) {k b c0 : Nat} {o : Ob} (hb : w.heap.size ≤ b) (ho : NewOK P w' (g.new k b c0) (createS s.stores k o) b c0 o) :
    Sim P may (s.create k o) a w' (g.new k b c0) := by
  refine ⟨hs.inv.create hs.ne hx hm hb ho, by simpa [St.create] using hs.len, fun t x h => ?_, hs.defers, createS_ne hs.ne k o⟩
  simp only [St.create, List.getElem?_map, Option.map_eq_some_iff] at h
  obtain ⟨y, hy, rfl⟩ := h
  exact (hs.slots t y hy).create hx hs.inv.mlt hs.ne

/-- What an operation leaves: a state that stands to frame and memory, and what it keeps. -/
def Leaves (P : Program) (may : Nat → Prop) (s : St) (w : World) (g : Gh) (s' : St) (a' : Act) (w' : World) : Prop :=
  ∃ g', Sim P may s' a' w' g' ∧ Fr may w g.M w' g'.M ∧ Kp 1 s.stores g s'.stores g'

theorem Leaves.same {a' : Act} {s' : St} (h : Sim P may s' a' w g) (hst : s'.stores = s.stores) : Leaves P may s w g s' a' w := ⟨g, h, Fr.refl _ _ _, by rw [hst]; exact Kp.refl _ _ _⟩

theorem fresh_sound (hs : Sim P may s a w g) (hm : ∀ b, w.heap.size ≤ b → may b) (hx : Ext w w') {s' : St} {d : Option Nat} {e : TypeId} {xs : List AV} {b cap : Nat} {cur us : List Value} (h : s.fresh d e xs = some s')
    (hb : w.heap.size ≤ b) (hh : w'.heap[b]? = some (.cells cur.toArray e (0, 0))) (he : 0 < P.cellsOf e) (hcur : cur.length = cap * P.cellsOf e) (hcap : cap ≤ maxLen) (hxc : xs.length ≤ cap)
    (hr : RepL P w g.M e xs us) (ht : cur.take (xs.length * P.cellsOf e) = flat us) : Leaves P may s w g s' (a.put d (.slice (some ⟨b, 0, none⟩) xs.length cap)) w' := by
  cases d with
  | none => simp [St.fresh] at h
  | some k =>
    simp only [St.fresh, Option.some.injEq] at h; subst h
    have hcell : ∀ b o, g.M b o → w'.cell? ⟨b, o, none⟩ = w.cell? ⟨b, o, none⟩ := fun b o h => hx.cell (hs.inv.mlt b o h) o
    have h1 : Sim P may (s.create k (.arr false e xs)) a w' (g.new k b (cap * P.cellsOf e)) :=
      hs.create hx hm hb ⟨rfl, he, cur, us, cap, hh, hcur, rfl, hcap, hxc, hr.mono (fun _ _ h => h) hcell, ht⟩
    refine ⟨_, h1.put (x := .arr 0 k e 0 xs.length xs.length) ?_ (some k), hx.fr hm hs.inv.mlt, Kp.create hs.ne k _ b _⟩
    refine ⟨false, xs, ?_, Nat.le_refl _, fun _ => ⟨by omega, _, cap, rfl, hxc, hcap, fun _ => by simp [Gh.new], fun _ => by simp [Gh.new]⟩, rfl⟩
    show getOb (createS s.stores k _) 0 k = _
    rw [getOb_createS hs.ne]; simp

theorem boxA_sound (hs : Sim P may s a w g) (hm : ∀ b, w.heap.size ≤ b → may b) {s' : St} {d : Option Nat} {e : TypeId} {x : AV} {v : Value} (hv : HRep P w g s.stores x v) (h : boxA P s d e x = some s') :
    Leaves P may s w g s' (a.put d (.pointer (some ⟨w.heap.size, 0, none⟩))) (w.alloc (.cells v.cells e)) := by
  unfold boxA at h
  split at h
  · rename_i k n hn
    split at h
    · rename_i hc
      simp only [Option.some.injEq] at h; subst h
      have hcr := hv.cellsRep hc.2
      have hx := Ext.alloc w (.cells v.cells e)
      have h1 : Sim P may (s.create k (.box (x.cells.map (AV.killCell k)))) a (w.alloc (.cells v.cells e)) (g.new k w.heap.size 0) := by
        refine hs.create hx hm (Nat.le_refl _) ⟨v.cells.toList, e, by simpa using heap_alloc_new w _, by simpa using hcr.1, fun i c u h1 h2 => ?_⟩
        simp only [List.getElem?_map, Option.map_eq_some_iff] at h1
        obtain ⟨c', h1, rfl⟩ := h1
        exact ⟨(hcr.2 i c' u h1 h2).1.create hx hs.inv.mlt hs.ne, (hcr.2 i c' u h1 h2).2⟩
      refine ⟨_, h1.put (x := .ref 0 k 0) ⟨⟨x.cells.map (AV.killCell k), ?_⟩, by simp [Gh.new]⟩ (some k), hx.fr hm hs.inv.mlt, Kp.create hs.ne k _ _ _⟩
      show getOb (createS s.stores k _) 0 k = _
      rw [getOb_createS hs.ne]; simp
    · cases h
  · cases h
end
end Go.AbsM
