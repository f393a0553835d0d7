/-
  Texts of a proof over the translated program: proved evaluators and walks, part 2 of 19.
-/
import Derived.Test.YtmpnelihfeiimaaPartP1
import Derived.Great.BuildSlice
import Derived.WalkKit
set_option linter.unusedVariables false
set_option linter.unusedSimpArgs false
set_option linter.unusedSectionVars false
set_option linter.unnecessarySimpa false
section
namespace Go.AbsM
section
variable {P : Program} {w : World} {g : Gh} {S : List Store}
theorem cells_of_one {v : Value} (h : v.oneCell' = true) : v.cells = #[v] := by cases v <;> simp_all [Value.cells, Value.oneCell']
theorem CRep.one {c : AV} {v : Value} (h : CRep P w g S c v) (hc : c.isCell = true) : v.oneCell' = true := by
  cases c <;> first
    | (simp [AV.isCell] at hc; done)
    | exact Rep.oneCell h rfl
    | skip
  · obtain ⟨fz, xs, _, _, _, h1⟩ := h; exact h1
  · obtain ⟨_, rfl⟩ := h; rfl
theorem HRep.cellsRep {a : AV} {v : Value} (h : HRep P w g S a v) (hc : a.cells.all AV.isCell = true) : CellsRep P w g S a.cells v.cells.toList := by
  have single : ∀ (a : AV), a.cells = [a] → CRep P w g S a v → a.isCell = true → CellsRep P w g S a.cells v.cells.toList := by
    intro a ha h hc
    have h1 := h.one hc
    rw [ha, cells_of_one h1]
    refine ⟨rfl, fun i c u h2 h3 => ?_⟩
    cases i with
    | zero => simp at h2 h3; subst h2; subst h3; exact ⟨h, h1⟩
    | succ i => simp at h2
  cases a with
  | agg cs =>
    obtain ⟨vs, rfl, hr⟩ := h.inv_agg
    simpa [AV.cells, Value.cells] using hr
  | tup => simp [AV.cells, AV.isCell] at hc
  | own => simp [AV.cells, AV.isCell] at hc
  | obj => simp [AV.cells, AV.isCell] at hc
  | efz => simp [AV.cells, AV.isCell] at hc
  | ear => simp [AV.cells, AV.isCell] at hc
  | und => simp [AV.cells, AV.isCell] at hc
  | dead => simp [AV.cells, AV.isCell] at hc
  | _ => exact single _ rfl h rfl
theorem layA_sound {cs ds es : List AV} {vs us : List Value} {off : Nat} (hc : CellsRep P w g S cs vs) (hd : CellsRep P w g S ds us) (h : layA cs off ds = some es) :
    off + us.length ≤ vs.length ∧ CellsRep P w g S es (vs.take off ++ (us ++ vs.drop (off + us.length))) := by
  unfold layA at h
  split at h
  · rename_i hl
    simp only [Option.some.injEq] at h; subst h
    refine ⟨by rw [hc.1, hd.1]; exact hl, (hc.take off).append (hd.append ?_)⟩
    rw [hd.1]
    exact hc.drop _
  · cases h
theorem foldl_lay (off : Nat) (us : List Value) (vs : List Value) (h : off + us.length ≤ vs.length) :
    (us.zipIdx.foldl (fun (cs : Array Value) (x : Value × Nat) => cs.setIfInBounds (off + x.2) x.1) vs.toArray) = (vs.take off ++ (us ++ vs.drop (off + us.length))).toArray := by
  obtain ⟨h1, h2⟩ := Great.foldl_set off us 0 vs.toArray
  apply Array.ext_getElem?
  intro k
  rw [h2 k]
  simp only [List.size_toArray, Nat.add_zero, List.getElem?_toArray]
  by_cases hk : off ≤ k
  · by_cases hk2 : k < off + us.length
    · rw [if_pos ⟨hk, hk2, by omega⟩, List.getElem?_append_right (by simp; omega), List.getElem?_append_left (by simp; omega)]
      congr 1; simp; omega
    · rw [if_neg (by omega), List.getElem?_append_right (by simp; omega), List.getElem?_append_right (by simp; omega), List.getElem?_drop]
      congr 1; simp; omega
  · rw [if_neg (by omega), List.getElem?_append_left (by simp; omega), List.getElem?_take, if_pos (by omega)]
def PartsRep (P : Program) (w : World) (g : Gh) (S : List Store) (l : List (Nat × AV)) (m : List (Nat × Value)) : Prop :=
  m.length = l.length ∧ ∀ (i : Nat) (x : Nat × AV) (y : Nat × Value), l[i]? = some x → m[i]? = some y → x.1 = y.1 ∧ HRep P w g S x.2 y.2
theorem fillA_sound {place : Nat → Option (Nat × Nat)} {l : List (Nat × AV)} {m : List (Nat × Value)} {cells cs : List AV} {vs : List Value} (hl : PartsRep P w g S l m) (hc : CellsRep P w g S cells vs) (h : fillA place cells l = some cs) :
    ∃ us : List Value, Instr.fill place vs.toArray m = some us.toArray ∧ CellsRep P w g S cs us := by
  induction l generalizing m cells vs with
  | nil =>
    have : m = [] := List.eq_nil_of_length_eq_zero hl.1
    subst this
    simp only [fillA, Option.some.injEq] at h; subst h
    exact ⟨vs, rfl, hc⟩
  | cons x r ih =>
    obtain ⟨i, a⟩ := x
    cases m with
    | nil => exact absurd hl.1 (by simp)
    | cons y m' =>
      obtain ⟨i', v⟩ := y
      obtain ⟨e1, hv⟩ := hl.2 0 _ _ rfl rfl
      simp only at e1 hv
      subst e1
      have hl' : PartsRep P w g S r m' := ⟨by simpa using hl.1, fun j x y hx hy => hl.2 (j + 1) x y (by simpa using hx) (by simpa using hy)⟩
      simp only [fillA] at h
      split at h
      · cases h
      · rename_i off size hp
        split at h
        · rename_i hsz
          split at h
          · rename_i cells' hla
            have hcr := hv.cellsRep hsz.2
            obtain ⟨hle, hcr'⟩ := layA_sound hc hcr hla
            have hvs : v.cells.size = size := by
              have := hcr.1
              simp only [Array.length_toList] at this
              rw [this, hsz.1]
            obtain ⟨us, hfill, hus⟩ := ih hl' hcr' h
            refine ⟨us, ?_, hus⟩
            simp only [Instr.fill, hp]
            have hno : ¬ ((v.cells.size ≠ size || decide (off + v.cells.size > vs.toArray.size)) = true) := by
              simp [hvs]
              simp at hle
              omega
            have hf := foldl_lay off v.cells.toList vs hle
            have hz : v.cells.zipIdx.foldl (fun (cs : Array Value) (x : Value × Nat) => cs.setIfInBounds (off + x.2) x.1) vs.toArray = (v.cells.toList.zipIdx).foldl (fun (cs : Array Value) (x : Value × Nat) => cs.setIfInBounds (off + x.2) x.1) vs.toArray := by
              rw [← Array.foldl_toList]
              simp
            simp only [ne_eq] at hno ⊢
            rw [if_neg (by simpa using hno)]
            have : (fun (cs : Array Value) (x : Value × Nat) => match x with | (c, j) => cs.setIfInBounds (off + j) c) = fun (cs : Array Value) (x : Value × Nat) => cs.setIfInBounds (off + x.2) x.1 := by
              funext cs x; rfl
            rw [this, hz, hf]
            exact hfill
          · cases h
        · cases h
theorem placesT_eq {fs : List Field} {l : List (Nat × Nat)} (h : placesT P fs = some l) : fs.mapM (fun f => (P.info? f.type).map fun i => (f.offset, i.size)) = some l := by
  induction fs generalizing l with
  | nil => simp [placesT] at h; subst h; rfl
  | cons f r ih =>
    simp only [placesT] at h
    split at h
    · rename_i n l' hn hl
      simp only [Option.some.injEq] at h; subst h
      obtain ⟨i, hi, rfl⟩ := Option.map_eq_some_iff.1 hn
      simp [List.mapM_cons, hi, ih hl]
    · cases h
theorem zeroT_some {t : TypeId} {z : AV} (h : zeroT P t = some z) : ∃ (i : TypeInfo) (v : Value), P.info? t = some i ∧ i.zero = some v ∧ constAV v = some z := by
  unfold zeroT at h
  cases hi : P.info? t with
  | none => simp [hi] at h
  | some i =>
    cases hz : i.zero with
    | none => simp [hi, hz] at h
    | some v => simp [hi, hz] at h; exact ⟨i, v, rfl, hz, h⟩
theorem constAV_cells {v : Value} {z : AV} (h : constAV v = some z) : CellsRep P w g S z.cells v.cells.toList ∧ z.cells.all AV.isVal = true := by
  have hr := constAV_rep (P := P) (w := w) h g.M
  obtain ⟨h1, h2, h3⟩ := hr.parts
  refine ⟨⟨h1, fun i c u hc hu => ⟨CRep.of_rep (h2 i c u hc hu) (h3 c (List.mem_of_getElem? hc)), (h2 i c u hc hu).oneCell (h3 c (List.mem_of_getElem? hc))⟩⟩, ?_⟩
  rw [List.all_eq_true]
  exact h3
theorem buildA_sound {s s' : St} (hS : S = s.stores) {d : Option Nat} {t : TypeId} {l : List (Nat × AV)} {m : Array (Nat × Value)} (hl : PartsRep P w g S l m.toList) (h : buildA P s d t l = some s') :
    ∃ cs v, s' = s.put d (.agg cs) ∧ (Instr.build t m).run P w = .ok v w ∧ HRep P w g S (.agg cs) v := by
  unfold buildA at h
  split at h
  · rename_i z fields hz hu
    split at h
    · rename_i places hp
      split at h
      · rename_i cs hf
        simp only [Option.some.injEq] at h; subst h
        obtain ⟨i, v, hi, hzv, hc⟩ := zeroT_some hz
        obtain ⟨us, hfill, hus⟩ := fillA_sound hl (constAV_cells (P := P) (w := w) (g := g) (S := S) hc).1 hf
        refine ⟨cs, .agg us.toArray, rfl, ?_, HRep.mk_agg hus⟩
        apply run_build
        simp only [Program.built, hi, hu, hzv, placesT_eq hp]
        simpa using hfill
      · cases h
    · cases h
  · rename_i z n e hz hu
    split at h
    · rename_i k hk
      split at h
      · rename_i cs hf
        simp only [Option.some.injEq] at h; subst h
        obtain ⟨i, v, hi, hzv, hc⟩ := zeroT_some hz
        obtain ⟨us, hfill, hus⟩ := fillA_sound hl (constAV_cells (P := P) (w := w) (g := g) (S := S) hc).1 hf
        obtain ⟨ie, hie, rfl⟩ := Option.map_eq_some_iff.1 hk
        refine ⟨cs, .agg us.toArray, rfl, ?_, HRep.mk_agg hus⟩
        apply run_build
        simp only [Program.built, hi, hu, hzv, hie]
        simpa using hfill
      · cases h
    · cases h
  · cases h
end
end Go.AbsM
end

section
namespace Go.AbsM
theorem AV.shift_zero (c : AV) : c.shift 0 = c := by cases c <;> rfl
structure Ext (w w' : World) : Prop where
  os : w'.os = w.os
  tape : w'.tape = w.tape
  output : w'.output = w.output
  size : w.heap.size ≤ w'.heap.size
  heap : ∀ b, b < w.heap.size → w'.heap[b]? = w.heap[b]?
theorem Below_heap_alloc (w : World) (o : Obj) (b : Nat) (h : b < w.heap.size) : (w.alloc o).heap[b]? = w.heap[b]? := Go.RowKit.Below.heap_alloc w o b h
theorem Ext.refl (w : World) : Ext w w := ⟨rfl, rfl, rfl, Nat.le_refl _, fun _ _ => rfl⟩
theorem Ext.alloc (w : World) (o : Obj) : Ext w (w.alloc o) := ⟨rfl, rfl, rfl, by simp, fun b hb => Below_heap_alloc w o b hb⟩
theorem Ext.drew (w : World) : Ext w w.drew := ⟨rfl, rfl, rfl, Nat.le_refl _, fun _ _ => rfl⟩
theorem Ext.trans {a b c : World} (h : Ext a b) (k : Ext b c) : Ext a c :=
  ⟨k.os.trans h.os, k.tape.trans h.tape, k.output.trans h.output, Nat.le_trans h.size k.size, fun n hn => (k.heap n (Nat.lt_of_lt_of_le hn h.size)).trans (h.heap n hn)⟩
theorem Ext.cell {w w' : World} (h : Ext w w') {b : Nat} (hb : b < w.heap.size) (o : Nat) : w'.cell? ⟨b, o, none⟩ = w.cell? ⟨b, o, none⟩ := World.cell?_of_block (w := w) (a := ⟨b, o, none⟩) (h.heap b hb)
theorem Ext.fr {w w' : World} (h : Ext w w') {may : Nat → Prop} {M : Nat → Nat → Prop} (hm : ∀ b, w.heap.size ≤ b → may b) (hM : ∀ b o, M b o → b < w.heap.size) : Fr may w M w' M :=
  ⟨h.os, h.tape, h.output, h.size, fun b hb => h.heap b (Nat.lt_of_not_le fun hh => hb (hm b hh)), fun _ _ h => h, fun b o hh => h.cell (hM b o hh) o, fun _ _ _ h => h⟩
theorem lt_of_heap {w : World} {b : Nat} {o : Obj} (h : w.heap[b]? = some o) : b < w.heap.size := (Array.getElem?_eq_some_iff.1 h).1
section
variable {P : Program} {w w' : World} {g : Gh} {may : Nat → Prop} {S : List Store}
theorem SInv.lt (hi : SInv P w g may S) {i k : Nat} {o : Ob} (h : getOb S i k = some o) (hl : o.loose = true) : g.B i k < w.heap.size ∧ may (g.B i k) ∧ ∀ j, ¬ g.M (g.B i k) j := by
  cases o with
  | box cs =>
    obtain ⟨h1, h2, vs, t, h3, _⟩ := hi.box i k cs h
    exact ⟨lt_of_heap h3, h1, h2⟩
  | arr fz e xs =>
    simp [Ob.loose] at hl; subst hl
    obtain ⟨h1, h2, _, cur, us, cap, h3, _⟩ := hi.arr i k e xs h
    exact ⟨lt_of_heap h3, h1, h2⟩
def Gh.new (g : Gh) (k b c : Nat) : Gh := { M := g.M, B := fun i j => if i = 0 ∧ j = k then b else g.B i j, C := fun i j => if i = 0 ∧ j = k then c else g.C i j }
def createS (S : List Store) (k : Nat) (o : Ob) : List Store := match S with
  | [] => []
  | t :: r => ((k, o) :: drop (killStore k t) k) :: r
theorem getOb_createS (hne : S ≠ []) (k : Nat) (o : Ob) (j m : Nat) : getOb (createS S k o) j m = if j = 0 then (if m = k then some o else (getOb S 0 m).map (Ob.kill k)) else getOb S j m := by
  cases S with
  | nil => exact absurd rfl hne
  | cons t r => exact getOb_create t r k o j m
theorem Kp.create (hne : S ≠ []) (k : Nat) (hk : k < 500000) (o : Ob) (b c : Nat) : Kp 1 S g (createS S k o) (g.new k b c) := by
  refine ⟨fun i j cs hi h => ?_, fun i j fz e xs hi h => ?_⟩
  · by_cases h0 : i = 0
    · subst h0
      have hj : j ≠ k := by omega
      rw [getOb_createS hne, if_pos rfl, if_neg hj, h]
      exact ⟨⟨_, rfl⟩, by simp [Gh.new, hj]⟩
    · rw [getOb_createS hne, if_neg h0]
      exact ⟨⟨cs, h⟩, by simp [Gh.new, h0]⟩
  · by_cases h0 : i = 0
    · subst h0
      have hj : j ≠ k := by omega
      rw [getOb_createS hne, if_pos rfl, if_neg hj, h]
      exact ⟨fz, xs, rfl, Nat.le_refl _, fun _ => ⟨by simp [Gh.new, hj], fun hf => ⟨hf, by simp [Gh.new, hj]⟩⟩⟩
    · rw [getOb_createS hne, if_neg h0]
      exact ⟨fz, xs, h, Nat.le_refl _, fun _ => ⟨by simp [Gh.new, h0], fun hf => ⟨hf, by simp [Gh.new, h0]⟩⟩⟩
theorem Kp0.create (hne : S ≠ []) (k : Nat) (o : Ob) (b c : Nat) : Kp0 1 S g (createS S k o) (g.new k b c) := by
  refine ⟨fun i j cs hi h => ?_, fun i j fz e xs hi h => ?_⟩
  · have h0 : i ≠ 0 := by omega
    rw [getOb_createS hne, if_neg h0]
    exact ⟨⟨cs, h⟩, by simp [Gh.new, h0]⟩
  · have h0 : i ≠ 0 := by omega
    rw [getOb_createS hne, if_neg h0]
    exact ⟨fz, xs, h, Nat.le_refl _, fun _ => ⟨by simp [Gh.new, h0], fun hf => ⟨hf, by simp [Gh.new, h0]⟩⟩⟩
theorem CRep.create (hx : Ext w w') (hM : ∀ b o, g.M b o → b < w.heap.size) (hne : S ≠ []) {k b c0 : Nat} {o : Ob} {c : AV} {u : Value} (h : CRep P w g S c u) : CRep P w' (g.new k b c0) (createS S k o) (c.killCell k) u := by
  have hcell : ∀ b o, g.M b o → w'.cell? ⟨b, o, none⟩ = w.cell? ⟨b, o, none⟩ := fun b o h => hx.cell (hM b o h) o
  have other : c.from 1 → c.killCell k = c → CRep P w' (g.new k b c0) (createS S k o) (c.killCell k) u := fun h1 h2 => by
    rw [h2]
    exact CRep.keep0 (g := g) (g' := g.new k b c0) (S := S) (fun _ _ h => h) hcell (Kp0.create hne k o b c0) h1 h
  cases c with
  | arr i j e lo n tot =>
    cases i with
    | zero =>
      simp only [AV.killCell]
      split
      · trivial
      · rename_i hj
        obtain ⟨fz, xs, hg, ht, hq, h1⟩ := h
        refine ⟨fz, xs, ?_, ht, fun hl => ?_, h1⟩
        · rw [getOb_createS hne, if_pos rfl, if_neg hj, hg]; rfl
        · obtain ⟨hln, A, c, rfl, hnc, hcm, hA, hC⟩ := hq hl
          refine ⟨hln, A, c, rfl, hnc, hcm, fun h3 => ?_, fun hf => ?_⟩
          · simp only [Gh.new, hj, and_false, if_false]; exact hA h3
          · simp only [Gh.new, hj, and_false, if_false]; exact hC hf
    | succ i => exact other (by simp [AV.from]) rfl
  | ref i j off =>
    cases i with
    | zero =>
      simp only [AV.killCell]
      split
      · trivial
      · rename_i hj
        obtain ⟨⟨cs, hg⟩, rfl⟩ := h
        refine ⟨⟨cs.map (AV.killCell k), ?_⟩, ?_⟩
        · rw [getOb_createS hne, if_pos rfl, if_neg hj, hg]; rfl
        · simp [Gh.new, hj]
    | succ i => exact other (by simp [AV.from]) rfl
  | ear i j e tot m off =>
    cases i with
    | zero =>
      simp only [AV.killCell]
      split
      · trivial
      · rename_i hj
        obtain ⟨fz, xs, hg, ht, hq⟩ := h
        refine ⟨fz, xs, ?_, ht, fun hl => ?_⟩
        · rw [getOb_createS hne, if_pos rfl, if_neg hj, hg]; rfl
        · simp only [Gh.new, hj, and_false, if_false]; exact hq hl
    | succ i => exact other (by simp [AV.from]) rfl
  | agg => exact h.elim
  | tup => exact h.elim
  | own => exact h.elim
  | obj => exact h.elim
  | _ => exact other (by simp [AV.from]) rfl
theorem HRep1.create (hx : Ext w w') (hM : ∀ b o, g.M b o → b < w.heap.size) (hne : S ≠ []) {k b c0 : Nat} {o : Ob} {c : AV} {u : Value} (h : HRep1 P w g S c u) : HRep1 P w' (g.new k b c0) (createS S k o) (c.kill1 k) u := by
  have cell : ∀ c : AV, CRep P w g S c u → HRep1 P w' (g.new k b c0) (createS S k o) (c.killCell k) u := fun c h => HRep1.of_cell (h.create hx hM hne)
  cases c with
  | agg cs =>
    obtain ⟨vs, rfl, hl, hr⟩ := h
    refine ⟨vs, rfl, by simpa using hl, fun i c u h1 h2 => ?_⟩
    simp only [List.getElem?_map, Option.map_eq_some_iff] at h1
    obtain ⟨c', h1, rfl⟩ := h1
    exact ⟨(hr i c' u h1 h2).1.create hx hM hne, (hr i c' u h1 h2).2⟩
  | _ =>
    unfold HRep1 at h
    exact cell _ h
theorem HRep.create (hx : Ext w w') (hM : ∀ b o, g.M b o → b < w.heap.size) (hne : S ≠ []) {k b c0 : Nat} {o : Ob} {c : AV} {u : Value} (h : HRep P w g S c u) : HRep P w' (g.new k b c0) (createS S k o) (c.kill k) u := by
  cases c with
  | tup as =>
    obtain ⟨vs, rfl, hl, hr⟩ := h
    refine ⟨vs, rfl, by simpa using hl, fun i c u h1 h2 => ?_⟩
    simp only [List.getElem?_map, Option.map_eq_some_iff] at h1
    obtain ⟨c', h1, rfl⟩ := h1
    exact (hr i c' u h1 h2).create hx hM hne
  | agg cs =>
    have h' := HRep1.create (c := .agg cs) hx hM hne (k := k) (b := b) (c0 := c0) (o := o) h
    exact h'
  | _ =>
    unfold HRep HRep1 at h
    exact HRep.of_cell (CRep.create hx hM hne h)
def NewOK (P : Program) (w' : World) (g : Gh) (S' : List Store) (b c0 : Nat) : Ob → Prop
  | .box cs => ∃ (vs : List Value) (t : TypeId), w'.heap[b]? = some (.cells vs.toArray t (0, 0)) ∧ CellsRep P w' g S' cs vs
  | .arr fz e xs => fz = false ∧ 0 < P.cellsOf e ∧ ∃ (cur us : List Value) (cap : Nat), w'.heap[b]? = some (.cells cur.toArray e (0, 0)) ∧ cur.length = c0 ∧ c0 = cap * P.cellsOf e ∧ cap ≤ maxLen ∧ xs.length ≤ cap ∧ RepL P w' g.M e xs us ∧ cur.take (xs.length * P.cellsOf e) = flat us
theorem SInv.createG (hi : SInv P w g may S) (hne : S ≠ []) (hx : Ext w w') {k b c0 : Nat} {o : Ob} (hmb : may b) (hnM : ∀ o, ¬ g.M b o) (hnB : ∀ i k o, getOb S i k = some o → o.loose = true → g.B i k ≠ b) (ho : NewOK P w' (g.new k b c0) (createS S k o) b c0 o) :
    SInv P w' (g.new k b c0) may (createS S k o) := by
  have hM := hi.mlt
  have hcell : ∀ b o, g.M b o → w'.cell? ⟨b, o, none⟩ = w.cell? ⟨b, o, none⟩ := fun b o h => hx.cell (hM b o h) o
  have old : ∀ i j o', getOb (createS S k o) i j = some o' → (i = 0 ∧ j = k ∧ o' = o) ∨ (¬ (i = 0 ∧ j = k) ∧ ∃ p, getOb S i j = some p ∧ o' = if i = 0 then p.kill k else p) := by
    intro i j o' h
    rw [getOb_createS hne] at h
    by_cases h0 : i = 0
    · subst h0
      rw [if_pos rfl] at h
      by_cases hj : j = k
      · subst hj; simp at h; exact .inl ⟨rfl, rfl, h.symm⟩
      · rw [if_neg hj] at h
        obtain ⟨p, hp, rfl⟩ := Option.map_eq_some_iff.1 h
        exact .inr ⟨by simp [hj], p, hp, by simp⟩
    · rw [if_neg h0] at h
      exact .inr ⟨by simp [h0], o', h, by simp [h0]⟩
  have hBo : ∀ i j, ¬ (i = 0 ∧ j = k) → (g.new k b c0).B i j = g.B i j := fun i j h => by simp [Gh.new, h]
  have hCo : ∀ i j, ¬ (i = 0 ∧ j = k) → (g.new k b c0).C i j = g.C i j := fun i j h => by simp [Gh.new, h]
  have hBn : (g.new k b c0).B 0 k = b := by simp [Gh.new]
  have hCn : (g.new k b c0).C 0 k = c0 := by simp [Gh.new]
  refine ⟨fun i j cs h => ?_, fun i j e xs h => ?_, fun i j e xs h => ?_, fun i j p i' j' p' h h' hl hl' he => ?_, fun b o h => Nat.lt_of_lt_of_le (hM b o h) hx.size⟩
  · rcases old i j _ h with ⟨rfl, rfl, rfl⟩ | ⟨hn, p, hp, hpo⟩
    · rw [hBn]
      obtain ⟨vs, t, hh, hc⟩ := ho
      exact ⟨hmb, hnM, vs, t, hh, hc.1, fun m c u h1 h2 => by rw [AV.shift_zero]; exact hc.2 m c u h1 h2⟩
    · rw [hBo i j hn]
      cases p with
      | arr fz e xs => split at hpo <;> simp [Ob.kill] at hpo
      | box ds =>
        obtain ⟨h1, h2, vs, t, h3, h4, h5⟩ := hi.box i j ds hp
        refine ⟨h1, h2, vs, t, by rw [hx.heap _ (lt_of_heap h3)]; exact h3, ?_, fun m c u hc hu => ?_⟩
        · split at hpo <;> simp [Ob.kill] at hpo <;> subst hpo <;> simpa using h4
        · by_cases h0 : i = 0
          · subst h0
            simp [Ob.kill] at hpo; subst hpo
            simp only [List.getElem?_map, Option.map_eq_some_iff] at hc
            obtain ⟨c', hc, rfl⟩ := hc
            have := h5 m c' u hc hu
            rw [AV.shift_zero] at this ⊢
            exact ⟨this.1.create hx hM hne, this.2⟩
          · rw [if_neg h0] at hpo
            simp at hpo; subst hpo
            have := h5 m c u hc hu
            refine ⟨CRep.keep0 (g := g) (g' := g.new k b c0) (S := S) (fun _ _ h => h) hcell (Kp0.create hne k o b c0) ?_ this.1, this.2⟩
            have hf := AV.from_shift c i
            cases c <;> simp_all [AV.shift, AV.from] <;> omega
  · rcases old i j _ h with ⟨rfl, rfl, rfl⟩ | ⟨hn, p, hp, hpo⟩
    · rw [hBn, hCn]
      obtain ⟨_, he, cur, us, cap, h1, h2, h3, h4, h5, h6, h7⟩ := ho
      exact ⟨hmb, hnM, he, cur, us, cap, h1, h2, h3, h4, h5, h6, h7⟩
    · rw [hBo i j hn, hCo i j hn]
      cases p with
      | box ds => split at hpo <;> simp [Ob.kill] at hpo
      | arr fz e' xs' =>
        have : fz = false ∧ e' = e ∧ xs' = xs := by split at hpo <;> simp [Ob.kill] at hpo <;> first | exact ⟨hpo.1, hpo.2.1.symm, hpo.2.2.symm⟩ | exact ⟨hpo.1.symm, hpo.2.1.symm, hpo.2.2.symm⟩
        obtain ⟨rfl, rfl, rfl⟩ := this
        obtain ⟨h1, h2, he, cur, us, cap, h3, h4, h5, h6, h7, h8, h9⟩ := hi.arr i j _ _ hp
        exact ⟨h1, h2, he, cur, us, cap, by rw [hx.heap _ (lt_of_heap h3)]; exact h3, h4, h5, h6, h7, h8.mono (fun _ _ h => h) hcell, h9⟩
  · rcases old i j _ h with ⟨rfl, rfl, rfl⟩ | ⟨hn, p, hp, hpo⟩
    · exact absurd ho.1 (by simp)
    · rw [hBo i j hn]
      cases p with
      | box ds => split at hpo <;> simp [Ob.kill] at hpo
      | arr fz e' xs' =>
        have : fz = true ∧ e' = e ∧ xs' = xs := by split at hpo <;> simp [Ob.kill] at hpo <;> first | exact ⟨hpo.1, hpo.2.1.symm, hpo.2.2.symm⟩ | exact ⟨hpo.1.symm, hpo.2.1.symm, hpo.2.2.symm⟩
        obtain ⟨rfl, rfl, rfl⟩ := this
        obtain ⟨he, us, hr, hc⟩ := hi.fz i j _ _ hp
        exact ⟨he, us, hr.mono (fun _ _ h => h) hcell, fun m cv hm => ⟨(hcell _ _ (hc m cv hm).2).trans (hc m cv hm).1, (hc m cv hm).2⟩⟩
  · have loose : ∀ (i : Nat) (p : Ob), (if i = 0 then p.kill k else p).loose = p.loose := by
      intro i p; split
      · cases p <;> rfl
      · rfl
    rcases old i j _ h with ⟨rfl, rfl, rfl⟩ | ⟨hn, q, hq, rfl⟩
    · rcases old i' j' _ h' with ⟨rfl, rfl, rfl⟩ | ⟨hn', q', hq', rfl⟩
      · exact ⟨rfl, rfl⟩
      · rw [hBn, hBo i' j' hn'] at he
        rw [loose] at hl'
        exact absurd he.symm (hnB _ _ _ hq' hl')
    · rcases old i' j' _ h' with ⟨rfl, rfl, rfl⟩ | ⟨hn', q', hq', rfl⟩
      · rw [hBn, hBo i j hn] at he
        rw [loose] at hl
        exact absurd he (hnB _ _ _ hq hl)
      · rw [hBo i j hn, hBo i' j' hn'] at he
        rw [loose] at hl hl'
        exact hi.inj i j q i' j' q' hq hq' hl hl' he
theorem SInv.create (hi : SInv P w g may S) (hne : S ≠ []) (hx : Ext w w') (hm : ∀ b, w.heap.size ≤ b → may b) {k b c0 : Nat} {o : Ob} (hb : w.heap.size ≤ b) (ho : NewOK P w' (g.new k b c0) (createS S k o) b c0 o) :
    SInv P w' (g.new k b c0) may (createS S k o) :=
  hi.createG hne hx (hm b hb) (fun o h => by have := hi.mlt b o h; omega) (fun i j q hq hl he => by have := (hi.lt hq hl).1; omega) ho
end
section
variable {P : Program} {w w' : World} {g : Gh} {may : Nat → Prop} {s : St} {a : Act}
theorem createS_ne {S : List Store} (h : S ≠ []) (k : Nat) (o : Ob) : createS S k o ≠ [] := by
  cases S with
  | nil => exact absurd rfl h
  | cons t r => simp [createS]
theorem Sim.createG (hs : Sim P may s a w g) (hx : Ext w w') {k b c0 : Nat} {o : Ob} (hmb : may b) (hnM : ∀ o, ¬ g.M b o) (hnB : ∀ i k o, getOb s.stores i k = some o → o.loose = true → g.B i k ≠ b) (ho : NewOK P w' (g.new k b c0) (createS s.stores k o) b c0 o) :
    Sim P may (s.create k o) a w' (g.new k b c0) := by
  refine ⟨hs.inv.createG hs.ne hx hmb hnM hnB ho, by simpa [St.create] using hs.len, fun t x h => ?_, hs.defers, createS_ne hs.ne k o⟩
  simp only [St.create, List.getElem?_map, Option.map_eq_some_iff] at h
  obtain ⟨y, hy, rfl⟩ := h
  exact (hs.slots t y hy).create hx hs.inv.mlt hs.ne
theorem Sim.create (hs : Sim P may s a w g) (hx : Ext w w') (hm : ∀ b, w.heap.size ≤ b → may b) {k b c0 : Nat} {o : Ob} (hb : w.heap.size ≤ b) (ho : NewOK P w' (g.new k b c0) (createS s.stores k o) b c0 o) :
    Sim P may (s.create k o) a w' (g.new k b c0) := by
  refine ⟨hs.inv.create hs.ne hx hm hb ho, by simpa [St.create] using hs.len, fun t x h => ?_, hs.defers, createS_ne hs.ne k o⟩
  simp only [St.create, List.getElem?_map, Option.map_eq_some_iff] at h
  obtain ⟨y, hy, rfl⟩ := h
  exact (hs.slots t y hy).create hx hs.inv.mlt hs.ne
def Leaves (P : Program) (may : Nat → Prop) (s : St) (w : World) (g : Gh) (s' : St) (a' : Act) (w' : World) : Prop :=
  ∃ g', Sim P may s' a' w' g' ∧ Fr may w g.M w' g'.M ∧ Kp 1 s.stores g s'.stores g'
theorem Leaves.same {a' : Act} {s' : St} (h : Sim P may s' a' w g) (hst : s'.stores = s.stores) : Leaves P may s w g s' a' w := ⟨g, h, Fr.refl _ _ _, by rw [hst]; exact Kp.refl _ _ _⟩
theorem fresh_sound (hs : Sim P may s a w g) (hm : ∀ b, w.heap.size ≤ b → may b) (hx : Ext w w') {s' : St} {d : Option Nat} {e : TypeId} {xs : List AV} {b cap : Nat} {cur us : List Value} (h : s.fresh d e xs = some s')
    (hb : w.heap.size ≤ b) (hh : w'.heap[b]? = some (.cells cur.toArray e (0, 0))) (he : 0 < P.cellsOf e) (hcur : cur.length = cap * P.cellsOf e) (hcap : cap ≤ maxLen) (hxc : xs.length ≤ cap)
    (hr : RepL P w g.M e xs us) (ht : cur.take (xs.length * P.cellsOf e) = flat us) : Leaves P may s w g s' (a.put d (.slice (some ⟨b, 0, none⟩) xs.length cap)) w' := by
  cases d with
  | none => simp [St.fresh] at h
  | some k =>
    simp only [St.fresh] at h
    split at h
    case isFalse => cases h
    rename_i hk
    simp only [Option.some.injEq] at h; subst h
    have hcell : ∀ b o, g.M b o → w'.cell? ⟨b, o, none⟩ = w.cell? ⟨b, o, none⟩ := fun b o h => hx.cell (hs.inv.mlt b o h) o
    have h1 : Sim P may (s.create k (.arr false e xs)) a w' (g.new k b (cap * P.cellsOf e)) :=
      hs.create hx hm hb ⟨rfl, he, cur, us, cap, hh, hcur, rfl, hcap, hxc, hr.mono (fun _ _ h => h) hcell, ht⟩
    refine ⟨_, h1.put (x := .arr 0 k e 0 xs.length xs.length) ?_ (some k), hx.fr hm hs.inv.mlt, Kp.create hs.ne k hk _ b _⟩
    refine ⟨false, xs, ?_, Nat.le_refl _, fun _ => ⟨by omega, _, cap, rfl, hxc, hcap, fun _ => by simp [Gh.new], fun _ => by simp [Gh.new]⟩, rfl⟩
    show getOb (createS s.stores k _) 0 k = _
    rw [getOb_createS hs.ne]; simp
theorem boxA_sound (hs : Sim P may s a w g) (hm : ∀ b, w.heap.size ≤ b → may b) {s' : St} {d : Option Nat} {e : TypeId} {x : AV} {v : Value} (hv : HRep P w g s.stores x v) (h : boxA P s d e x = some s') :
    Leaves P may s w g s' (a.put d (.pointer (some ⟨w.heap.size, 0, none⟩))) (w.alloc (.cells v.cells e)) := by
  unfold boxA at h
  split at h
  · rename_i k n hn
    split at h
    · rename_i hc0
      obtain ⟨hc, hk⟩ := hc0
      simp only [Option.some.injEq] at h; subst h
      have hcr := hv.cellsRep hc.2
      have hx := Ext.alloc w (.cells v.cells e)
      have h1 : Sim P may (s.create k (.box (x.cells.map (AV.killCell k)))) a (w.alloc (.cells v.cells e)) (g.new k w.heap.size 0) := by
        refine hs.create hx hm (Nat.le_refl _) ⟨v.cells.toList, e, by simpa using heap_alloc_new w _, by simpa using hcr.1, fun i c u h1 h2 => ?_⟩
        simp only [List.getElem?_map, Option.map_eq_some_iff] at h1
        obtain ⟨c', h1, rfl⟩ := h1
        exact ⟨(hcr.2 i c' u h1 h2).1.create hx hs.inv.mlt hs.ne, (hcr.2 i c' u h1 h2).2⟩
      refine ⟨_, h1.put (x := .ref 0 k 0) ⟨⟨x.cells.map (AV.killCell k), ?_⟩, by simp [Gh.new]⟩ (some k), hx.fr hm hs.inv.mlt, Kp.create hs.ne k hk _ _ _⟩
      show getOb (createS s.stores k _) 0 k = _
      rw [getOb_createS hs.ne]; simp
    · cases h
  · cases h
end
end Go.AbsM
end

section
namespace Go.AbsM
structure Chg (B0 : Nat) (w w' : World) : Prop where
  os : w'.os = w.os
  tape : w'.tape = w.tape
  output : w'.output = w.output
  size : w.heap.size ≤ w'.heap.size
  heap : ∀ b, b < w.heap.size → b ≠ B0 → w'.heap[b]? = w.heap[b]?
theorem Chg.setRow (w : World) (b : Nat) (cs : Array Value) : Chg b w (w.setRow b cs) := ⟨rfl, rfl, rfl, by simp, fun k _ hk => setRow_other w b k cs hk⟩
theorem Chg.of_ext {B0 : Nat} {w w' : World} (h : Ext w w') : Chg B0 w w' := ⟨h.os, h.tape, h.output, h.size, fun b hb _ => h.heap b hb⟩
def Gh.at (g : Gh) (i k b c : Nat) : Gh := { M := g.M, B := fun i' j => if i' = i ∧ j = k then b else g.B i' j, C := fun i' j => if i' = i ∧ j = k then c else g.C i' j }
section
variable {P : Program} {w w' : World} {g : Gh} {may : Nat → Prop} {S : List Store}
theorem Chg.fr (hi : SInv P w g may S) (hm : ∀ b, w.heap.size ≤ b → may b) {B0 : Nat} (hc : Chg B0 w w') (hB : may B0) (hM : ∀ o, ¬ g.M B0 o) : Fr may w g.M w' g.M := by
  have hcell : ∀ b o, g.M b o → w'.heap[b]? = w.heap[b]? := fun b o h => hc.heap b (hi.mlt b o h) fun e => hM o (e ▸ h)
  exact ⟨hc.os, hc.tape, hc.output, hc.size, fun b hb => hc.heap b (Nat.lt_of_not_le fun hh => hb (hm b hh)) fun e => hb (e ▸ hB), fun _ _ h => h, fun b o h => World.cell?_of_block (w := w) (a := ⟨b, o, none⟩) (hcell b o h), fun _ _ _ h => h⟩
theorem SInv.setArr (hi : SInv P w g may S) (hm : ∀ b, w.heap.size ≤ b → may b) {i k : Nat} {e : TypeId} {xs xs' : List AV} (hg : getOb S i k = some (.arr false e xs)) {b c0 : Nat} (hc : Chg (g.B i k) w w')
    (hlen : xs.length ≤ xs'.length) (hbb : (b = g.B i k ∧ c0 = g.C i k) ∨ (w.heap.size ≤ b ∧ xs.length < xs'.length))
    (hnew : ∃ (cur us : List Value) (cap : Nat), w'.heap[b]? = some (.cells cur.toArray e (0, 0)) ∧ cur.length = c0 ∧ c0 = cap * P.cellsOf e ∧ cap ≤ maxLen ∧ xs'.length ≤ cap ∧ RepL P w' g.M e xs' us ∧ cur.take (xs'.length * P.cellsOf e) = flat us) :
    SInv P w' (g.at i k b c0) may (setOb S i k (.arr false e xs')) ∧ Kp 0 S g (setOb S i k (.arr false e xs')) (g.at i k b c0) ∧ Fr may w g.M w' (g.at i k b c0).M := by
  have hlt := hi.lt hg rfl
  have hfr : Fr may w g.M w' g.M := hc.fr hi hm hlt.2.1 hlt.2.2
  have hkp : Kp 0 S g (setOb S i k (.arr false e xs')) (g.at i k b c0) := by
    refine ⟨fun i' k' cs _ h => ?_, fun i' k' fz e' ys _ h => ?_⟩
    · have hn : ¬ (i' = i ∧ k' = k) := by rintro ⟨rfl, rfl⟩; rw [hg] at h; cases h
      rw [getOb_set, if_neg hn]
      exact ⟨⟨cs, h⟩, by simp [Gh.at, hn]⟩
    · by_cases hn : i' = i ∧ k' = k
      · obtain ⟨rfl, rfl⟩ := hn
        rw [hg] at h
        simp only [Option.some.injEq, Ob.arr.injEq] at h
        obtain ⟨rfl, rfl, rfl⟩ := h
        refine ⟨false, xs', by rw [getOb_set]; simp [hg], hlen, fun he => ?_⟩
        rcases hbb with ⟨rfl, rfl⟩ | ⟨_, hh⟩
        · exact ⟨by simp [Gh.at], fun _ => ⟨rfl, by simp [Gh.at]⟩⟩
        · omega
      · rw [getOb_set, if_neg hn]
        exact ⟨fz, ys, h, Nat.le_refl _, fun _ => ⟨by simp [Gh.at, hn], fun hf => ⟨hf, by simp [Gh.at, hn]⟩⟩⟩
  refine ⟨?_, hkp, hfr⟩
  have old : ∀ i' k' o', getOb (setOb S i k (.arr false e xs')) i' k' = some o' → (i' = i ∧ k' = k ∧ o' = .arr false e xs') ∨ (¬ (i' = i ∧ k' = k) ∧ getOb S i' k' = some o') := by
    intro i' k' o' h
    rw [getOb_set] at h
    by_cases hn : i' = i ∧ k' = k
    · rw [if_pos hn, hg] at h
      simp at h
      exact .inl ⟨hn.1, hn.2, h.symm⟩
    · rw [if_neg hn] at h
      exact .inr ⟨hn, h⟩
  have hBo : ∀ i' j, ¬ (i' = i ∧ j = k) → (g.at i k b c0).B i' j = g.B i' j := fun i' j h => by simp [Gh.at, h]
  have hCo : ∀ i' j, ¬ (i' = i ∧ j = k) → (g.at i k b c0).C i' j = g.C i' j := fun i' j h => by simp [Gh.at, h]
  have hBn : (g.at i k b c0).B i k = b := by simp [Gh.at]
  have hCn : (g.at i k b c0).C i k = c0 := by simp [Gh.at]
  have hmb : may b := by
    rcases hbb with ⟨rfl, _⟩ | ⟨hh, _⟩
    · exact hlt.2.1
    · exact hm b hh
  have hnM : ∀ o, ¬ g.M b o := by
    rcases hbb with ⟨rfl, _⟩ | ⟨hh, _⟩
    · exact hlt.2.2
    · intro o h; have := hi.mlt b o h; omega
  have heapo : ∀ i' k' o', ¬ (i' = i ∧ k' = k) → getOb S i' k' = some o' → o'.loose = true → w'.heap[g.B i' k']? = w.heap[g.B i' k']? := fun i' k' o' hn h hl =>
    hc.heap _ (hi.lt h hl).1 fun he => hn (hi.inj i' k' o' i k _ h hg hl rfl he)
  refine ⟨fun i' k' cs h => ?_, fun i' k' e' ys h => ?_, fun i' k' e' ys h => ?_, fun i1 k1 o1 i2 k2 o2 h1 h2 hl1 hl2 he => ?_, fun b o h => Nat.lt_of_lt_of_le (hi.mlt b o h) hc.size⟩
  · rcases old i' k' _ h with ⟨_, _, hh⟩ | ⟨hn, h⟩
    · cases hh
    · rw [hBo i' k' hn]
      obtain ⟨h1, h2, vs, t, h3, h4, h5⟩ := hi.box i' k' cs h
      exact ⟨h1, h2, vs, t, by rw [heapo i' k' _ hn h rfl]; exact h3, h4, fun j c u hc' hu => ⟨CRep.keep (g := g) (g' := g.at i k b c0) (S := S) hfr.sub hfr.cell hkp (AV.from_zero _) (h5 j c u hc' hu).1, (h5 j c u hc' hu).2⟩⟩
  · rcases old i' k' _ h with ⟨rfl, rfl, hh⟩ | ⟨hn, h⟩
    · cases hh
      rw [hBn, hCn]
      obtain ⟨_, _, he, _⟩ := hi.arr _ _ e xs hg
      obtain ⟨cur, us, cap, h1, h2, h3, h4, h5, h6, h7⟩ := hnew
      exact ⟨hmb, hnM, he, cur, us, cap, h1, h2, h3, h4, h5, h6, h7⟩
    · rw [hBo i' k' hn, hCo i' k' hn]
      obtain ⟨h1, h2, he, cur, us, cap, h3, h4, h5, h6, h7, h8, h9⟩ := hi.arr i' k' _ _ h
      exact ⟨h1, h2, he, cur, us, cap, by rw [heapo i' k' _ hn h rfl]; exact h3, h4, h5, h6, h7, h8.mono hfr.sub hfr.cell, h9⟩
  · rcases old i' k' _ h with ⟨_, _, hh⟩ | ⟨hn, h⟩
    · cases hh
    · rw [hBo i' k' hn]
      obtain ⟨he, us, hr, hcl⟩ := hi.fz i' k' _ _ h
      exact ⟨he, us, hr.mono hfr.sub hfr.cell, fun m cv hm => ⟨(hfr.cell _ _ (hcl m cv hm).2).trans (hcl m cv hm).1, (hcl m cv hm).2⟩⟩
  · rcases old i1 k1 _ h1 with ⟨rfl, rfl, rfl⟩ | ⟨hn1, q1⟩
    · rcases old i2 k2 _ h2 with ⟨rfl, rfl, rfl⟩ | ⟨hn2, q2⟩
      · exact ⟨rfl, rfl⟩
      · rw [hBn, hBo i2 k2 hn2] at he
        rcases hbb with ⟨rfl, _⟩ | ⟨hh, _⟩
        · have := hi.inj _ _ _ i2 k2 o2 hg q2 rfl hl2 he
          exact absurd ⟨this.1.symm, this.2.symm⟩ hn2
        · have := (hi.lt q2 hl2).1; omega
    · rcases old i2 k2 _ h2 with ⟨rfl, rfl, rfl⟩ | ⟨hn2, q2⟩
      · rw [hBn, hBo i1 k1 hn1] at he
        rcases hbb with ⟨rfl, _⟩ | ⟨hh, _⟩
        · exact absurd (hi.inj i1 k1 o1 _ _ _ q1 hg hl1 rfl he) hn1
        · have := (hi.lt q1 hl1).1; omega
      · rw [hBo i1 k1 hn1, hBo i2 k2 hn2] at he
        exact hi.inj i1 k1 o1 i2 k2 o2 q1 q2 hl1 hl2 he
theorem SInv.setBox (hi : SInv P w g may S) (hm : ∀ b, w.heap.size ≤ b → may b) {i k : Nat} {cs ds : List AV} (hg : getOb S i k = some (.box cs)) (hc : Chg (g.B i k) w w')
    (hnew : ∃ (vs : List Value) (t : TypeId), w'.heap[g.B i k]? = some (.cells vs.toArray t (0, 0)) ∧ vs.length = ds.length ∧ ∀ (j : Nat) (c : AV) (u : Value), ds[j]? = some c → vs[j]? = some u → CRep P w g S (c.shift i) u ∧ u.oneCell' = true) :
    SInv P w' g may (setOb S i k (.box ds)) ∧ Kp 0 S g (setOb S i k (.box ds)) g ∧ Fr may w g.M w' g.M := by
  have hlt := hi.lt hg rfl
  have hfr : Fr may w g.M w' g.M := hc.fr hi hm hlt.2.1 hlt.2.2
  have hkp : Kp 0 S g (setOb S i k (.box ds)) g := by
    refine ⟨fun i' k' cs' _ h => ?_, fun i' k' fz e' ys _ h => ?_⟩
    · by_cases hn : i' = i ∧ k' = k
      · obtain ⟨rfl, rfl⟩ := hn
        exact ⟨⟨ds, by rw [getOb_set]; simp [hg]⟩, rfl⟩
      · exact ⟨⟨cs', by rw [getOb_set, if_neg hn]; exact h⟩, rfl⟩
    · have hn : ¬ (i' = i ∧ k' = k) := by rintro ⟨rfl, rfl⟩; rw [hg] at h; cases h
      rw [getOb_set, if_neg hn]
      exact ⟨fz, ys, h, Nat.le_refl _, fun _ => ⟨rfl, fun hf => ⟨hf, rfl⟩⟩⟩
  refine ⟨?_, hkp, hfr⟩
  have old : ∀ i' k' o', getOb (setOb S i k (.box ds)) i' k' = some o' → (i' = i ∧ k' = k ∧ o' = .box ds) ∨ (¬ (i' = i ∧ k' = k) ∧ getOb S i' k' = some o') := by
    intro i' k' o' h
    rw [getOb_set] at h
    by_cases hn : i' = i ∧ k' = k
    · rw [if_pos hn, hg] at h
      simp at h
      exact .inl ⟨hn.1, hn.2, h.symm⟩
    · rw [if_neg hn] at h
      exact .inr ⟨hn, h⟩
  have heapo : ∀ i' k' o', ¬ (i' = i ∧ k' = k) → getOb S i' k' = some o' → o'.loose = true → w'.heap[g.B i' k']? = w.heap[g.B i' k']? := fun i' k' o' hn h hl =>
    hc.heap _ (hi.lt h hl).1 fun he => hn (hi.inj i' k' o' i k _ h hg hl rfl he)
  refine ⟨fun i' k' cs' h => ?_, fun i' k' e' ys h => ?_, fun i' k' e' ys h => ?_, fun i1 k1 o1 i2 k2 o2 h1 h2 hl1 hl2 he => ?_, fun b o h => Nat.lt_of_lt_of_le (hi.mlt b o h) hc.size⟩
  · rcases old i' k' _ h with ⟨rfl, rfl, hh⟩ | ⟨hn, h⟩
    · cases hh
      obtain ⟨vs, t, h1, h2, h3⟩ := hnew
      exact ⟨hlt.2.1, hlt.2.2, vs, t, h1, h2, fun j c u hc' hu => ⟨(h3 j c u hc' hu).1.keep hfr.sub hfr.cell hkp (AV.from_zero _), (h3 j c u hc' hu).2⟩⟩
    · obtain ⟨h1, h2, vs, t, h3, h4, h5⟩ := hi.box i' k' _ h
      exact ⟨h1, h2, vs, t, by rw [heapo i' k' _ hn h rfl]; exact h3, h4, fun j c u hc' hu => ⟨(h5 j c u hc' hu).1.keep hfr.sub hfr.cell hkp (AV.from_zero _), (h5 j c u hc' hu).2⟩⟩
  · rcases old i' k' _ h with ⟨_, _, hh⟩ | ⟨hn, h⟩
    · cases hh
    · obtain ⟨h1, h2, he, cur, us, cap, h3, h4, h5, h6, h7, h8, h9⟩ := hi.arr i' k' _ _ h
      exact ⟨h1, h2, he, cur, us, cap, by rw [heapo i' k' _ hn h rfl]; exact h3, h4, h5, h6, h7, h8.mono hfr.sub hfr.cell, h9⟩
  · rcases old i' k' _ h with ⟨_, _, hh⟩ | ⟨hn, h⟩
    · cases hh
    · obtain ⟨he, us, hr, hcl⟩ := hi.fz i' k' _ _ h
      exact ⟨he, us, hr.mono hfr.sub hfr.cell, fun m cv hm => ⟨(hfr.cell _ _ (hcl m cv hm).2).trans (hcl m cv hm).1, (hcl m cv hm).2⟩⟩
  · rcases old i1 k1 _ h1 with ⟨rfl, rfl, rfl⟩ | ⟨hn1, q1⟩
    · rcases old i2 k2 _ h2 with ⟨rfl, rfl, rfl⟩ | ⟨hn2, q2⟩
      · exact ⟨rfl, rfl⟩
      · have := hi.inj _ _ _ i2 k2 o2 hg q2 rfl hl2 he
        exact absurd ⟨this.1.symm, this.2.symm⟩ hn2
    · rcases old i2 k2 _ h2 with ⟨rfl, rfl, rfl⟩ | ⟨hn2, q2⟩
      · exact absurd (hi.inj i1 k1 o1 _ _ _ q1 hg hl1 rfl he) hn1
      · exact hi.inj i1 k1 o1 i2 k2 o2 q1 q2 hl1 hl2 he
def Gh.fz (g : Gh) (b n : Nat) : Gh := { g with M := fun b' o => g.M b' o ∨ (b' = b ∧ o < n) }
theorem SInv.setFz (hi : SInv P w g may S) {i k : Nat} {e : TypeId} {xs : List AV} (hg : getOb S i k = some (.arr false e xs)) :
    SInv P w (g.fz (g.B i k) (xs.length * P.cellsOf e)) may (setOb S i k (.arr true e xs)) ∧ Kp 0 S g (setOb S i k (.arr true e xs)) (g.fz (g.B i k) (xs.length * P.cellsOf e)) ∧ Fr may w g.M w (g.fz (g.B i k) (xs.length * P.cellsOf e)).M := by
  have hlt := hi.lt hg rfl
  have hfr : Fr may w g.M w (g.fz (g.B i k) (xs.length * P.cellsOf e)).M :=
    ⟨rfl, rfl, rfl, Nat.le_refl _, fun _ _ => rfl, fun _ _ h => .inl h, fun _ _ _ => rfl, fun b o hb h => h.elim id fun h => absurd hlt.2.1 (h.1 ▸ hb)⟩
  have hkp : Kp 0 S g (setOb S i k (.arr true e xs)) (g.fz (g.B i k) (xs.length * P.cellsOf e)) := by
    refine ⟨fun i' k' cs' _ h => ?_, fun i' k' fz e' ys _ h => ?_⟩
    · have hn : ¬ (i' = i ∧ k' = k) := by rintro ⟨rfl, rfl⟩; rw [hg] at h; cases h
      exact ⟨⟨cs', by rw [getOb_set, if_neg hn]; exact h⟩, rfl⟩
    · by_cases hn : i' = i ∧ k' = k
      · obtain ⟨rfl, rfl⟩ := hn
        rw [hg] at h
        simp only [Option.some.injEq, Ob.arr.injEq] at h
        obtain ⟨rfl, rfl, rfl⟩ := h
        exact ⟨true, xs, by rw [getOb_set]; simp [hg], Nat.le_refl _, fun _ => ⟨rfl, fun h => by cases h⟩⟩
      · rw [getOb_set, if_neg hn]
        exact ⟨fz, ys, h, Nat.le_refl _, fun _ => ⟨rfl, fun hf => ⟨hf, rfl⟩⟩⟩
  refine ⟨?_, hkp, hfr⟩
  have old : ∀ i' k' o', getOb (setOb S i k (.arr true e xs)) i' k' = some o' → (i' = i ∧ k' = k ∧ o' = .arr true e xs) ∨ (¬ (i' = i ∧ k' = k) ∧ getOb S i' k' = some o') := by
    intro i' k' o' h
    rw [getOb_set] at h
    by_cases hn : i' = i ∧ k' = k
    · rw [if_pos hn, hg] at h
      simp at h
      exact .inl ⟨hn.1, hn.2, h.symm⟩
    · rw [if_neg hn] at h
      exact .inr ⟨hn, h⟩
  have hMo : ∀ i' k' o', ¬ (i' = i ∧ k' = k) → getOb S i' k' = some o' → o'.loose = true → ∀ j, ¬ (g.fz (g.B i k) (xs.length * P.cellsOf e)).M (g.B i' k') j := fun i' k' o' hn h hl j hh =>
    hh.elim ((hi.lt h hl).2.2 j) fun hh => hn (hi.inj i' k' o' i k _ h hg hl rfl hh.1)
  refine ⟨fun i' k' cs' h => ?_, fun i' k' e' ys h => ?_, fun i' k' e' ys h => ?_, fun i1 k1 o1 i2 k2 o2 h1 h2 hl1 hl2 he => ?_, fun b o h => h.elim (hi.mlt b o) fun h => h.1 ▸ hlt.1⟩
  · rcases old i' k' _ h with ⟨_, _, hh⟩ | ⟨hn, h⟩
    · cases hh
    · obtain ⟨h1, h2, vs, t, h3, h4, h5⟩ := hi.box i' k' _ h
      exact ⟨h1, hMo i' k' _ hn h rfl, vs, t, h3, h4, fun j c u hc' hu => ⟨(h5 j c u hc' hu).1.keep hfr.sub hfr.cell hkp (AV.from_zero _), (h5 j c u hc' hu).2⟩⟩
  · rcases old i' k' _ h with ⟨_, _, hh⟩ | ⟨hn, h⟩
    · cases hh
    · obtain ⟨h1, h2, he, cur, us, cap, h3, h4, h5, h6, h7, h8, h9⟩ := hi.arr i' k' _ _ h
      exact ⟨h1, hMo i' k' _ hn h rfl, he, cur, us, cap, h3, h4, h5, h6, h7, h8.mono hfr.sub hfr.cell, h9⟩
  · rcases old i' k' _ h with ⟨rfl, rfl, hh⟩ | ⟨hn, h⟩
    · cases hh
      obtain ⟨_, _, he, cur, us, cap, h3, h4, h5, h6, h7, h8, h9⟩ := hi.arr _ _ _ _ hg
      refine ⟨he, us, h8.mono hfr.sub hfr.cell, fun m cv hm => ?_⟩
      have hml : m < xs.length * P.cellsOf e := by
        have := (List.getElem?_eq_some_iff.1 hm).1
        rw [h8.len] at this; exact this
      refine ⟨?_, .inr ⟨rfl, hml⟩⟩
      rw [← h9, List.getElem?_take, if_pos hml] at hm
      show w.cell? ⟨g.B _ _, m, none⟩ = _
      rw [cell_of_row w _ m cur.toArray e (0, 0) h3]
      simpa using hm
    · obtain ⟨he, us, hr, hcl⟩ := hi.fz i' k' _ _ h
      exact ⟨he, us, hr.mono hfr.sub hfr.cell, fun m cv hm => ⟨(hcl m cv hm).1, .inl (hcl m cv hm).2⟩⟩
  · rcases old i1 k1 _ h1 with ⟨rfl, rfl, rfl⟩ | ⟨hn1, q1⟩
    · simp [Ob.loose] at hl1
    · rcases old i2 k2 _ h2 with ⟨rfl, rfl, rfl⟩ | ⟨hn2, q2⟩
      · simp [Ob.loose] at hl2
      · exact hi.inj i1 k1 o1 i2 k2 o2 q1 q2 hl1 hl2 he
end
end Go.AbsM
end

section
namespace Go.AbsM
section
variable {P : Program} {w w' : World} {g : Gh} {may : Nat → Prop} {s : St} {a : Act}
theorem leave_arr (hs : Sim P may s a w g) (hm : ∀ b, w.heap.size ≤ b → may b) {i k : Nat} {e : TypeId} {xs xs' : List AV} (hg : getOb s.stores i k = some (.arr false e xs)) {b c0 : Nat} (hc : Chg (g.B i k) w w')
    (hlen : xs.length ≤ xs'.length) (hbb : (b = g.B i k ∧ c0 = g.C i k) ∨ (w.heap.size ≤ b ∧ xs.length < xs'.length))
    (hnew : ∃ (cur us : List Value) (cap : Nat), w'.heap[b]? = some (.cells cur.toArray e (0, 0)) ∧ cur.length = c0 ∧ c0 = cap * P.cellsOf e ∧ cap ≤ maxLen ∧ xs'.length ≤ cap ∧ RepL P w' g.M e xs' us ∧ cur.take (xs'.length * P.cellsOf e) = flat us)
    {d : Option Nat} {x : AV} {v : Value} (hx : HRep P w' (g.at i k b c0) (setOb s.stores i k (.arr false e xs')) x v) :
    Leaves P may s w g (St.put { s with stores := setOb s.stores i k (.arr false e xs') } d x) (a.put d v) w' := by
  obtain ⟨h1, h2, h3⟩ := hs.inv.setArr hm hg hc hlen hbb hnew
  have hsim : Sim P may { s with stores := setOb s.stores i k (.arr false e xs') } a w' (g.at i k b c0) := hs.keep h3.sub h3.cell h2 h1 (setOb_ne hs.ne _ _ _)
  refine ⟨_, hsim.put hx d, h3, ?_⟩
  have : (St.put { s with stores := setOb s.stores i k (.arr false e xs') } d x).stores = setOb s.stores i k (.arr false e xs') := by cases d <;> rfl
  rw [this]
  exact h2.mono (by omega)
theorem put_stores (s : St) (d : Option Nat) (x : AV) : (s.put d x).stores = s.stores := by cases d <;> rfl
theorem elemT_some {t e : TypeId} (h : elemT P t = some e) : P.underlying t = some (.slice e) := by
  unfold elemT at h
  split at h
  · simp only [Option.some.injEq] at h; subst h; assumption
  · cases h
def SrcT (P : Program) (t2 : TypeId) : Prop := (∃ e, P.underlying t2 = some (.slice e)) ∨ P.underlying t2 = some .string
theorem append_run_room {t t2 ty e : TypeId} {i : TypeInfo} {A : Option Addr} {n c m : Nat} {v : Value} {cells : Array Value} (hu : P.underlying t = some (.slice e)) (h2 : SrcT P t2) (hi : P.info? e = some i)
    (hl : (Builtin.lenOf v).run P w = .ok m w) (hf : (Builtin.firstCells i.size m v).run P w = .ok cells w) (hroom : n + m ≤ c) :
    (Builtin.append_ #[t, t2] ty #[.slice A n c, v]).run P w = match A with
      | none => .ok (.slice A (n + m) c) w
      | some ad => ((storeCells (ad.add (n * i.size)) cells.toList).run P w).andThen fun _ w' => .ok (.slice A (n + m) c) w' := by
  rcases h2 with ⟨e2, h2⟩ | h2 <;> cases A <;> simp [Builtin.append_, run_underlying hu, run_underlying h2, sizeOf, typeInfo, hi, hl, hf, hroom]
theorem append_run_grow {t t2 ty e : TypeId} {i : TypeInfo} {z : Value} {A : Option Addr} {n c m : Nat} {v : Value} {cells olds : Array Value} (hu : P.underlying t = some (.slice e)) (h2 : SrcT P t2) (hi : P.info? e = some i) (hz : i.zero = some z)
    (hl : (Builtin.lenOf v).run P w = .ok m w) (hf : (Builtin.firstCells i.size m v).run P w.drew = .ok cells w.drew) (hfo : (Builtin.firstCells i.size n (.slice A n c)).run P w.drew = .ok olds w.drew) (hgr : c < n + m)
    (hb : (n + m) * i.bytes ≤ 140737488355328) (hbp : 0 < i.bytes) :
    (Builtin.append_ #[t, t2] ty #[.slice A n c, v]).run P w =
      .ok (.slice (some ⟨w.heap.size, 0, none⟩) (n + m) (grownCap w (n + m) c e)) (w.drew.alloc (.cells (olds ++ cells ++ Builtin.zeroCells z.cells (grownCap w (n + m) c e - (n + m))) e)) := by
  have hn : ¬ (n + m ≤ c) := by omega
  have h48' : ¬ (281474976710656 < Builtin.nextslicecap (n + m) c * i.bytes) := by
    have := growslice_fits (old := c) (need := n + m) (bytes := i.bytes) (by omega) hb
    omega
  have hb0 : i.bytes ≠ 0 := by omega
  rcases h2 with ⟨e2, h2⟩ | h2 <;> simp [Builtin.append_, run_underlying hu, run_underlying h2, sizeOf, typeInfo, zeroValue, hi, hz, hl, hf, hfo, hn, h48', hb0, Question.forced, newRow, grownCap]
theorem flat_take_self {M : Nat → Nat → Prop} {e : TypeId} {xs : List AV} {us : List Value} (h : RepL P w M e xs us) : us.take xs.length = us := by rw [← h.1]; exact List.take_length
theorem grown_bound {n m c by_ : Nat} {e : TypeId} (hb : (n + m) * by_ ≤ 140737488355328) (hp : 0 < by_) : n + m ≤ maxLen := by
  have : n + m ≤ (n + m) * by_ := Nat.le_mul_of_pos_right _ hp
  simp only [maxLen]; omega
theorem zeroCells_size {z : AV} {zv : Value} (h : constAV zv = some z) (n : Nat) : (Builtin.zeroCells zv.cells n).size = n * z.cells.length := by
  have := (constAV_cells (P := default) (w := default) (g := ⟨fun _ _ => False, fun _ _ => 0, fun _ _ => 0⟩) (S := []) h).1.1
  simp only [Array.length_toList] at this
  simp [Builtin.zeroCells, this]
theorem cell_of_ext {w w' : World} (hx : Ext w w') {b o : Nat} {cv : Value} (h : w.cell? ⟨b, o, none⟩ = some cv) : w'.cell? ⟨b, o, none⟩ = some cv := by
  rw [hx.cell (World.block_lt_of_cell? w _ h) o]; exact h
theorem appendA_sound (hs : Sim P may s a w g) (hm : ∀ b, w.heap.size ≤ b → may b) {s' : St} {d : Option Nat} {t t2 ty : TypeId} {x y : AV} {u v : Value} (h2 : SrcT P t2) (hx : HRep P w g s.stores x u) (hy : HRep P w g s.stores y v) (h : appendA P s d t x y = some s') :
    ∃ z w', (Builtin.append_ #[t, t2] ty #[u, v]).run P w = .ok z w' ∧ Leaves P may s w g s' (a.put d z) w' := by
  unfold appendA at h
  split at h
  · cases h
  rename_i e he
  have hu := elemT_some he
  split at h
  · rename_i es by_ news z hes hby hsrc hz
    split at h
    · cases h
    rename_i hno
    have hce := sizeT_cells hes
    have hes0 : es ≠ 0 := fun e => hno (.inl e)
    have hby0 : by_ ≠ 0 := fun e => hno (.inr (.inl e))
    have hzl : z.cells.length = es := Decidable.byContradiction fun e => hno (.inr (.inr e))
    have hpos : 0 < P.cellsOf e := by rw [hce]; omega
    obtain ⟨i, hi, rfl⟩ := Option.map_eq_some_iff.1 hes
    obtain ⟨i', hi', hbi⟩ := Option.map_eq_some_iff.1 hby
    rw [hi] at hi'
    cases hi'
    subst hbi
    obtain ⟨i', zv, hi', hzv, hzc⟩ := zeroT_some hz
    rw [hi] at hi'
    cases hi'
    obtain ⟨us, hr, hlen, hfirst⟩ := hs.inv.src hy hsrc
    have hf0 : ∀ w', Ext w w' → (Builtin.firstCells i.size news.length v).run P w' = .ok (flat us).toArray w' := by
      intro w' hw'
      have := hfirst news.length (Nat.le_refl _) w' (fun b o cv h => cell_of_ext hw' h)
      rw [flat_take_self hr, hce] at this
      exact this
    have hl1 : (flat us).length = news.length * P.cellsOf e := hr.len
    have fresh : ∀ (A : Option Addr), u = .slice A 0 0 → 0 < news.length → news.length * i.bytes ≤ 140737488355328 → s.fresh d e news = some s' →
        ∃ z w', (Builtin.append_ #[t, t2] ty #[u, v]).run P w = .ok z w' ∧ Leaves P may s w g s' (a.put d z) w' := by
      rintro A rfl hnp hnb hfr
      have hfo : (Builtin.firstCells i.size 0 (.slice A 0 0)).run P w.drew = .ok #[] w.drew := by
        cases A <;> simp [Builtin.firstCells, loadCells, loadCellsFrom]
      have hrun := append_run_grow (ty := ty) (n := 0) (c := 0) hu h2 hi hzv hlen (hf0 _ (Ext.drew w)) hfo (by omega) (by rw [Nat.zero_add]; exact hnb) (by omega)
      rw [Nat.zero_add] at hrun
      have hge := grownCap_ge w news.length 0 e
      have hnm : news.length ≤ maxLen := by
        have := grown_bound (n := 0) (m := news.length) (c := 0) (e := e) (by rw [Nat.zero_add]; exact hnb) (show 0 < i.bytes by omega)
        omega
      have hgm := grownCap_le_maxLen w news.length 0 e hnm
      refine ⟨_, _, hrun, ?_⟩
      refine fresh_sound (cur := flat us ++ (Builtin.zeroCells zv.cells (grownCap w news.length 0 e - news.length)).toList) (us := us) hs hm ((Ext.drew w).trans (Ext.alloc w.drew _)) hfr (by simp) ?_ hpos ?_ hgm hge hr ?_
      · rw [show (flat us ++ (Builtin.zeroCells zv.cells (grownCap w news.length 0 e - news.length)).toList).toArray = #[] ++ (flat us).toArray ++ Builtin.zeroCells zv.cells (grownCap w news.length 0 e - news.length) from by apply Array.ext'; simp]
        exact heap_alloc_new w.drew _
      · have := zeroCells_size hzc (grownCap w news.length 0 e - news.length)
        rw [hzl, ← hce] at this
        simp only [List.length_append, hl1, Array.length_toList, this, ← Nat.add_mul]
        congr 1; omega
      · rw [← hl1]; simp
    split at h
    ·
      have e1 := hx.inv_nils; subst e1
      split at h
      · simp only [Option.some.injEq] at h; subst h
        refine ⟨.slice none 0 0, w, ?_, Leaves.same (hs.put (HRep.of_rep .nils) d) (put_stores _ _ _)⟩
        have := append_run_room (A := none) (ty := ty) (n := 0) (c := 0) hu h2 hi hlen (hf0 w (Ext.refl w)) (by simp)
        simpa using this
      · split at h
        · rename_i hb
          exact fresh none rfl (by simp) hb h
        · cases h
    · obtain ⟨A, rfl⟩ := hx.inv_cap0
      split at h
      · simp only [Option.some.injEq] at h; subst h
        refine ⟨.slice A 0 0, w, ?_, Leaves.same (hs.put (HRep.of_rep .cap0) d) (put_stores _ _ _)⟩
        have := append_run_room (A := A) (ty := ty) (n := 0) (c := 0) hu h2 hi hlen (hf0 w (Ext.refl w)) (by simp)
        have hus : us = [] := List.eq_nil_of_length_eq_zero (by rw [hr.1]; rfl)
        subst hus
        cases A <;> simpa [flat, storeCells] using this
      · split at h
        · rename_i hb
          exact fresh A rfl (by simp) hb h
        · cases h
    ·
      rename_i i0 k e1 lo n tot
      split at h
      · rename_i e2 xs hg
        split at h
        · rename_i hcond
          obtain ⟨rfl, rfl, rfl, rfl, hxt, hb⟩ := hcond
          simp only [Option.some.injEq] at h; subst h
          obtain ⟨fz, xs', hg', ht, hq, _⟩ := hx.inv_arr
          rw [hg] at hg'
          simp only [Option.some.injEq, Ob.arr.injEq] at hg'
          obtain ⟨rfl, _, rfl⟩ := hg'
          obtain ⟨_, A, c, rfl, hnc, hcm, hA, hC⟩ := hq hxt
          have hA' := hA (.inl rfl)
          rw [Nat.zero_mul] at hA'
          subst hA'
          have hC' := hC rfl
          rw [Nat.zero_add] at hC'
          obtain ⟨hmay, hnM, _, cur, us0, cap, hh, hcl, hcc, hcapm, hxc, hr0, htk⟩ := hs.inv.arr i0 k _ xs hg
          have hl0 : (flat us0).length = xs.length * P.cellsOf e2 := hr0.len
          have hcap : c ≤ cap := by
            rw [hcc] at hC'
            exact Nat.le_of_mul_le_mul_right hC' hpos
          subst hxt
          by_cases hroom : xs.length + news.length ≤ c
          ·
            have hrun := append_run_room (A := some ⟨g.B i0 k, 0, none⟩) (ty := ty) (n := xs.length) (c := c) hu h2 hi hlen (hf0 w (Ext.refl w)) hroom
            have hfit : 0 + 0 + xs.length * P.cellsOf e2 + (flat us).length ≤ cur.length := by
              rw [hl1, hcl]
              have : (xs.length + news.length) * P.cellsOf e2 ≤ c * P.cellsOf e2 := Nat.mul_le_mul_right _ hroom
              rw [Nat.add_mul] at this
              omega
            have hst := run_storeCells_at P (g.B i0 k) (xs.length * P.cellsOf e2) e2 (flat us) 0 cur.toArray w hh (by simpa using hfit) hr.ones
            simp only [Addr.add_lit, Nat.zero_add, ← hce, hst, Result.andThen_ok, Nat.add_zero] at hrun
            refine ⟨_, _, hrun, ?_⟩
            refine leave_arr hs hm hg (b := g.B i0 k) (c0 := g.C i0 k) (Chg.setRow w _ _) (by simp) (.inl ⟨rfl, rfl⟩)
              ⟨cur.take (xs.length * P.cellsOf e2) ++ flat us ++ cur.drop (xs.length * P.cellsOf e2 + (flat us).length), us0 ++ us, cap, ?_, ?_, hcc, hcapm, by simp; omega, ?_, ?_⟩ ?_
            · have := setRow_heap w (g.B i0 k) cur.toArray (cur.take (xs.length * P.cellsOf e2) ++ flat us ++ cur.drop (xs.length * P.cellsOf e2 + (flat us).length)).toArray e2 (0, 0) hh
              simpa using this
            · rw [← hcl]; simp; omega
            · have hfr := (Chg.setRow w (g.B i0 k) (cur.take (xs.length * P.cellsOf e2) ++ flat us ++ cur.drop (xs.length * P.cellsOf e2 + (flat us).length)).toArray).fr hs.inv hm hmay hnM
              have h3 := (hr0.append hr).mono hfr.sub hfr.cell
              simpa using h3
            · rw [flat_append, htk]
              have e1 : (xs ++ news).length * P.cellsOf e2 = (flat us0 ++ flat us).length := by
                rw [List.length_append, List.length_append, hl0, hl1, Nat.add_mul]
              rw [e1, List.take_append_of_le_length (Nat.le_refl _), List.take_length]
            · refine ⟨false, xs ++ news, by rw [getOb_set]; simp [hg], by simp, fun _ => ⟨by simp, _, c, rfl, hroom, hcm, fun _ => by simp [Gh.at], fun _ => ?_⟩, rfl⟩
              simp only [Gh.at, and_self, if_true, Nat.zero_add]
              exact hC'
          ·
            have hfo : (Builtin.firstCells i.size xs.length (.slice (some ⟨g.B i0 k, 0, none⟩) xs.length c)).run P w.drew = .ok (flat us0).toArray w.drew := by
              refine run_firstCells_some (P := P) w.drew i.size xs.length ⟨g.B i0 k, 0, none⟩ xs.length c (flat us0) (by rw [hl0, hce]) fun j cv hj => ?_
              rw [Addr.add_lit, Nat.zero_add]
              show w.cell? _ = _
              rw [cell_of_row w (g.B i0 k) j cur.toArray e2 (0, 0) hh]
              rw [← htk, List.getElem?_take] at hj
              split at hj
              · simpa using hj
              · cases hj
            have hrun := append_run_grow (ty := ty) (n := xs.length) (c := c) hu h2 hi hzv hlen (hf0 _ (Ext.drew w)) hfo (by omega) hb (by omega)
            have hge := grownCap_ge w (xs.length + news.length) c e2
            have hnm := grown_bound (c := c) (e := e2) hb (show 0 < i.bytes by omega)
            have hgm := grownCap_le_maxLen w (xs.length + news.length) c e2 hnm
            have hext : Ext w (w.drew.alloc (.cells ((flat us0).toArray ++ (flat us).toArray ++ Builtin.zeroCells zv.cells (grownCap w (xs.length + news.length) c e2 - (xs.length + news.length))) e2)) := (Ext.drew w).trans (Ext.alloc w.drew _)
            refine ⟨_, _, hrun, ?_⟩
            refine leave_arr hs hm hg (b := w.heap.size) (c0 := grownCap w (xs.length + news.length) c e2 * P.cellsOf e2) (Chg.of_ext hext) (by simp) (.inr ⟨Nat.le_refl _, by simp; omega⟩)
              ⟨flat us0 ++ flat us ++ (Builtin.zeroCells zv.cells (grownCap w (xs.length + news.length) c e2 - (xs.length + news.length))).toList, us0 ++ us, grownCap w (xs.length + news.length) c e2, ?_, ?_, rfl, hgm, by simpa using hge, ?_, ?_⟩ ?_
            · rw [show (flat us0 ++ flat us ++ (Builtin.zeroCells zv.cells (grownCap w (xs.length + news.length) c e2 - (xs.length + news.length))).toList).toArray = (flat us0).toArray ++ (flat us).toArray ++ Builtin.zeroCells zv.cells (grownCap w (xs.length + news.length) c e2 - (xs.length + news.length)) from by apply Array.ext'; simp]
              exact heap_alloc_new w.drew _
            · have := zeroCells_size hzc (grownCap w (xs.length + news.length) c e2 - (xs.length + news.length))
              rw [hzl, ← hce] at this
              simp only [List.length_append, hl0, hl1, Array.length_toList, this, ← Nat.add_mul]
              congr 1; omega
            · have hfr := hext.fr hm hs.inv.mlt
              exact (hr0.append hr).mono hfr.sub hfr.cell
            · rw [flat_append]
              have e1 : (xs ++ news).length * P.cellsOf e2 = (flat us0 ++ flat us).length := by
                rw [List.length_append, List.length_append, hl0, hl1, Nat.add_mul]
              rw [e1, List.take_append_of_le_length (Nat.le_refl _), List.take_length]
            · refine ⟨false, xs ++ news, by rw [getOb_set]; simp [hg], by simp, fun _ => ⟨by simp, _, _, rfl, hge, hgm, fun _ => by simp [Gh.at], fun _ => ?_⟩, rfl⟩
              simp [Gh.at]
        · cases h
      · cases h
    · cases h
  · cases h
end
end Go.AbsM
end

section
namespace Go.AbsM
section
variable {P : Program} {w w' : World} {g : Gh} {may : Nat → Prop} {s : St} {a : Act}
theorem RepL.splice {M : Nat → Nat → Prop} {e : TypeId} {xs ys : List AV} {us vs : List Value} (h : RepL P w M e xs us) (k : RepL P w M e ys vs) (lo : Nat) :
    RepL P w M e (xs.take lo ++ (ys ++ xs.drop (lo + ys.length))) (us.take lo ++ (vs ++ us.drop (lo + vs.length))) := by
  refine (h.take lo).append (k.append ?_)
  rw [k.1]
  exact h.drop _
theorem lay_arr (hs : Sim P may s a w g) (hm : ∀ b, w.heap.size ≤ b → may b) {i k : Nat} {e : TypeId} {xs ys : List AV} {vs : List Value} {lo : Nat} (hg : getOb s.stores i k = some (.arr false e xs)) (hr : RepL P w g.M e ys vs) (hle : lo + ys.length ≤ xs.length)
    {d : Option Nat} {x : AV} {v : Value} (hx : ∀ w' g' S', HRep P w' g' S' x v) :
    ∃ w', (storeCells ⟨g.B i k, lo * P.cellsOf e, none⟩ (flat vs)).run P w = .ok () w' ∧
      Leaves P may s w g (St.put { s with stores := setOb s.stores i k (.arr false e (xs.take lo ++ (ys ++ xs.drop (lo + ys.length)))) } d x) (a.put d v) w' := by
  obtain ⟨hmay, hnM, hpos, cur, us0, cap, hh, hcl, hcc, hcapm, hxc, hr0, htk⟩ := hs.inv.arr i k _ xs hg
  have hl0 : (flat us0).length = xs.length * P.cellsOf e := hr0.len
  have hl1 : (flat vs).length = ys.length * P.cellsOf e := hr.len
  have hfit : lo * P.cellsOf e + (flat vs).length ≤ xs.length * P.cellsOf e := by
    rw [hl1, ← Nat.add_mul]; exact Nat.mul_le_mul_right _ hle
  have hxcap : xs.length * P.cellsOf e ≤ cur.length := by rw [hcl, hcc]; exact Nat.mul_le_mul_right _ hxc
  have hst := run_storeCells_at P (g.B i k) (lo * P.cellsOf e) e (flat vs) 0 cur.toArray w hh (by simp; omega) hr.ones
  simp only [Nat.add_zero] at hst
  refine ⟨_, hst, ?_⟩
  have hlen' : (xs.take lo ++ (ys ++ xs.drop (lo + ys.length))).length = xs.length := by simp; omega
  have hfr := (Chg.setRow w (g.B i k) (cur.take (lo * P.cellsOf e) ++ flat vs ++ cur.drop (lo * P.cellsOf e + (flat vs).length)).toArray).fr hs.inv hm hmay hnM
  refine leave_arr hs hm hg (b := g.B i k) (c0 := g.C i k) (Chg.setRow w _ _) (by rw [hlen']; exact Nat.le_refl _) (.inl ⟨rfl, rfl⟩)
    ⟨cur.take (lo * P.cellsOf e) ++ flat vs ++ cur.drop (lo * P.cellsOf e + (flat vs).length), us0.take lo ++ (vs ++ us0.drop (lo + vs.length)), cap, ?_, ?_, hcc, hcapm, by rw [hlen']; exact hxc, ?_, ?_⟩ (hx _ _ _)
  · have := setRow_heap w (g.B i k) cur.toArray (cur.take (lo * P.cellsOf e) ++ flat vs ++ cur.drop (lo * P.cellsOf e + (flat vs).length)).toArray e (0, 0) hh
    simpa using this
  · rw [← hcl]; simp; omega
  · have := (hr0.splice hr lo).mono hfr.sub hfr.cell
    simpa using this
  · rw [hlen', flat_append, flat_append, flat_take hr0.2.2, flat_drop hr0.2.2, ← htk, Nat.add_mul, hr.1, ← hl1]
    rw [List.take_take, Nat.min_eq_left (by omega)]
    rw [List.append_assoc, List.take_append]
    have e1 : (cur.take (lo * P.cellsOf e)).length = lo * P.cellsOf e := by simp; omega
    rw [List.take_of_length_le (by omega), e1, List.take_append]
    congr 1
    rw [List.take_of_length_le (by omega)]
    congr 1
    rw [List.drop_take]
    congr 1
    omega
theorem copy_zero {t ty e : TypeId} {A : Option Addr} {n c m sz : Nat} {v : Value} {rest : List TypeId} (hu : P.underlying t = some (.slice e)) (hsz : sizeT P e = some sz) (hl : (Builtin.lenOf v).run P w = .ok m w) (h0 : min m n = 0) (hf : (Builtin.firstCells sz 0 v).run P w = .ok #[] w) :
    (Builtin.copy_ (t :: rest).toArray ty #[.slice A n c, v]).run P w = .ok (.int .i64 0) w := by
  have : Nat.min m n = 0 := h0
  cases A <;> simp [Builtin.copy_, run_underlying hu, hl, sizeT_run hsz, this, hf, storeCells, goInt]
theorem copyA_sound (hs : Sim P may s a w g) (hm : ∀ b, w.heap.size ≤ b → may b) {s' : St} {d : Option Nat} {t ty : TypeId} {rest : List TypeId} {x y : AV} {u v : Value} (hx : HRep P w g s.stores x u) (hy : HRep P w g s.stores y v) (h : copyA P s d t x y = some s') :
    ∃ z w', (Builtin.copy_ (t :: rest).toArray ty #[u, v]).run P w = .ok z w' ∧ Leaves P may s w g s' (a.put d z) w' := by
  unfold copyA at h
  split at h
  · cases h
  rename_i e he
  have hu := elemT_some he
  split at h
  · rename_i sz ys hsz hsrc
    have hce := sizeT_cells hsz
    obtain ⟨us, hr, hlen, hfirst⟩ := hs.inv.src hy hsrc
    have hf : ∀ n, n ≤ ys.length → (Builtin.firstCells sz n v).run P w = .ok (flat (us.take n)).toArray w := by
      intro n hn
      have := hfirst n hn w (fun _ _ _ h => h)
      rw [hce] at this
      exact this
    have hf0 : (Builtin.firstCells sz 0 v).run P w = .ok #[] w := by simpa [flat] using hf 0 (by omega)
    split at h
    · rename_i i k e' lo n tot
      split at h
      · rename_i e2 xs hg
        split at h
        · rename_i hc
          obtain ⟨rfl, rfl, hxt, hln⟩ := hc
          simp only [Option.some.injEq] at h; subst h
          obtain ⟨fz, xs', hg', ht, hq, _⟩ := hx.inv_arr
          rw [hg] at hg'
          simp only [Option.some.injEq, Ob.arr.injEq] at hg'
          obtain ⟨rfl, _, rfl⟩ := hg'
          obtain ⟨_, A, c, rfl, hnc, hcm, hA, hC⟩ := hq hxt
          have hty : (ys.take (min ys.length n)).length = min ys.length n := by simp
          obtain ⟨w', hst, hlv⟩ := lay_arr hs hm (lo := lo) hg (hr.take (min ys.length n)) (by rw [hty]; omega) (d := d) (x := .int .i64 (min ys.length n : Nat)) (v := .int .i64 (min ys.length n : Nat)) (fun _ _ _ => HRep.mk_x rfl)
          rw [hty] at hlv
          refine ⟨_, w', ?_, hlv⟩
          have hmin : Nat.min ys.length n = min ys.length n := rfl
          by_cases h0 : min ys.length n = 0
          · have hz := copy_zero (ty := ty) (A := A) (c := c) (rest := rest) hu hsz hlen h0 hf0
            rw [h0] at hst ⊢
            simp [flat, storeCells] at hst
            rw [hz, hst]
            simp
          · rw [hA (.inr (by omega))]
            simp [Builtin.copy_, run_underlying hu, hlen, sizeT_run hsz, hmin, hf (min ys.length n) (Nat.min_le_left _ _), hst, goInt]
        · cases h
      · cases h
    · simp only [Option.some.injEq] at h; subst h
      have e1 := hx.inv_nils; subst e1
      exact ⟨_, w, copy_zero hu hsz hlen (by simp) hf0, Leaves.same (hs.put (HRep.mk_x rfl) d) (put_stores _ _ _)⟩
    · simp only [Option.some.injEq] at h; subst h
      obtain ⟨A, rfl⟩ := hx.inv_cap0
      exact ⟨_, w, copy_zero hu hsz hlen (by simp) hf0, Leaves.same (hs.put (HRep.mk_x rfl) d) (put_stores _ _ _)⟩
    · split at h
      · rename_i h0
        simp only [Option.some.injEq] at h; subst h
        obtain ⟨A, c, us', rfl, _⟩ := hx.inv_sl
        exact ⟨_, w, copy_zero hu hsz hlen h0 hf0, Leaves.same (hs.put (HRep.mk_x rfl) d) (put_stores _ _ _)⟩
      · cases h
    · cases h
  · cases h
theorem flat_replicate (zv : Value) (n : Nat) : flat (List.replicate n zv) = (List.replicate n zv.cells.toList).flatten := by
  simp [flat, List.flatMap_def]
theorem madeCells_flat {zv : Value} {es n : Nat} (h : zv.cells.size = es) (hes : 0 < es) : ((Array.range (n * es)).map (zv.cells[· % zv.cells.size]!)).toList = flat (List.replicate n zv) := by
  apply List.ext_getElem?
  intro k
  have e1 : flat (List.replicate n zv) = ((List.replicate n zv).flatMap fun v => v.cells.toList) := rfl
  rw [e1, Great.flat_get hes _ (fun v hv => by rw [List.eq_of_mem_replicate hv]; exact h)]
  simp only [Array.toList_map, Array.toList_range, List.getElem?_map, List.getElem?_range']
  by_cases hk : k < n * es
  · have hkd : k / es < n := (Nat.div_lt_iff_lt_mul hes).2 hk
    have hmod : k % es < zv.cells.size := by rw [h]; exact Nat.mod_lt _ hes
    rw [List.getElem?_range hk, List.getElem?_replicate, if_pos hkd, h]
    simp [hmod]
  · have hkd : ¬ k / es < n := by rw [Nat.div_lt_iff_lt_mul hes]; exact hk
    rw [List.getElem?_eq_none (by simp; omega), List.getElem?_replicate, if_neg hkd]
    rfl
theorem RepL.replicate {M : Nat → Nat → Prop} {e : TypeId} {z : AV} {zv : Value} (h : Rep P w M z zv) (hsz : zv.cells.size = P.cellsOf e) (n : Nat) : RepL P w M e (List.replicate n z) (List.replicate n zv) :=
  ⟨by simp, (fun i x u hx hu => by
    rw [List.getElem?_replicate] at hx hu
    split at hx
    · rename_i hi
      rw [if_pos hi] at hu
      simp only [Option.some.injEq] at hx hu
      subst hx; subst hu; exact h
    · cases hx), fun u hu => by rw [List.eq_of_mem_replicate hu]; exact hsz⟩
theorem makeA_sound (hs : Sim P may s a w g) (hm : ∀ b, w.heap.size ≤ b → may b) {s' : St} {d : Option Nat} {t : TypeId} {l c : Int} {kl kc : IntKind} (h : makeA P s d t l c = some s') :
    ∃ z w', (Instr.makeSlice t (.int kl l) (.int kc c)).run P w = .ok z w' ∧ Leaves P may s w g s' (a.put d z) w' := by
  unfold makeA at h
  split at h
  · cases h
  rename_i e he
  have hu := elemT_some he
  split at h
  · rename_i n by_ z hn hby hz
    split at h
    · rename_i hc
      obtain ⟨h0, hlc, hc63, hb, hnp, hzl, hzv⟩ := hc
      have hce := sizeT_cells hn
      obtain ⟨i, hi, rfl⟩ := Option.map_eq_some_iff.1 hn
      obtain ⟨i', hi', hbi⟩ := Option.map_eq_some_iff.1 hby
      rw [hi] at hi'; cases hi'; subst hbi
      obtain ⟨i', zv, hi', hzz, hzc⟩ := zeroT_some hz
      rw [hi] at hi'; cases hi'
      have hrep := constAV_rep (P := P) (w := w) hzc g.M
      have hzs : zv.cells.size = i.size := by
        have := (constAV_cells (P := P) (w := w) (g := g) (S := s.stores) hzc).1.1
        simp only [Array.length_toList] at this
        rw [this, hzl]
      have hrun := run_make (P := P) w t e i zv hu hi hzz kl kc l c h0 hlc hb hc63
      refine ⟨_, _, hrun, ?_⟩
      have hln : (List.replicate l.toNat z).length = l.toNat := List.length_replicate
      have := fresh_sound (cur := (madeCells zv.cells (c.toNat * i.size)).toList) (us := List.replicate l.toNat zv) (cap := c.toNat) (b := w.heap.size) hs hm (Ext.alloc w (.cells (madeCells zv.cells (c.toNat * i.size)) e)) h (Nat.le_refl _)
        (by simpa using heap_alloc_new w _) (by rw [hce]; exact hnp) (by simp [size_madeCells, hce]) (by simp only [maxLen]; omega) (by rw [hln]; omega) (RepL.replicate hrep (by rw [hce]; exact hzs) _)
        (by
          have e1 := madeCells_flat (n := c.toNat) hzs hnp
          rw [hln]
          unfold madeCells
          rw [e1, hce, ← flat_take (fun u hu => by rw [List.eq_of_mem_replicate hu]; exact hzs), List.take_replicate, Nat.min_eq_left (by omega)])
      rw [hln] at this
      exact this
    · cases h
  · cases h
theorem CellsRep.vals {S : List Store} {cs : List AV} {vs : List Value} (h : CellsRep P w g S cs vs) (hv : cs.all AV.isVal = true) : ∀ (i : Nat) (c : AV) (u : Value), cs[i]? = some c → vs[i]? = some u → Rep P w g.M c u := by
  intro i c u hc hu
  exact (h.2 i c u hc hu).1.rep (List.all_eq_true.1 hv c (List.mem_of_getElem? hc))
theorem chunksA_sound {S : List Store} {agg : Bool} {e : TypeId} {n : Nat} {cs : List AV} {vs : List Value} {xs : List AV} (hag : aggT P e = some agg) (hpos : 0 < P.cellsOf e) (hc : CellsRep P w g S cs vs) (hv : cs.all AV.isVal = true) (hl : cs.length = n * P.cellsOf e)
    (h : chunksA agg (P.cellsOf e) n cs = some xs) : xs.length = n ∧ ∃ us, RepL P w g.M e xs us ∧ flat us = vs := by
  induction n generalizing cs vs xs with
  | zero =>
    simp only [chunksA, Option.some.injEq] at h; subst h
    refine ⟨rfl, [], RepL.nil, ?_⟩
    have : vs.length = 0 := by rw [hc.1, hl]; simp
    rw [List.eq_nil_of_length_eq_zero this]; rfl
  | succ n ih =>
    simp only [chunksA] at h
    have hlen : P.cellsOf e ≤ cs.length := by rw [hl, Nat.add_mul]; omega
    split at h
    · rename_i r hr
      obtain ⟨hrl, us, hrr, hfl⟩ := ih (hc.drop _) (by rw [List.all_eq_true] at hv ⊢; exact fun c hc => hv c (List.mem_of_mem_drop hc)) (by rw [List.length_drop, hl, Nat.add_mul]; omega) hr
      split at h
      · simp only [Option.some.injEq] at h; subst h
        have ht := hc.take (P.cellsOf e)
        have htv : (cs.take (P.cellsOf e)).all AV.isVal = true := by rw [List.all_eq_true] at hv ⊢; exact fun c hc => hv c (List.mem_of_mem_take hc)
        have hlt : (vs.take (P.cellsOf e)).length = P.cellsOf e := by rw [List.length_take, hc.1]; omega
        refine ⟨by simp [hrl], .agg (vs.take (P.cellsOf e)).toArray :: us, ⟨by simp [hrr.1], fun i x u hx hu => ?_, fun u hu => ?_⟩, ?_⟩
        · cases i with
          | zero =>
            simp at hx hu; subst hx; subst hu
            have := Rep.agg (P := P) (w := w) (M := g.M) (cs := cs.take (P.cellsOf e)) (vs := vs.take (P.cellsOf e)) ht.1 (ht.vals htv) (fun c hc => List.all_eq_true.1 htv c hc)
            simpa using this
          | succ i => exact hrr.2.1 i x u (by simpa using hx) (by simpa using hu)
        · rcases List.mem_cons.1 hu with rfl | hu
          · simpa [Value.cells] using hlt
          · exact hrr.2.2 u hu
        · rw [flat_cons, hfl]
          simp [Value.cells]
      · split at h
        · rename_i hes
          split at h
          · rename_i c hcc
            simp only [Option.some.injEq] at h; subst h
            cases cs with
            | nil => simp at hcc
            | cons c0 cr =>
              simp at hcc; subst hcc
              cases vs with
              | nil => exact absurd hc.1 (by simp)
              | cons v0 vr =>
                have h0 := hc.2 0 c0 v0 rfl rfl
                have hr0 := h0.1.rep (List.all_eq_true.1 hv c0 (by simp))
                refine ⟨by simp [hrl], v0 :: us, ⟨by simp [hrr.1], fun i x u hx hu => ?_, fun u hu => ?_⟩, ?_⟩
                · cases i with
                  | zero => simp at hx hu; subst hx; subst hu; exact hr0
                  | succ i => exact hrr.2.1 i x u (by simpa using hx) (by simpa using hu)
                · rcases List.mem_cons.1 hu with rfl | hu
                  · rw [cells_of_one h0.2, hes]; rfl
                  · exact hrr.2.2 u hu
                · rw [flat_cons, hfl, hes, cells_of_one h0.2]; rfl
          · cases h
        · cases h
    · cases h
end
end Go.AbsM
end

section
namespace Go.AbsM
section
variable {P : Program} {w w' : World} {g : Gh} {may : Nat → Prop} {s : St} {a : Act}
def Settles (P : Program) (may : Nat → Prop) (s : St) (a : Act) (w : World) (g : Gh) (s' : St) (g' : Gh) : Prop :=
  Sim P may s' a w g' ∧ Fr may w g.M w g'.M ∧ Kp 0 s.stores g s'.stores g' ∧ s'.slots = s.slots
theorem Settles.refl (hs : Sim P may s a w g) : Settles P may s a w g s g := ⟨hs, Fr.refl _ _ _, Kp.refl _ _ _, rfl⟩
theorem Settles.trans {s1 s2 : St} {g1 g2 : Gh} (h : Settles P may s a w g s1 g1) (k : Settles P may s1 a w g1 s2 g2) : Settles P may s a w g s2 g2 :=
  ⟨k.1, h.2.1.trans k.2.1, h.2.2.1.trans k.2.2.1, k.2.2.2.trans h.2.2.2⟩
theorem Settles.hrep {S : List Store} {s' : St} {g' : Gh} (h : Settles P may s a w g s' g') {x : AV} {v : Value} (hx : HRep P w g s.stores x v) : HRep P w g' s'.stores x v := hx.keep h.2.1.sub h.2.1.cell h.2.2.1
theorem Settles.crep {s' : St} {g' : Gh} (h : Settles P may s a w g s' g') {x : AV} {v : Value} (hx : CRep P w g s.stores x v) : CRep P w g' s'.stores x v := hx.keep h.2.1.sub h.2.1.cell h.2.2.1 (AV.from_zero _)
theorem Settles.rep {s' : St} {g' : Gh} (h : Settles P may s a w g s' g') {x : AV} {v : Value} (hx : Rep P w g.M x v) : Rep P w g'.M x v := hx.mono h.2.1.sub h.2.1.cell
theorem setFz_sound (hs : Sim P may s a w g) {i k : Nat} {e : TypeId} {lo n tot : Nat} {v : Value} {xs : List AV} (hv : HRep P w g s.stores (.arr i k e lo n tot) v) (h : s.elems i k lo n tot = some xs) :
    ∃ g', Settles P may s a w g (s.setFz i k) g' ∧ Rep P w g'.M (.sl e xs) v := by
  obtain ⟨fz, ys, hg, ht, hq, _⟩ := hv.inv_arr
  have hl : ys.length = tot ∧ (ys.drop lo).take n = xs := by
    simp only [St.elems, hg] at h
    split at h
    · rename_i hl; simp only [Option.some.injEq] at h; exact ⟨hl, h⟩
    · cases h
  have key : ∃ g', Settles P may s a w g (s.setFz i k) g' ∧ ∃ fz', getOb (s.setFz i k).stores i k = some (.arr true e ys) ∧ fz' = true ∧ g'.B i k = g.B i k := by
    cases fz with
    | true =>
      have e1 : s.setFz i k = { s with stores := setOb s.stores i k (.arr true e ys) } := by simp [St.setFz, hg]
      have hk : Kp 0 s.stores g (setOb s.stores i k (.arr true e ys)) g := by
        have hget : ∀ i' k', getOb (setOb s.stores i k (.arr true e ys)) i' k' = getOb s.stores i' k' := by
          intro i' k'
          rw [getOb_set]
          split
          · rename_i hn; obtain ⟨rfl, rfl⟩ := hn; simp [hg]
          · rfl
        exact ⟨fun i' k' cs _ hh => ⟨⟨cs, by rw [hget]; exact hh⟩, rfl⟩, fun i' k' fz e' zs _ hh => ⟨fz, zs, by rw [hget]; exact hh, Nat.le_refl _, fun _ => ⟨rfl, fun hf => ⟨hf, rfl⟩⟩⟩⟩
      have hget : ∀ i' k', getOb (setOb s.stores i k (.arr true e ys)) i' k' = getOb s.stores i' k' := by
        intro i' k'
        rw [getOb_set]
        split
        · rename_i hn; obtain ⟨rfl, rfl⟩ := hn; simp [hg]
        · rfl
      have hinv : SInv P w g may (setOb s.stores i k (.arr true e ys)) := by
        refine ⟨fun i' k' cs hh => ?_, fun i' k' e' zs hh => ?_, fun i' k' e' zs hh => ?_, fun i1 k1 o1 i2 k2 o2 h1 h2 => ?_, hs.inv.mlt⟩
        · rw [hget] at hh
          obtain ⟨q1, q2, vs, t, q3, q4, q5⟩ := hs.inv.box i' k' cs hh
          exact ⟨q1, q2, vs, t, q3, q4, fun j c u hc hu => ⟨CRep.keep (g := g) (g' := g) (S := s.stores) (fun _ _ h => h) (fun _ _ _ => rfl) hk (AV.from_zero _) (q5 j c u hc hu).1, (q5 j c u hc hu).2⟩⟩
        · rw [hget] at hh; exact hs.inv.arr i' k' e' zs hh
        · rw [hget] at hh; exact hs.inv.fz i' k' e' zs hh
        · rw [hget] at h1 h2; exact hs.inv.inj i1 k1 o1 i2 k2 o2 h1 h2
      refine ⟨g, ?_, true, by rw [e1, getOb_set]; simp [hg], rfl, rfl⟩
      rw [e1]
      exact ⟨hs.keep (fun _ _ h => h) (fun _ _ _ => rfl) hk hinv (setOb_ne hs.ne _ _ _), Fr.refl _ _ _, hk, rfl⟩
    | false =>
      have e1 : s.setFz i k = { s with stores := setOb s.stores i k (.arr true e ys) } := by simp [St.setFz, hg]
      obtain ⟨h1, h2, h3⟩ := hs.inv.setFz hg
      refine ⟨g.fz (g.B i k) (ys.length * P.cellsOf e), ?_, true, by rw [e1, getOb_set]; simp [hg], rfl, rfl⟩
      rw [e1]
      exact ⟨hs.keep h3.sub h3.cell h2 h1 (setOb_ne hs.ne _ _ _), h3, h2, rfl⟩
  obtain ⟨g', hset, _, hg', _, hB⟩ := key
  refine ⟨g', hset, ?_⟩
  obtain ⟨hpos, us, hr, hcell⟩ := hset.1.inv.fz i k e ys hg'
  obtain ⟨hln, A, c, rfl, hnc, hcm, hA, hC⟩ := hq hl.1
  have hxl : xs.length = n := by rw [← hl.2]; simp; omega
  refine .sl (us := (us.drop lo).take n) hxl.symm ?_ (by omega) hcm hpos ?_ ?_ fun hne => ?_
  · rw [← hl.2]; simp [hr.1]
  · rw [← hl.2]; exact ((hr.drop lo).take n).2.1
  · exact ((hr.drop lo).take n).2.2
  · have hn0 : 0 < n := by
      rcases Nat.eq_zero_or_pos n with h0 | h0
      · exact absurd (List.eq_nil_of_length_eq_zero (by rw [hxl]; exact h0)) hne
      · exact h0
    refine ⟨g.B i k, lo * P.cellsOf e, hA (.inr hn0), fun j cv hj => ?_⟩
    rw [flat_take (fun u hu => hr.2.2 u (List.mem_of_mem_drop hu)), flat_drop hr.2.2, List.getElem?_take] at hj
    split at hj
    · rw [List.getElem?_drop] at hj
      have := hcell _ cv hj
      rw [hB] at this
      exact this
    · cases hj
theorem resolve1_sound (hs : Sim P may s a w g) {x y : AV} {v : Value} {s' : St} (hv : CRep P w g s.stores x v) (h : resolve1 s x = some (s', y)) : ∃ g', Settles P may s a w g s' g' ∧ Rep P w g'.M y v ∧ y.isVal = true := by
  cases x with
  | arr i k e lo n tot =>
    simp only [resolve1] at h
    split at h
    · rename_i xs hx
      simp only [Option.some.injEq, Prod.mk.injEq] at h
      obtain ⟨rfl, rfl⟩ := h
      obtain ⟨g', h1, h2⟩ := setFz_sound hs (HRep.of_cell hv) hx
      exact ⟨g', h1, h2, rfl⟩
    · cases h
  | x u =>
    simp only [resolve1, Option.some.injEq, Prod.mk.injEq] at h
    obtain ⟨rfl, rfl⟩ := h
    exact ⟨g, .refl hs, hv, rfl⟩
  | str l =>
    simp only [resolve1, Option.some.injEq, Prod.mk.injEq] at h
    obtain ⟨rfl, rfl⟩ := h
    exact ⟨g, .refl hs, hv, rfl⟩
  | nils =>
    simp only [resolve1, Option.some.injEq, Prod.mk.injEq] at h
    obtain ⟨rfl, rfl⟩ := h
    exact ⟨g, .refl hs, hv, rfl⟩
  | cap0 =>
    simp only [resolve1, Option.some.injEq, Prod.mk.injEq] at h
    obtain ⟨rfl, rfl⟩ := h
    exact ⟨g, .refl hs, hv, rfl⟩
  | sl e xs =>
    simp only [resolve1, Option.some.injEq, Prod.mk.injEq] at h
    obtain ⟨rfl, rfl⟩ := h
    exact ⟨g, .refl hs, hv, rfl⟩
  | _ => simp [resolve1] at h
theorem resolveL_sound (hs : Sim P may s a w g) {xs ys : List AV} {vs : List Value} {s' : St} (hv : CellsRep P w g s.stores xs vs) (h : resolveL s xs = some (s', ys)) :
    ∃ g', Settles P may s a w g s' g' ∧ vs.length = ys.length ∧ (∀ (i : Nat) (c : AV) (u : Value), ys[i]? = some c → vs[i]? = some u → Rep P w g'.M c u) ∧ ∀ c, c ∈ ys → c.isVal = true := by
  induction xs generalizing s g vs ys s' with
  | nil =>
    simp only [resolveL, Option.some.injEq, Prod.mk.injEq] at h
    obtain ⟨rfl, rfl⟩ := h
    exact ⟨g, .refl hs, hv.1, fun i c u hc => by simp at hc, fun c hc => by simp at hc⟩
  | cons x r ih =>
    simp only [resolveL] at h
    split at h
    · rename_i s1 b h1
      split at h
      · rename_i s2 l h2
        simp only [Option.some.injEq, Prod.mk.injEq] at h
        obtain ⟨rfl, rfl⟩ := h
        cases vs with
        | nil => exact absurd hv.1 (by simp)
        | cons v0 vr =>
          obtain ⟨g1, q1, q2, q3⟩ := resolve1_sound hs (hv.2 0 x v0 rfl rfl).1 h1
          have hv' : CellsRep P w g1 s1.stores r vr := ⟨by simpa using hv.1, fun i c u hc hu => ⟨q1.crep (hv.2 (i + 1) c u (by simpa using hc) (by simpa using hu)).1, (hv.2 (i + 1) c u (by simpa using hc) (by simpa using hu)).2⟩⟩
          obtain ⟨g2, p1, p2, p3, p4⟩ := ih q1.1 hv' h2
          refine ⟨g2, q1.trans p1, by simp [p2], fun i c u hc hu => ?_, fun c hc => ?_⟩
          · cases i with
            | zero => simp at hc hu; subst hc; subst hu; exact p1.rep q2
            | succ i => exact p3 i c u (by simpa using hc) (by simpa using hu)
          · rcases List.mem_cons.1 hc with rfl | hc
            · exact q3
            · exact p4 c hc
      · cases h
    · cases h
theorem resolve_sound (hs : Sim P may s a w g) {x y : AV} {v : Value} {s' : St} (hv : HRep P w g s.stores x v) (h : resolve s x = some (s', y)) : ∃ g', Settles P may s a w g s' g' ∧ Rep P w g'.M y v := by
  have one : CRep P w g s.stores x v → resolve1 s x = some (s', y) → ∃ g', Settles P may s a w g s' g' ∧ Rep P w g'.M y v := fun h1 h2 => by
    obtain ⟨g', q1, q2, _⟩ := resolve1_sound hs h1 h2
    exact ⟨g', q1, q2⟩
  cases x with
  | agg cs =>
    simp only [resolve] at h
    split at h
    · rename_i s1 l h1
      simp only [Option.some.injEq, Prod.mk.injEq] at h
      obtain ⟨rfl, rfl⟩ := h
      obtain ⟨vs, rfl, hcr⟩ := hv.inv_agg
      obtain ⟨g', q1, q2, q3, q4⟩ := resolveL_sound hs hcr h1
      exact ⟨g', q1, .agg q2 q3 q4⟩
    · cases h
  | tup => simp [resolve, resolve1] at h
  | _ =>
    unfold HRep HRep1 at hv
    exact one hv h
theorem resolveAll_sound (hs : Sim P may s a w g) {xs ys : List AV} {vs : List Value} {s' : St} (hl : vs.length = xs.length) (hv : ∀ (i : Nat) (c : AV) (u : Value), xs[i]? = some c → vs[i]? = some u → HRep P w g s.stores c u) (h : resolveAll s xs = some (s', ys)) :
    ∃ g', Settles P may s a w g s' g' ∧ vs.length = ys.length ∧ ∀ (i : Nat) (c : AV) (u : Value), ys[i]? = some c → vs[i]? = some u → Rep P w g'.M c u := by
  induction xs generalizing s g vs ys s' with
  | nil =>
    simp only [resolveAll, Option.some.injEq, Prod.mk.injEq] at h
    obtain ⟨rfl, rfl⟩ := h
    exact ⟨g, .refl hs, hl, fun i c u hc => by simp at hc⟩
  | cons x r ih =>
    simp only [resolveAll] at h
    split at h
    · rename_i s1 b h1
      split at h
      · rename_i s2 l h2
        simp only [Option.some.injEq, Prod.mk.injEq] at h
        obtain ⟨rfl, rfl⟩ := h
        cases vs with
        | nil => exact absurd hl (by simp)
        | cons v0 vr =>
          obtain ⟨g1, q1, q2⟩ := resolve_sound hs (hv 0 x v0 rfl rfl) h1
          obtain ⟨g2, p1, p2, p3⟩ := ih (vs := vr) q1.1 (by simpa using hl) (fun i c u hc hu => q1.hrep (S := s.stores) (hv (i + 1) c u (by simpa using hc) (by simpa using hu))) h2
          refine ⟨g2, q1.trans p1, by simp [p2], fun i c u hc hu => ?_⟩
          cases i with
          | zero => simp at hc hu; subst hc; subst hu; exact p1.rep q2
          | succ i => exact p3 i c u (by simpa using hc) (by simpa using hu)
      · cases h
    · cases h
theorem Settles.leaves {s1 s' : St} {g1 : Gh} {a' : Act} {w' : World} (h : Settles P may s a w g s1 g1) (k : Leaves P may s1 w g1 s' a' w') : Leaves P may s w g s' a' w' := by
  obtain ⟨g', q1, q2, q3⟩ := k
  exact ⟨g', q1, h.2.1.trans q2, (h.2.2.1.mono (by omega)).trans q3⟩
theorem zip_parts {l : List (Nat × AV)} {ys : List AV} {m : List (Nat × Value)} {S : List Store} (hl : m.length = l.length) (hn : ∀ (i : Nat) (x : Nat × AV) (y : Nat × Value), l[i]? = some x → m[i]? = some y → x.1 = y.1) (hy : (m.map (·.2)).length = ys.length)
    (hr : ∀ (i : Nat) (c : AV) (u : Value), ys[i]? = some c → (m.map (·.2))[i]? = some u → Rep P w g.M c u) : PartsRep P w g S ((l.map (·.1)).zip ys) m := by
  refine ⟨by simp at hy ⊢; omega, fun i x y hx hyy => ?_⟩
  have hm : i < m.length := (List.getElem?_eq_some_iff.1 hyy).1
  have hil : i < l.length := by omega
  have hiy : i < ys.length := by simp at hy; omega
  rw [List.getElem?_eq_getElem (by simp; omega)] at hx
  simp only [List.getElem_zip, List.getElem_map, Option.some.injEq] at hx
  subst hx
  have hme := (List.getElem?_eq_some_iff.1 hyy).2
  refine ⟨hn i l[i] y (by simp [hil]) hyy, ?_⟩
  exact HRep.of_rep (hr i ys[i] y.2 (by simp [hiy]) (by simp [hm, hme]))
theorem CellsRep.replicate {S : List Store} {cs : List AV} {vs : List Value} (h : CellsRep P w g S cs vs) (n : Nat) : CellsRep P w g S (List.replicate n cs).flatten (List.replicate n vs).flatten := by
  induction n with
  | zero => exact ⟨rfl, fun i c u hc => by simp at hc⟩
  | succ n ih => rw [List.replicate_succ, List.replicate_succ, List.flatten_cons, List.flatten_cons]; exact h.append ih
theorem fill_length {sz : Nat} {vs : List Value} {l : List (Nat × Value)} {r : Array Value} (h : Instr.fill (fun j => some (j * sz, sz)) vs.toArray l = some r) : r.size = vs.length := by
  induction l generalizing vs with
  | nil => simp [Instr.fill] at h; subst h; simp
  | cons x l ih =>
    obtain ⟨j, v⟩ := x
    simp only [Instr.fill] at h
    split at h
    · cases h
    · rename_i hh
      have hle : j * sz + v.cells.toList.length ≤ vs.length := by
        simp only [ne_eq, List.size_toArray, Bool.or_eq_true, decide_eq_true_eq, not_or, Decidable.not_not] at hh
        simp only [Array.length_toList]
        omega
      have e1 := foldl_lay (j * sz) v.cells.toList vs hle
      have hz' : v.cells.zipIdx.foldl (fun (cs : Array Value) (x : Value × Nat) => match x with | (c, k) => cs.setIfInBounds (j * sz + k) c) vs.toArray = (v.cells.toList.zipIdx).foldl (fun (cs : Array Value) (x : Value × Nat) => cs.setIfInBounds (j * sz + x.2) x.1) vs.toArray := by
        rw [← Array.foldl_toList]; simp
      rw [hz', e1] at h
      have := ih h
      rw [this]
      simp only [List.length_append, List.length_take, List.length_drop, Array.length_toList] at hle ⊢
      omega
theorem buildSliceA_sound (hs : Sim P may s a w g) (hm : ∀ b, w.heap.size ≤ b → may b) {s' : St} {d : Option Nat} {t : TypeId} {len : Nat} {l : List (Nat × AV)} {m : Array (Nat × Value)} (hl : PartsRep P w g s.stores l m.toList) (h : buildSliceA P s d t len l = some s') :
    ∃ z w', (Instr.buildSlice t len m).run P w = .ok z w' ∧ Leaves P may s w g s' (a.put d z) w' := by
  unfold buildSliceA at h
  split at h
  · rename_i e s1 ys he hres
    have hu := elemT_some he
    obtain ⟨g1, hset, hyl, hyr⟩ := resolveAll_sound hs (vs := m.toList.map (·.2)) (by simpa using hl.1) (fun i c u hc hu => by
      simp only [List.getElem?_map, Option.map_eq_some_iff] at hc hu
      obtain ⟨x, hx, rfl⟩ := hc
      obtain ⟨y, hy, rfl⟩ := hu
      exact (hl.2 i x y hx hy).2) hres
    split at h
    · rename_i n z hn hz
      split at h
      · cases h
      rename_i hno
      have hn0 : n ≠ 0 := fun e => hno (.inl e)
      have hsmall : ¬ len * n > 16777216 := fun e => hno (.inr (.inl e))
      have hzl : z.cells.length = n := Decidable.byContradiction fun e => hno (.inr (.inr e))
      have hce := sizeT_cells hn
      split at h
      · rename_i cs hf
        split at h
        · rename_i hval
          split at h
          · rename_i xs hch
            obtain ⟨agg, hag, hch⟩ := Option.bind_eq_some_iff.1 hch
            obtain ⟨i, hi, rfl⟩ := Option.map_eq_some_iff.1 hn
            obtain ⟨i', zv, hi', hzz, hzc⟩ := zeroT_some hz
            rw [hi] at hi'; cases hi'
            have hzs : zv.cells.size = i.size := by
              have := (constAV_cells (P := P) (w := w) (g := g1) (S := s1.stores) hzc).1.1
              simp only [Array.length_toList] at this
              rw [this, hzl]
            have hparts := zip_parts (g := g1) (S := s1.stores) hl.1 (fun i x y hx hy => (hl.2 i x y hx hy).1) hyl hyr
            have hbase : CellsRep P w g1 s1.stores ((List.replicate len z.cells).flatten) (flat (List.replicate len zv)) := by
              rw [flat_replicate]
              exact (constAV_cells (P := P) (w := w) (g := g1) (S := s1.stores) hzc).1.replicate len
            obtain ⟨us, hfill, hus⟩ := fillA_sound hparts hbase hf
            have hfl := madeCells_flat (n := len) hzs (by omega)
            have hszu : us.length = len * i.size := by
              have := fill_length hfill
              simp only [List.size_toArray] at this
              rw [this, flat_length (es := i.size) (fun u hu => by rw [List.eq_of_mem_replicate hu, hzs]), List.length_replicate]
            have hcsl : cs.length = len * P.cellsOf e := by rw [← hus.1, hszu, hce]
            rw [← hce] at hch
            obtain ⟨hxl, us2, hr2, hfl2⟩ := chunksA_sound hag (by rw [hce]; omega) hus hval hcsl hch
            have hrun : (Instr.buildSlice t len m).run P w = .ok (.slice (some ⟨w.heap.size, 0, none⟩) len len) (w.alloc (.cells us.toArray e)) := by
              by_cases h0 : len = 0
              · subst h0
                have hm0 : us = [] := List.eq_nil_of_length_eq_zero (by rw [hszu]; simp)
                subst hm0
                have hzero : flat (List.replicate 0 zv) = [] := rfl
                rw [hzero] at hfill
                simp [Instr.buildSlice, run_underlying hu, sizeOf, typeInfo, hi, newRow, Array.range_zero', hfill]
              · refine run_buildSlice w t e len m us.toArray i zv hu hi hzz (by simpa using hsmall) (Nat.mul_ne_zero h0 hn0) ?_
                have e2 : (Array.range (len * i.size)).map (zv.cells[· % zv.cells.size]!) = (flat (List.replicate len zv)).toArray := by
                  apply Array.ext'; rw [hfl]
                rw [e2]
                exact hfill
            refine ⟨_, _, hrun, ?_⟩
            have := fresh_sound (cur := us) (us := us2) (cap := len) (b := w.heap.size) hset.1 hm (Ext.alloc w (.cells us.toArray e)) h (Nat.le_refl _) (heap_alloc_new w _) (by rw [hce]; omega) (by rw [hszu, hce])
              (by simp only [maxLen]; have : len ≤ len * i.size := Nat.le_mul_of_pos_right _ (by omega); omega) (by omega) hr2 (by rw [hxl, hfl2, List.take_of_length_le (by rw [hszu, hce]; omega)])
            rw [hxl] at this
            exact hset.leaves this
          · cases h
        · cases h
      · cases h
    · cases h
  · cases h
end
end Go.AbsM
end

section
namespace Go.AbsM
section
variable {P : Program} {w : World} {g : Gh} {may : Nat → Prop} {S : List Store} {t : Store}
theorem HRep.inv_tup {as : List AV} {v : Value} {S : List Store} (h : HRep P w g S (.tup as) v) : ∃ vs : List Value, v = .tuple vs.toArray ∧ vs.length = as.length ∧ ∀ (i : Nat) (c : AV) (u : Value), as[i]? = some c → vs[i]? = some u → HRep1 P w g S c u := h
theorem HRep.of_one {x : AV} {v : Value} {S : List Store} (h : HRep1 P w g S x v) (hx : ∀ l, x ≠ .tup l) : HRep P w g S x v := by
  cases x <;> first | exact h | exact absurd rfl (hx _)
theorem HRep1.of_tup {as : List AV} {v : Value} {S : List Store} (h : HRep1 P w g S (.tup as) v) : False := h
def Gh.push (g : Gh) : Gh := { M := g.M, B := fun i k => match i with | 0 => 0 | i + 1 => g.B i k, C := fun i k => match i with | 0 => 0 | i + 1 => g.C i k }
def Gh.pop (g : Gh) : Gh := { M := g.M, B := fun i k => g.B (i + 1) k, C := fun i k => g.C (i + 1) k }
theorem AV.shift_shift (c : AV) (i : Nat) : (c.shift i).shift 1 = c.shift (i + 1) := by cases c <;> rfl
theorem CRep.push {c : AV} {v : Value} (h : CRep P w g S c v) : CRep P w g.push (t :: S) (c.shift 1) v := by cases c <;> exact h
theorem CRep.pop {c : AV} {v : Value} (h : CRep P w g (t :: S) (c.shift 1) v) : CRep P w g.pop S c v := by cases c <;> exact h
theorem HRep1.push {c : AV} {v : Value} (h : HRep1 P w g S c v) (hc : ∀ l, c ≠ .agg l) : HRep1 P w g.push (t :: S) (c.shift 1) v := by cases c <;> first | exact h | exact absurd rfl (hc _)
theorem HRep1.pop {c : AV} {v : Value} (h : HRep1 P w g (t :: S) (c.shift 1) v) (hc : ∀ l, c ≠ .agg l) : HRep1 P w g.pop S c v := by cases c <;> first | exact h | exact absurd rfl (hc _)
theorem SInv.push (h : SInv P w g may S) : SInv P w g.push may ([] :: S) := by
  refine ⟨fun i k cs hg => ?_, fun i k e xs hg => ?_, fun i k e xs hg => ?_, fun i k o i' k' o' hg hg' hl hl' he => ?_, h.mlt⟩
  · cases i with
    | zero => cases hg
    | succ i =>
      obtain ⟨h1, h2, vs, t, h3, h4, h5⟩ := h.box i k cs hg
      refine ⟨h1, h2, vs, t, h3, h4, fun j c u hc hu => ⟨?_, (h5 j c u hc hu).2⟩⟩
      rw [← AV.shift_shift]
      exact (h5 j c u hc hu).1.push
  · cases i with
    | zero => cases hg
    | succ i => exact h.arr i k e xs hg
  · cases i with
    | zero => cases hg
    | succ i => exact h.fz i k e xs hg
  · cases i with
    | zero => cases hg
    | succ i =>
      cases i' with
      | zero => cases hg'
      | succ i' =>
        have := h.inj i k o i' k' o' hg hg' hl hl' he
        exact ⟨by omega, this.2⟩
theorem SInv.pop (h : SInv P w g may (t :: S)) : SInv P w g.pop may S := by
  refine ⟨fun i k cs hg => ?_, fun i k e xs hg => h.arr (i + 1) k e xs hg, fun i k e xs hg => h.fz (i + 1) k e xs hg, fun i k o i' k' o' hg hg' hl hl' he => ?_, h.mlt⟩
  · obtain ⟨h1, h2, vs, t, h3, h4, h5⟩ := h.box (i + 1) k cs hg
    refine ⟨h1, h2, vs, t, h3, h4, fun j c u hc hu => ⟨?_, (h5 j c u hc hu).2⟩⟩
    have := (h5 j c u hc hu).1
    rw [← AV.shift_shift] at this
    exact this.pop
  · have := h.inj (i + 1) k o (i' + 1) k' o' hg hg' hl hl' he
    exact ⟨by omega, this.2⟩
theorem Kp.pop {S' : List Store} {t' : Store} {g' : Gh} (h : Kp 1 ([] :: S) g.push (t' :: S') g') : Kp 0 S g S' g'.pop :=
  ⟨fun i k cs _ hg => h.box (i + 1) k cs (by omega) hg, fun i k fz e xs _ hg => h.arr (i + 1) k fz e xs (by omega) hg⟩
def SlAt (P : Program) (w : World) (M : Nat → Nat → Prop) (e : TypeId) (xs : List AV) (v : Value) (b : Nat) : Prop :=
  0 < P.cellsOf e ∧ ∃ (cur us : List Value) (cap c : Nat), v = .slice (some ⟨b, 0, none⟩) xs.length c ∧ xs.length ≤ c ∧ c ≤ maxLen ∧ c * P.cellsOf e ≤ cur.length ∧
    w.heap[b]? = some (.cells cur.toArray e (0, 0)) ∧ cur.length = cap * P.cellsOf e ∧ cap ≤ maxLen ∧ xs.length ≤ cap ∧ RepL P w M e xs us ∧ cur.take (xs.length * P.cellsOf e) = flat us
def BoxAt (P : Program) (w : World) (M : Nat → Nat → Prop) (xs : List AV) (v : Value) (b : Nat) : Prop := ∃ cs, xs = [.agg cs] ∧
  v = .pointer (some ⟨b, 0, none⟩) ∧ cs.all AV.isVal = true ∧ ∃ (vs : List Value) (t : TypeId), w.heap[b]? = some (.cells vs.toArray t (0, 0)) ∧ vs.length = cs.length ∧
    ∀ (j : Nat) (c : AV) (u : Value), cs[j]? = some c → vs[j]? = some u → Rep P w M c u ∧ u.oneCell' = true
def OwnAt (P : Program) (may : Nat → Prop) (w : World) (g : Gh) (S : List Store) (e : TypeId) (xs : List AV) (v : Value) (b : Nat) : Prop :=
  may b ∧ (∀ o, ¬ g.M b o) ∧ (∀ i k o, getOb S i k = some o → o.loose = true → g.B i k ≠ b) ∧ ((Nat.beq e objE = false ∧ SlAt P w g.M e xs v b) ∨ (Nat.beq e objE = true ∧ BoxAt P w g.M xs v b))
def ORep (P : Program) (may : Nat → Prop) (w : World) (g : Gh) (S : List Store) (a : AV) (v : Value) (b : Nat) : Prop :=
  match a with
  | .own e xs => OwnAt P may w g S e xs v b
  | a => HRep1 P w g S a v
def OReps (P : Program) (may : Nat → Prop) (w : World) (g : Gh) (S : List Store) (as : List AV) (vs : List Value) : Prop :=
  vs.length = as.length ∧ ∃ bl : Nat → Nat, (∀ (i : Nat) (c : AV) (u : Value), as[i]? = some c → vs[i]? = some u → ORep P may w g S c u (bl i)) ∧
    ∀ (i j : Nat) (e : TypeId) (xs : List AV) (e' : TypeId) (xs' : List AV), as[i]? = some (.own e xs) → as[j]? = some (.own e' xs') → bl i = bl j → i = j
def ResRep (P : Program) (may : Nat → Prop) (w : World) (g : Gh) (S : List Store) (r : AV) (v : Value) : Prop :=
  match r with
  | .tup as => ∃ vs : List Value, v = .tuple vs.toArray ∧ OReps P may w g S as vs
  | r => ∃ b, ORep P may w g S r v b
def CallC (P : Program) (f : FuncId) (args : List AV) (S S' : List Store) (r : AV) : Prop :=
  ∀ (may : Nat → Prop) (w : World) (g : Gh) (vs : List Value), SInv P w g may S → (∀ b, w.heap.size ≤ b → may b) → vs.length = args.length →
    (∀ (i : Nat) (x : AV) (v : Value), args[i]? = some x → vs[i]? = some v → HRep P w g.push ([] :: S) x v) →
    Calls P f vs.toArray w fun e w' => ∃ v g', e = .returned v ∧ Fr may w g.M w' g'.M ∧ SInv P w' g' may S' ∧ Kp 0 S g S' g' ∧ ResRep P may w' g' S' r v
theorem loadAt_var {t : TypeId} {v u : Value} (h : (Instr.loadAt t v).run P w = .ok u w) : ∃ A, v = .pointer (some A) ∧ (loadVar t A).run P w = .ok u w := by
  cases v with
  | pointer A =>
    cases A with
    | none => simp [Instr.loadAt, Instr.sureAddr, stuck] at h
    | some A => exact ⟨A, rfl, by simpa [Instr.loadAt, Instr.sureAddr] using h⟩
  | _ => simp [Instr.loadAt, Instr.sureAddr, stuck] at h
section
variable {s s' : St} {a : Act}
def HReps (P : Program) (w : World) (g : Gh) (S : List Store) (as : List AV) (vs : List Value) : Prop :=
  vs.length = as.length ∧ ∀ (i : Nat) (c : AV) (u : Value), as[i]? = some c → vs[i]? = some u → HRep P w g S c u
theorem HReps.nil {S : List Store} : HReps P w g S [] [] := ⟨rfl, fun i c u h => by simp at h⟩
theorem HReps.cons {S : List Store} {x : AV} {as : List AV} {v : Value} {vs : List Value} (h : HRep P w g S x v) (k : HReps P w g S as vs) : HReps P w g S (x :: as) (v :: vs) := by
  refine ⟨by simp [k.1], fun i c u hc hu => ?_⟩
  cases i with
  | zero => simp at hc hu; subst hc; subst hu; exact h
  | succ i => simp at hc hu; exact k.2 i c u hc hu
theorem HReps.head {S : List Store} {x : AV} {as : List AV} {v : Value} {vs : List Value} (h : HReps P w g S (x :: as) (v :: vs)) : HRep P w g S x v := h.2 0 x v rfl rfl
theorem HReps.tail {S : List Store} {x : AV} {as : List AV} {v : Value} {vs : List Value} (h : HReps P w g S (x :: as) (v :: vs)) : HReps P w g S as vs :=
  ⟨by have := h.1; simpa using this, fun i c u hc hu => h.2 (i + 1) c u (by simpa using hc) (by simpa using hu)⟩
theorem HReps.split {S : List Store} {x : AV} {as : List AV} {vs : List Value} (h : HReps P w g S (x :: as) vs) : ∃ v us, vs = v :: us ∧ HRep P w g S x v ∧ HReps P w g S as us := by
  cases vs with
  | nil => have := h.1; simp at this
  | cons v us => exact ⟨v, us, rfl, h.head, h.tail⟩
theorem HReps.split0 {S : List Store} {vs : List Value} (h : HReps P w g S [] vs) : vs = [] := by
  have := h.1; simpa using this
theorem resultAll_sound (hs : Sim P may s a w g) {rs : List ResultVar} {l : List AV} {f : ResultVar → Sem Value} (hf : ∀ t, f (.tmp t) = pure (a.tmps.getD t undef)) (hf' : ∀ c t, f (.cell c t) = do loadVar t (← asAddr (a.tmps.getD c undef))) (h : resultAll P s rs = some l) :
    ∃ vs : List Value, (rs.mapM f).run P w = .ok vs w ∧ HReps P w g s.stores l vs := by
  induction rs generalizing l with
  | nil => simp [resultAll] at h; subst h; exact ⟨[], rfl, .nil⟩
  | cons r rs ih =>
    simp only [resultAll] at h
    split at h
    · rename_i x k hx hk
      simp only [Option.some.injEq] at h; subst h
      obtain ⟨vs, hrun, hv⟩ := ih hk
      cases r with
      | tmp t =>
        simp only [resultOne, Option.some.injEq] at hx; subst hx
        exact ⟨_ :: vs, by simp only [List.mapM_cons, hf, Sem.run_bind, Sem.run_pure, Result.andThen_ok, hrun], .cons (hs.get t) hv⟩
      | cell c t =>
        simp only [resultOne] at hx
        obtain ⟨u, h1, h2⟩ := loadA_sound hs.inv (hs.get c) hx
        obtain ⟨A, hA, h1⟩ := loadAt_var h1
        exact ⟨u :: vs, by simp only [List.mapM_cons, hf', hA, asAddr, Sem.run_bind, Sem.run_pure, Result.andThen_ok, h1, hrun], .cons h2 hv⟩
    · cases h
theorem HReps.settles {s' : St} {g' : Gh} (h : Settles P may s a w g s' g') {as : List AV} {vs : List Value} (k : HReps P w g s.stores as vs) : HReps P w g' s'.stores as vs :=
  ⟨k.1, fun i c u hc hu => h.hrep (S := []) (k.2 i c u hc hu)⟩
theorem settleOne_sound (hs : Sim P may s a w g) {x y : AV} {v : Value} (hv : HRep P w g s.stores x v) (h : settleOne s x = some (s', y)) : ∃ g', Settles P may s a w g s' g' ∧ HRep P w g' s'.stores y v := by
  unfold settleOne at h
  split at h
  · obtain ⟨g', h1, h2⟩ := resolve_sound hs hv h
    exact ⟨g', h1, HRep.of_rep h2⟩
  · split at h
    · simp only [Option.some.injEq, Prod.mk.injEq] at h
      obtain ⟨rfl, rfl⟩ := h
      exact ⟨g, .refl hs, hv⟩
    · have hv : CRep P w g s.stores (.arr 0 _ _ _ _ _) v := hv
      obtain ⟨g', h1, h2, _⟩ := resolve1_sound hs hv h
      exact ⟨g', h1, HRep.of_rep h2⟩
  · simp only [Option.some.injEq, Prod.mk.injEq] at h
    obtain ⟨rfl, rfl⟩ := h
    exact ⟨g, .refl hs, hv⟩
theorem settle_sound (hs : Sim P may s a w g) {xs ys : List AV} {vs : List Value} (hv : HReps P w g s.stores xs vs) (h : settle s xs = some (s', ys)) : ∃ g', Settles P may s a w g s' g' ∧ HReps P w g' s'.stores ys vs := by
  induction xs generalizing s g ys vs with
  | nil =>
    simp only [settle, Option.some.injEq, Prod.mk.injEq] at h
    obtain ⟨rfl, rfl⟩ := h
    exact ⟨g, .refl hs, hv⟩
  | cons x r ih =>
    simp only [settle] at h
    split at h
    · rename_i s1 b hb
      split at h
      · rename_i s2 l hl
        simp only [Option.some.injEq, Prod.mk.injEq] at h
        obtain ⟨rfl, rfl⟩ := h
        obtain ⟨v, us, rfl, hx, hr⟩ := hv.split
        obtain ⟨g1, h1, hb'⟩ := settleOne_sound hs hx hb
        obtain ⟨g2, h2, hl'⟩ := ih h1.1 (hr.settles h1) hl
        exact ⟨g2, h1.trans h2, .cons (h2.hrep (S := []) hb') hl'⟩
      · cases h
    · cases h
theorem wholeA_spec {k : Nat} {e : TypeId} {lo n tot : Nat} (h : wholeA s k e lo n tot = true) : ∃ xs, getOb s.stores 0 k = some (.arr false e xs) ∧ xs.length = tot ∧ lo = 0 ∧ n = tot := by
  unfold wholeA at h
  split at h
  · rename_i fz e' xs hg
    simp only [Bool.and_eq_true, Bool.not_eq_true', beq_iff_eq] at h
    obtain ⟨⟨⟨⟨rfl, h1⟩, rfl⟩, h2⟩, h3⟩ := h
    exact ⟨xs, hg, h1, h2, h3⟩
  · cases h
theorem outOne_sound {t : Store} {S : List Store} (hst : s.stores = t :: S) (hi : SInv P w g may s.stores) {used us' : List Nat} {x y : AV} {v : Value} (hv : HRep P w g s.stores x v) (h : outOne s used x = some (us', y)) :
    (∃ k e xs, y = .own e xs ∧ us' = k :: used ∧ k ∉ used ∧ (∃ o, getOb s.stores 0 k = some o ∧ o.loose = true) ∧ OwnAt P may w g.pop S e xs v (g.B 0 k)) ∨
    ((∀ e xs, y ≠ .own e xs) ∧ us' = used ∧ HRep1 P w g.pop S y v) := by
  unfold outOne at h
  split at h
  · rename_i k e lo n tot
    split at h
    · rename_i hc
      split at h
      · rename_i fz e' xs hg
        simp only [Option.some.injEq, Prod.mk.injEq] at h
        obtain ⟨rfl, rfl⟩ := h
        have hbx := hc.2
        obtain ⟨ys, hg', hlen, rfl, rfl⟩ := wholeA_spec hc.1.1
        rw [hg] at hg'
        simp only [Option.some.injEq, Ob.arr.injEq] at hg'
        obtain ⟨rfl, rfl, rfl⟩ := hg'
        refine .inl ⟨k, _, _, rfl, rfl, by simpa using hc.1.2, ⟨_, hg, rfl⟩, ?_⟩
        obtain ⟨fz, ys, hg2, ht, hq⟩ := hv.inv_arr
        rw [hg] at hg2
        simp only [Option.some.injEq, Ob.arr.injEq] at hg2
        obtain ⟨rfl, _, rfl⟩ := hg2
        obtain ⟨hln, A, c, rfl, hnc, hcm, hA, hC⟩ := (hq.1 hlen)
        obtain ⟨h1, h2, he, cur, us, cap, h3, h4, h5, h6, h7, h8, h9⟩ := hi.arr 0 k _ _ hg
        refine ⟨h1, h2, fun i k' o ho hl heq => ?_, .inl ⟨hbx, he, cur, us, cap, c, ?_, by omega, hcm, ?_, h3, by rw [h4, h5], h6, h7, h8, h9⟩⟩
        · have hh : getOb s.stores (i + 1) k' = some o := by rw [hst]; exact ho
          have := hi.inj (i + 1) k' o 0 k _ hh hg hl rfl heq
          omega
        · rw [hA (.inl rfl), ← hlen]; simp
        · rw [h4]; simpa using hC rfl
      · cases h
    · cases h
  · rename_i k
    split at h
    · rename_i cs hg
      split at h
      · rename_i hc
        simp only [Option.some.injEq, Prod.mk.injEq] at h
        obtain ⟨rfl, rfl⟩ := h
        refine .inl ⟨k, _, _, rfl, rfl, by simpa using hc.2, ⟨_, hg, rfl⟩, ?_⟩
        have hv' : CRep P w g s.stores (.ref 0 k 0) v := hv
        obtain ⟨_, rfl⟩ := hv'
        obtain ⟨h1, h2, vs, t0, h3, h4, h5⟩ := hi.box 0 k cs hg
        refine ⟨h1, h2, fun i k' o ho hl heq => ?_, .inr ⟨rfl, cs, rfl, rfl, hc.1, vs, t0, h3, h4, fun j c u hcj hu => ?_⟩⟩
        · have hh : getOb s.stores (i + 1) k' = some o := by rw [hst]; exact ho
          have := hi.inj (i + 1) k' o 0 k _ hh hg hl rfl heq
          omega
        · have hval := List.all_eq_true.1 hc.1 c (List.mem_of_getElem? hcj)
          obtain ⟨q1, q2⟩ := h5 j c u hcj hu
          rw [AV.shift_zero] at q1
          exact ⟨q1.rep hval, q2⟩
      · cases h
    · cases h
  · simp only [Option.some.injEq, Prod.mk.injEq] at h
    obtain ⟨rfl, rfl⟩ := h
    rw [hst] at hv
    exact .inr ⟨fun e xs => by simp, rfl, HRep1.of_cell (CRep.pop hv)⟩
  · simp only [Option.some.injEq, Prod.mk.injEq] at h
    obtain ⟨rfl, rfl⟩ := h
    rw [hst] at hv
    exact .inr ⟨fun e xs => by simp, rfl, HRep1.of_cell (CRep.pop hv)⟩
  · simp only [Option.some.injEq, Prod.mk.injEq] at h
    obtain ⟨rfl, rfl⟩ := h
    exact .inr ⟨fun e xs => by simp, rfl, hv⟩
  · simp only [Option.some.injEq, Prod.mk.injEq] at h
    obtain ⟨rfl, rfl⟩ := h
    exact .inr ⟨fun e xs => by simp, rfl, hv⟩
  · simp only [Option.some.injEq, Prod.mk.injEq] at h
    obtain ⟨rfl, rfl⟩ := h
    exact .inr ⟨fun e xs => by simp, rfl, hv⟩
  · simp only [Option.some.injEq, Prod.mk.injEq] at h
    obtain ⟨rfl, rfl⟩ := h
    exact .inr ⟨fun e xs => by simp, rfl, hv⟩
  · simp only [Option.some.injEq, Prod.mk.injEq] at h
    obtain ⟨rfl, rfl⟩ := h
    exact .inr ⟨fun e xs => by simp, rfl, hv⟩
  · rename_i cs
    split at h
    · rename_i hall
      simp only [Option.some.injEq, Prod.mk.injEq] at h
      obtain ⟨rfl, rfl⟩ := h
      refine .inr ⟨fun e xs => by simp, rfl, ?_⟩
      obtain ⟨vs, rfl, hl, hr⟩ := hv.inv_agg
      refine ⟨vs, rfl, hl, fun i c u hc hu => ⟨?_, (hr i c u hc hu).2⟩⟩
      have hval := List.all_eq_true.1 hall c (List.mem_of_getElem? hc)
      exact CRep.of_rep (g := g.pop) ((hr i c u hc hu).1.rep hval) hval
    · cases h
  · cases h
theorem outAll_sound {t : Store} {S : List Store} (hst : s.stores = t :: S) (hi : SInv P w g may s.stores) {used : List Nat} {xs ys : List AV} {vs : List Value} (hv : HReps P w g s.stores xs vs) (h : outAll s used xs = some ys) :
    vs.length = ys.length ∧ ∃ ks : Nat → Nat, (∀ (i : Nat) (c : AV) (u : Value), ys[i]? = some c → vs[i]? = some u → ORep P may w g.pop S c u (g.B 0 (ks i))) ∧
      (∀ (i : Nat) (e : TypeId) (zs : List AV), ys[i]? = some (.own e zs) → ks i ∉ used ∧ ∃ o, getOb s.stores 0 (ks i) = some o ∧ o.loose = true) ∧
      ∀ (i j : Nat) (e : TypeId) (zs : List AV) (e' : TypeId) (zs' : List AV), ys[i]? = some (.own e zs) → ys[j]? = some (.own e' zs') → ks i = ks j → i = j := by
  induction xs generalizing used ys vs with
  | nil =>
    simp only [outAll, Option.some.injEq] at h; subst h
    have := hv.split0; subst this
    exact ⟨rfl, fun _ => 0, fun i c u hc => by simp at hc, fun i e zs hc => by simp at hc, fun i j e zs e' zs' hc => by simp at hc⟩
  | cons x r ih =>
    simp only [outAll] at h
    split at h
    · rename_i u1 y hy
      split at h
      · rename_i l hl
        simp only [Option.some.injEq] at h; subst h
        obtain ⟨v, us, rfl, hx, hr⟩ := hv.split
        obtain ⟨hlen, ks, h1, h2, h3⟩ := ih hr hl
        rcases outOne_sound hst hi hx hy with ⟨k, e, zs, rfl, rfl, hk, hg, ho⟩ | ⟨hno, rfl, ho⟩
        · refine ⟨by simp [hlen], fun i => match i with | 0 => k | i + 1 => ks i, fun i c u hc hu => ?_, fun i e' zs' hc => ?_, fun i j e1 zs1 e2 zs2 hi' hj' he => ?_⟩
          · cases i with
            | zero => simp at hc hu; subst hc; subst hu; exact ho
            | succ i => simp at hc hu; exact h1 i c u hc hu
          · cases i with
            | zero => exact ⟨hk, hg⟩
            | succ i =>
              simp at hc
              obtain ⟨q1, q2⟩ := h2 i _ _ hc
              exact ⟨fun hm => q1 (List.mem_cons_of_mem _ hm), q2⟩
          · cases i with
            | zero =>
              cases j with
              | zero => rfl
              | succ j =>
                simp at hj'
                have := (h2 j _ _ hj').1
                simp only at he
                rw [← he] at this
                exact absurd List.mem_cons_self this
            | succ i =>
              cases j with
              | zero =>
                simp at hi'
                have := (h2 i _ _ hi').1
                simp only at he
                rw [he] at this
                exact absurd List.mem_cons_self this
              | succ j =>
                simp at hi' hj'
                rw [h3 i j _ _ _ _ hi' hj' he]
        · refine ⟨by simp [hlen], fun i => match i with | 0 => 0 | i + 1 => ks i, fun i c u hc hu => ?_, fun i e' zs' hc => ?_, fun i j e1 zs1 e2 zs2 hi' hj' he => ?_⟩
          · cases i with
            | zero =>
              simp at hc hu; subst hc; subst hu
              unfold ORep
              split
              · exact absurd rfl (hno _ _)
              · exact ho
            | succ i => simp at hc hu; exact h1 i c u hc hu
          · cases i with
            | zero => simp at hc; exact absurd hc (hno _ _)
            | succ i => simp at hc; exact h2 i _ _ hc
          · cases i with
            | zero => simp at hi'; exact absurd hi' (hno _ _)
            | succ i =>
              cases j with
              | zero => simp at hj'; exact absurd hj' (hno _ _)
              | succ j =>
                simp at hi' hj'
                rw [h3 i j _ _ _ _ hi' hj' he]
      · cases h
    · cases h
end
end
end Go.AbsM
end

section
namespace Go.AbsM
section
variable {P : Program} {w : World} {g : Gh} {may : Nat → Prop} {s s' : St} {a : Act}
def Lone (g : Gh) (S : List Store) (b : Nat) : Prop := (∀ o, ¬ g.M b o) ∧ ∀ i k o, getOb S i k = some o → o.loose = true → g.B i k ≠ b
theorem Lone.create {S : List Store} (hne : S ≠ []) {b b0 c0 k : Nat} {o : Ob} (h : Lone g S b) (hb : b ≠ b0) : Lone (g.new k b0 c0) (createS S k o) b := by
  refine ⟨h.1, fun i j p hp hl he => ?_⟩
  rw [getOb_createS hne] at hp
  by_cases h0 : i = 0
  · subst h0
    rw [if_pos rfl] at hp
    by_cases hj : j = k
    · subst hj
      simp [Gh.new] at he
      exact hb he.symm
    · rw [if_neg hj] at hp
      obtain ⟨q, hq, rfl⟩ := Option.map_eq_some_iff.1 hp
      have hl' : q.loose = true := by cases q <;> exact hl
      refine h.2 0 j q hq hl' ?_
      simpa [Gh.new, hj] using he
  · rw [if_neg h0] at hp
    refine h.2 i j p hp hl ?_
    simpa [Gh.new, h0] using he
theorem own_create (hs : Sim P may s a w g) {e : TypeId} {xs : List AV} {v : Value} {b : Nat} (ho : OwnAt P may w g s.stores e xs v b) (k : Nat) (hbx : Nat.beq e objE = false) :
    ∃ c0, Sim P may (s.create k (.arr false e xs)) a w (g.new k b c0) ∧ HRep1 P w (g.new k b c0) (createS s.stores k (.arr false e xs)) (.arr 0 k e 0 xs.length xs.length) v := by
  obtain ⟨h1, h2, h3, h4⟩ := ho
  rcases h4 with ⟨_, h4⟩ | ⟨h4, _⟩
  case inr => rw [hbx] at h4; cases h4
  obtain ⟨he, cur, us, cap, c, rfl, hxc, hcm, hcc, hh, hcur, hcap, hxcap, hr, ht⟩ := h4
  refine ⟨cap * P.cellsOf e, hs.createG (Ext.refl w) h1 h2 h3 ⟨rfl, he, cur, us, cap, hh, hcur, rfl, hcap, hxcap, hr, ht⟩, false, xs, ?_, Nat.le_refl _, fun _ => ⟨by omega, _, c, rfl, hxc, hcm, fun _ => by simp [Gh.new], fun _ => ?_⟩, rfl⟩
  · rw [getOb_createS hs.ne]; simp
  · simp [Gh.new]; omega
theorem box_create (hs : Sim P may s a w g) {e : TypeId} {xs : List AV} {v : Value} {b : Nat} (ho : OwnAt P may w g s.stores e xs v b) (k : Nat) (hbx : Nat.beq e objE = true) :
    ∃ cs c0, xs = [.agg cs] ∧ Sim P may (s.create k (.box cs)) a w (g.new k b c0) ∧ HRep1 P w (g.new k b c0) (createS s.stores k (.box cs)) (.ref 0 k 0) v := by
  obtain ⟨h1, h2, h3, h4⟩ := ho
  rcases h4 with ⟨h4, _⟩ | ⟨_, h4⟩
  case inl => rw [hbx] at h4; cases h4
  obtain ⟨cs, rfl, rfl, hval, vs, t, hh, hl, hr⟩ := h4
  refine ⟨cs, 0, rfl, hs.createG (Ext.refl w) h1 h2 h3 ⟨vs, t, hh, hl, fun j c u hc hu => ⟨CRep.of_rep (g := g.new k b 0) (hr j c u hc hu).1 (List.all_eq_true.1 hval c (List.mem_of_getElem? hc)), (hr j c u hc hu).2⟩⟩, ⟨cs, ?_⟩, ?_⟩
  · rw [getOb_createS hs.ne]; simp
  · simp [Gh.new]
theorem HRep1.kill {S : List Store} {x : AV} {v : Value} (h : HRep1 P w g S x v) (k : Nat) : HRep1 P w g S (x.kill1 k) v := by
  have cell : ∀ {c : AV} {u : Value}, CRep P w g S c u → CRep P w g S (c.killCell k) u := by
    intro c u h
    cases c with
    | arr i j e lo n tot => cases i with
      | zero => simp only [AV.killCell]; split
                · trivial
                · exact h
      | succ i => exact h
    | ref i j off => cases i with
      | zero => simp only [AV.killCell]; split
                · trivial
                · exact h
      | succ i => exact h
    | ear i j e tot m off => cases i with
      | zero => simp only [AV.killCell]; split
                · trivial
                · exact h
      | succ i => exact h
    | _ => exact h
  cases x with
  | agg cs =>
    obtain ⟨vs, hv, hl, hr⟩ := h
    refine ⟨vs, hv, by simpa using hl, fun i c u hc hu => ?_⟩
    simp only [List.getElem?_map, Option.map_eq_some_iff] at hc
    obtain ⟨c', hc, rfl⟩ := hc
    exact ⟨cell (hr i c' u hc hu).1, (hr i c' u hc hu).2⟩
  | _ =>
    unfold HRep1 at h
    exact HRep1.of_cell (cell h)
theorem HRep1.kills {S : List Store} {v : Value} (n : Nat) : ∀ (k : Nat) {x : AV}, HRep1 P w g S x v → HRep1 P w g S (x.kills k n) v := by
  induction n with
  | zero => intro k x h; exact h
  | succ n ih => intro k x h; exact ih (k + 1) (h.kill k)
theorem AV.killCell_comm (k j : Nat) (x : AV) : (x.killCell k).killCell j = (x.killCell j).killCell k := by
  cases x with
  | arr i m e lo n tot => cases i with
    | zero => by_cases h1 : m = k <;> by_cases h2 : m = j <;> simp_all [AV.killCell]
    | succ i => rfl
  | ref i m off => cases i with
    | zero => by_cases h1 : m = k <;> by_cases h2 : m = j <;> simp_all [AV.killCell]
    | succ i => rfl
  | ear i m e tot q off => cases i with
    | zero => by_cases h1 : m = k <;> by_cases h2 : m = j <;> simp_all [AV.killCell]
    | succ i => rfl
  | _ => rfl
theorem AV.kill1_comm (k j : Nat) (x : AV) : (x.kill1 k).kill1 j = (x.kill1 j).kill1 k := by
  cases x with
  | agg cs => simp only [AV.kill1, List.map_map]; congr 2; funext c; exact AV.killCell_comm k j c
  | arr i m e lo n tot => cases i with
    | zero => by_cases h1 : m = k <;> by_cases h2 : m = j <;> simp_all [AV.kill1, AV.killCell]
    | succ i => rfl
  | ref i m off => cases i with
    | zero => by_cases h1 : m = k <;> by_cases h2 : m = j <;> simp_all [AV.kill1, AV.killCell]
    | succ i => rfl
  | ear i m e tot q off => cases i with
    | zero => by_cases h1 : m = k <;> by_cases h2 : m = j <;> simp_all [AV.kill1, AV.killCell]
    | succ i => rfl
  | _ => rfl
theorem AV.kills_kill1 (n : Nat) : ∀ (k j : Nat) (x : AV), (x.kill1 j).kills k n = (x.kills k n).kill1 j := by
  induction n with
  | zero => intro k j x; rfl
  | succ n ih => intro k j x; simp only [AV.kills]; rw [AV.kill1_comm, ih]
theorem kills_own (e : TypeId) (xs : List AV) (n : Nat) : ∀ k, (AV.own e xs).kills k n = .own e xs := by
  induction n with
  | zero => intro k; rfl
  | succ n ih => intro k; exact ih (k + 1)
theorem inOne_sound (hs : Sim P may s a w g) {x : AV} {v : Value} {b : Nat} (hx : ORep P may w g s.stores x v b) (k : Nat) (hk : k < 500000) :
    ∃ g', Sim P may (inOne s k x).1 a w g' ∧ g'.M = g.M ∧ Kp 1 s.stores g (inOne s k x).1.stores g' ∧ HRep1 P w g' (inOne s k x).1.stores (inOne s k x).2 v ∧
      (∀ (y : AV) (u : Value), HRep1 P w g s.stores y u → HRep1 P w g' (inOne s k x).1.stores (y.kill1 k) u) ∧ ∀ c, Lone g s.stores c → ((∃ e xs, x = .own e xs) → c ≠ b) → Lone g' (inOne s k x).1.stores c := by
  by_cases ho : ∃ e xs, x = .own e xs
  · obtain ⟨e, xs, rfl⟩ := ho
    cases hbx : Nat.beq e objE with
    | false =>
      have hin : inOne s k (.own e xs) = (s.create k (.arr false e xs), .arr 0 k e 0 xs.length xs.length) := by simp only [inOne, hbx]
      rw [hin]
      obtain ⟨c0, h1, h2⟩ := own_create hs hx k hbx
      exact ⟨_, h1, rfl, Kp.create hs.ne k hk _ b c0, h2, fun y u hy => hy.create (Ext.refl w) hs.inv.mlt hs.ne, fun c hc hne => hc.create hs.ne (hne ⟨e, xs, rfl⟩)⟩
    | true =>
      obtain ⟨cs, c0, rfl, h1, h2⟩ := box_create hs hx k hbx
      have hin : inOne s k (.own e [.agg cs]) = (s.create k (.box cs), .ref 0 k 0) := by simp only [inOne, hbx]
      rw [hin]
      exact ⟨_, h1, rfl, Kp.create hs.ne k hk _ b c0, h2, fun y u hy => hy.create (Ext.refl w) hs.inv.mlt hs.ne, fun c hc hne => hc.create hs.ne (hne ⟨e, _, rfl⟩)⟩
  · have h1 : inOne s k x = (s, x) := by cases x <;> first | rfl | exact absurd ⟨_, _, rfl⟩ ho
    rw [h1]
    refine ⟨g, hs, rfl, Kp.refl _ _ _, ?_, fun y u hy => hy.kill k, fun c hc _ => hc⟩
    cases x <;> first | exact hx | exact absurd ⟨_, _, rfl⟩ ho
theorem OwnAt.lone {S : List Store} {e : TypeId} {xs : List AV} {v : Value} {b : Nat} (h : OwnAt P may w g S e xs v b) : Lone g S b := ⟨h.2.1, h.2.2.1⟩
theorem OwnAt.move {S S' : List Store} {g' : Gh} {e : TypeId} {xs : List AV} {v : Value} {b : Nat} (h : OwnAt P may w g S e xs v b) (hM : g'.M = g.M) (hl : Lone g' S' b) : OwnAt P may w g' S' e xs v b := by
  obtain ⟨h1, h2, h3, h4⟩ := h
  exact ⟨h1, hl.1, hl.2, by rw [hM]; exact h4⟩
theorem inAll_sound (hs : Sim P may s a w g) {as : List AV} {vs : List Value} {bl : Nat → Nat} (hl : vs.length = as.length) (hr : ∀ (i : Nat) (c : AV) (u : Value), as[i]? = some c → vs[i]? = some u → ORep P may w g s.stores c u (bl i))
    (hd : ∀ (i j : Nat) (e : TypeId) (xs : List AV) (e' : TypeId) (xs' : List AV), as[i]? = some (.own e xs) → as[j]? = some (.own e' xs') → bl i = bl j → i = j) (k : Nat) (hk : k + as.length ≤ 500000) :
    ∃ g', Sim P may (inAll s k as).1 a w g' ∧ g'.M = g.M ∧ Kp 1 s.stores g (inAll s k as).1.stores g' ∧ vs.length = (inAll s k as).2.length ∧
      (∀ (i : Nat) (c : AV) (u : Value), (inAll s k as).2[i]? = some c → vs[i]? = some u → HRep1 P w g' (inAll s k as).1.stores c u) ∧
      (∀ (y : AV) (u : Value), HRep1 P w g s.stores y u → HRep1 P w g' (inAll s k as).1.stores (y.kills k as.length) u) ∧
      ∀ c, Lone g s.stores c → (∀ i e xs, as[i]? = some (.own e xs) → c ≠ bl i) → Lone g' (inAll s k as).1.stores c := by
  induction as generalizing k vs bl with
  | nil => exact ⟨g, hs, rfl, Kp.refl _ _ _, hl, fun i c u hc => by simp [inAll] at hc, fun y u hy => hy, fun c hc _ => hc⟩
  | cons x r ih =>
    cases vs with
    | nil => simp at hl
    | cons v us =>
      obtain ⟨g1, h1, hM1, hK1, hl1, hr1, ht1, hlo1⟩ := ih (vs := us) (bl := fun i => bl (i + 1)) (by simpa using hl) (fun i c u hc hu => hr (i + 1) c u (by simpa using hc) (by simpa using hu))
        (fun i j e xs e' xs' hi hj he => by have := hd (i + 1) (j + 1) e xs e' xs' (by simpa using hi) (by simpa using hj) he; omega) (k + 1) (by rw [List.length_cons] at hk; omega)
      have hx := hr 0 x v rfl rfl
      have hx1 : ORep P may w g1 (inAll s (k + 1) r).1.stores (x.kills (k + 1) r.length) v (bl 0) := by
        by_cases ho : ∃ e xs, x = .own e xs
        · obtain ⟨e, xs, rfl⟩ := ho
          rw [kills_own]
          refine OwnAt.move hx hM1 (hlo1 _ (OwnAt.lone hx) fun i e' xs' hi he => ?_)
          have := hd 0 (i + 1) e xs e' xs' rfl (by simpa using hi) he
          omega
        · have hx' : HRep1 P w g s.stores x v := by cases x <;> first | exact hx | exact absurd ⟨_, _, rfl⟩ ho
          have := ht1 x v hx'
          unfold ORep
          split
          · rename_i e; rw [e] at this; exact this.elim
          · exact this
      obtain ⟨g2, h2, hM2, hK2, hr2, ht2, hlo2⟩ := inOne_sound h1 hx1 k (by rw [List.length_cons] at hk; omega)
      refine ⟨g2, h2, hM2.trans hM1, hK1.trans hK2, by simp [inAll, hl1], fun i c u hc hu => ?_, fun y u hy => ?_, fun c hc hne => ?_⟩
      · simp only [inAll] at hc
        cases i with
        | zero => simp at hc hu; subst hc; subst hu; exact hr2
        | succ i =>
          simp only [List.getElem?_cons_succ, List.getElem?_map, Option.map_eq_some_iff] at hc hu
          obtain ⟨c', hc, rfl⟩ := hc
          exact ht2 c' u (hr1 i c' u hc hu)
      · have := ht2 _ u (ht1 y u hy)
        rw [← AV.kills_kill1] at this
        exact this
      · refine hlo2 c (hlo1 c hc fun i e xs hi => hne (i + 1) e xs (by simpa using hi)) fun ⟨e, xs, he⟩ => ?_
        by_cases ho : ∃ e xs, x = .own e xs
        · obtain ⟨e', xs', rfl⟩ := ho
          exact hne 0 e' xs' rfl
        · exfalso
          rw [he] at hx1
          have hx' : HRep1 P w g s.stores x v := by cases x <;> first | exact hx | exact absurd ⟨_, _, rfl⟩ ho
          have := ht1 x v hx'
          rw [he] at this
          exact this.elim
theorem bindA_sound (hs : Sim P may s a w g) {r : AV} {v : Value} (hr : ResRep P may w g s.stores r v) (d : Option Nat) : Leaves P may s w g (bindA s d r) (a.put d v) w := by
  cases d with
  | none => exact .same hs rfl
  | some k =>
    by_cases ht : ∃ as, r = .tup as
    · obtain ⟨as, rfl⟩ := ht
      obtain ⟨vs, rfl, hl, bl, h1, h2⟩ := hr
      by_cases hk : home k 0 + as.length ≤ 500000
      case neg =>
        have hb : bindA s (some k) (.tup as) = s.put (some k) .dead := by simp only [bindA, if_neg hk]
        rw [hb]
        exact ⟨g, hs.put (x := .dead) trivial (some k), Fr.refl _ _ _, by rw [put_stores]; exact Kp.refl _ _ _⟩
      have hb : bindA s (some k) (.tup as) = (inAll s (home k 0) as).1.put (some k) (.tup (inAll s (home k 0) as).2) := by simp only [bindA, if_pos hk]
      rw [hb]
      obtain ⟨g', q1, q2, q3, q4, q5, _⟩ := inAll_sound hs hl h1 h2 (home k 0) hk
      refine ⟨g', q1.put (x := .tup (inAll s (home k 0) as).2) ⟨vs, rfl, q4, q5⟩ (some k), ?_, q3⟩
      rw [q2]; exact Fr.refl _ _ _
    · obtain ⟨b, ho⟩ : ∃ b, ORep P may w g s.stores r v b := by cases r <;> first | exact hr | exact absurd ⟨_, rfl⟩ ht
      by_cases hk : k < 500000
      case neg =>
        have hb : bindA s (some k) r = s.put (some k) .dead := by cases r <;> first | exact absurd ⟨_, rfl⟩ ht | (simp only [bindA, if_neg hk])
        rw [hb]
        exact ⟨g, hs.put (x := .dead) trivial (some k), Fr.refl _ _ _, by rw [put_stores]; exact Kp.refl _ _ _⟩
      obtain ⟨g', q1, q2, q3, q4, _⟩ := inOne_sound hs ho k hk
      have hb : bindA s (some k) r = (inOne s k r).1.put (some k) (inOne s k r).2 := by cases r <;> first | exact absurd ⟨_, rfl⟩ ht | (simp only [bindA, if_pos hk])
      rw [hb]
      refine ⟨g', q1.put (HRep.of_one q4 fun l e => ?_) (some k), ?_, ?_⟩
      · rw [e] at q4; exact q4.elim
      · rw [q2]; exact Fr.refl _ _ _
      · rw [put_stores]; exact q3
end
end Go.AbsM
end

section
namespace Go.AbsM
theorem splice_elem {α : Type} (cur vals : List α) (N J es off : Nat) (h1 : J + es ≤ N) (h2 : N ≤ cur.length) (h3 : off + vals.length ≤ es) :
    (cur.take (J + off) ++ vals ++ cur.drop (J + off + vals.length)).take N = (cur.take N).take J ++ ((((cur.take N).drop J).take es).take off ++ (vals ++ (((cur.take N).drop J).take es).drop (off + vals.length)) ++ (cur.take N).drop (J + es)) := by
  apply List.ext_getElem?
  intro m
  have e0 : (cur.take N).length = N := by simp; omega
  have e1 : ((cur.take N).take J).length = J := by simp; omega
  have e2 : (((cur.take N).drop J).take es).length = es := by simp; omega
  have e3 : ((((cur.take N).drop J).take es).take off).length = off := by simp; omega
  have e4 : ((((cur.take N).drop J).take es).take off ++ (vals ++ (((cur.take N).drop J).take es).drop (off + vals.length))).length = es := by simp; omega
  by_cases hN : m < N
  · rw [List.getElem?_take, if_pos hN]
    by_cases hJ : m < J
    · rw [List.append_assoc, List.getElem?_append_left (by simp; omega), List.getElem?_append_left (by omega), List.getElem?_take, if_pos (by omega), List.getElem?_take, if_pos hJ, List.getElem?_take, if_pos hN]
    · rw [List.getElem?_append_right (l₁ := (cur.take N).take J) (by omega), e1]
      by_cases hE : m < J + es
      · rw [List.getElem?_append_left (l₁ := (((cur.take N).drop J).take es).take off ++ (vals ++ (((cur.take N).drop J).take es).drop (off + vals.length))) (by omega)]
        by_cases ho : m < J + off
        · rw [List.append_assoc, List.getElem?_append_left (by simp; omega), List.getElem?_take, if_pos ho, List.getElem?_append_left (by omega), List.getElem?_take, if_pos (by omega), List.getElem?_take, if_pos (by omega), List.getElem?_drop, List.getElem?_take, if_pos (by omega)]
          congr 1; omega
        · rw [List.append_assoc, List.getElem?_append_right (by simp; omega), List.getElem?_append_right (l₁ := (((cur.take N).drop J).take es).take off) (by omega), e3]
          have e5 : (cur.take (J + off)).length = J + off := by simp; omega
          rw [e5]
          by_cases hv : m < J + off + vals.length
          · rw [List.getElem?_append_left (by omega), List.getElem?_append_left (by omega)]
            congr 1; omega
          · rw [List.getElem?_append_right (by omega), List.getElem?_append_right (by omega), List.getElem?_drop, List.getElem?_drop, List.getElem?_take, if_pos (by omega), List.getElem?_drop, List.getElem?_take, if_pos (by omega)]
            congr 1; omega
      · rw [List.getElem?_append_right (l₁ := (((cur.take N).drop J).take es).take off ++ (vals ++ (((cur.take N).drop J).take es).drop (off + vals.length))) (by omega), e4]
        have e6 : (cur.take (J + off) ++ vals).length = J + off + vals.length := by simp; omega
        rw [List.getElem?_append_right (by omega), e6, List.getElem?_drop, List.getElem?_drop, List.getElem?_take, if_pos (by omega)]
        congr 1; omega
  · rw [List.getElem?_eq_none (by simp; omega), List.getElem?_eq_none (by simp; omega)]
section
variable {P : Program} {w w' : World} {g : Gh} {may : Nat → Prop} {s : St} {a : Act}
theorem zeroCells_flat {zv : Value} {n : Nat} (h : 0 < zv.cells.size) : (Builtin.zeroCells zv.cells n).toList = flat (List.replicate n zv) := by
  have := madeCells_flat (zv := zv) (es := zv.cells.size) (n := n) rfl h
  rw [← this]
  rfl
theorem clearA_sound (hs : Sim P may s a w g) (hm : ∀ b, w.heap.size ≤ b → may b) {s' : St} {d : Option Nat} {t ty : TypeId} {rest : List TypeId} {x : AV} {u : Value} (hx : HRep P w g s.stores x u) (h : clearA P s d t x = some s') :
    ∃ z w', (Builtin.clear_ (t :: rest).toArray ty #[u]).run P w = .ok z w' ∧ Leaves P may s w g s' (a.put d z) w' := by
  unfold clearA at h
  split at h
  · cases h
  rename_i e he
  have hu := elemT_some he
  split at h
  · simp only [Option.some.injEq] at h; subst h
    have e1 := hx.inv_nils; subst e1
    exact ⟨undef, w, by simp [Builtin.clear_, run_underlying hu, undef], Leaves.same (hs.put (x := .und) rfl d) (put_stores _ _ _)⟩
  · simp only [Option.some.injEq] at h; subst h
    obtain ⟨A, rfl⟩ := hx.inv_cap0
    exact ⟨undef, w, by cases A <;> simp [Builtin.clear_, run_underlying hu, undef], Leaves.same (hs.put (x := .und) rfl d) (put_stores _ _ _)⟩
  · rename_i i k e' lo n tot
    split at h
    · rename_i z es e2 xs hz hes hg
      split at h
      · rename_i hc
        obtain ⟨rfl, rfl, hxt, hln, hzl, hn⟩ := hc
        simp only [Option.some.injEq] at h; subst h
        obtain ⟨fz, xs', hg', ht, hq, _⟩ := hx.inv_arr
        rw [hg] at hg'
        simp only [Option.some.injEq, Ob.arr.injEq] at hg'
        obtain ⟨rfl, _, rfl⟩ := hg'
        obtain ⟨_, A, c, rfl, hnc, hcm, hA, hC⟩ := hq hxt
        have hpos := (hs.inv.arr i k _ xs hg).2.2.1
        obtain ⟨it, zv, hit, hzz, hzc⟩ := zeroT_some hz
        have hce := sizeT_cells hes
        have hzs : zv.cells.size = P.cellsOf e2 := by
          have := (constAV_cells (P := P) (w := w) (g := g) (S := s.stores) hzc).1.1
          simp only [Array.length_toList] at this
          rw [this, hzl, hce]
        have hr := RepL.replicate (P := P) (w := w) (M := g.M) (e := e2) (constAV_rep hzc g.M) hzs n
        obtain ⟨w', hst, hlv⟩ := lay_arr hs hm (lo := lo) hg hr (by simp; omega) (d := d) (x := .und) (v := undef) (fun _ _ _ => rfl)
        simp only [List.length_replicate] at hlv
        refine ⟨undef, w', ?_, hlv⟩
        rw [hA (.inr hn)]
        have hzr : (zeroValue e2).run P w = .ok zv w := by simp [zeroValue, typeInfo, hit, hzz]
        have hzf := zeroCells_flat (zv := zv) (n := n) (by rw [hzs]; exact hpos)
        obtain ⟨n', rfl⟩ : ∃ n', n = n' + 1 := ⟨n - 1, by omega⟩
        simp [Builtin.clear_, run_underlying hu, hzr, hzf, hst, undef]
      · cases h
    · cases h
  · cases h
theorem leave_box (hs : Sim P may s a w g) (hm : ∀ b, w.heap.size ≤ b → may b) {i k off : Nat} {cs ds es : List AV} {us : List Value} (hg : getOb s.stores i k = some (.box cs)) (hl : layA cs off ds = some es)
    (hd : us.length = ds.length) (hr : ∀ (j : Nat) (c : AV) (u : Value), ds[j]? = some c → us[j]? = some u → CRep P w g s.stores (c.shift i) u ∧ u.oneCell' = true) (d : Option Nat) :
    ∃ w', (storeCells ⟨g.B i k, off, none⟩ us).run P w = .ok () w' ∧ Leaves P may s w g (St.put { s with stores := setOb s.stores i k (.box es) } d .und) (a.put d undef) w' := by
  obtain ⟨hmay, hnM, vs, t, hh, hvl, hvr⟩ := hs.inv.box i k cs hg
  unfold layA at hl
  split at hl
  · rename_i hle
    simp only [Option.some.injEq] at hl; subst hl
    have hone : ∀ v, v ∈ us → v.oneCell' = true := by
      intro v hv
      obtain ⟨j, hj, rfl⟩ := List.getElem_of_mem hv
      exact (hr j ds[j] us[j] (by simp [← hd, hj]) (by simp [hj])).2
    have hst := run_storeCells_at P (g.B i k) off t us 0 vs.toArray w hh (by simp; omega) hone
    simp only [Nat.add_zero] at hst
    refine ⟨_, hst, ?_⟩
    obtain ⟨h1, h2, h3⟩ := hs.inv.setBox (ds := cs.take off ++ (ds ++ cs.drop (off + ds.length))) hm hg (Chg.setRow w (g.B i k) (vs.take off ++ us ++ vs.drop (off + us.length)).toArray)
      ⟨vs.take off ++ us ++ vs.drop (off + us.length), t, by simpa using setRow_heap w (g.B i k) vs.toArray (vs.take off ++ us ++ vs.drop (off + us.length)).toArray t (0, 0) hh, by simp [hvl, hd], fun j c u hc hu => by
        rw [List.append_assoc] at hu
        by_cases hj1 : j < off
        · rw [List.getElem?_append_left (by simp; omega), List.getElem?_take, if_pos hj1] at hc hu
          exact hvr j c u hc hu
        · rw [List.getElem?_append_right (by simp; omega)] at hc hu
          have e1 : (cs.take off).length = off := by simp; omega
          have e2 : (vs.take off).length = off := by simp; omega
          rw [e1] at hc; rw [e2] at hu
          by_cases hj2 : j - off < ds.length
          · rw [List.getElem?_append_left hj2] at hc
            rw [List.getElem?_append_left (by omega)] at hu
            exact hr _ c u hc hu
          · rw [List.getElem?_append_right (by omega), List.getElem?_drop] at hc
            rw [List.getElem?_append_right (by omega), List.getElem?_drop, hd] at hu
            exact hvr _ c u hc hu⟩
    have e3 : (w.setRow (g.B i k) (vs.take off ++ us ++ vs.drop (off + us.length)).toArray) = w.setRow (g.B i k) ((vs.toArray.toList.take off ++ us ++ vs.toArray.toList.drop (off + us.length)).toArray) := by simp
    rw [← e3]
    have hsim := hs.keep h3.sub h3.cell h2 h1 (setOb_ne hs.ne _ _ _)
    refine ⟨g, hsim.put (x := .und) rfl d, h3, ?_⟩
    rw [put_stores]
    exact h2.mono (by omega)
  · cases hl
theorem storeVar_run {t : TypeId} {n : Nat} {ad : Addr} {v : Value} (hn : sizeT P t = some n) (hv : v.cells.size = n) : (storeVar t ad v).run P w = (storeCells ad v.cells.toList).run P w := by
  simp [storeVar, sizeT_run hn, hv]
theorem sinkCell_sound (hs : Sim P may s a w g) {i : Nat} {x y : AV} {v : Value} {s' : St} (hv : CRep P w g s.stores x v) (hx : x.isCell = true) (h : sinkCell s i x = some (s', y)) :
    ∃ g', Settles P may s a w g s' g' ∧ CRep P w g' s'.stores (y.shift (i + 1)) v := by
  have val : ∀ {y : AV} {s' : St}, resolve1 s x = some (s', y) → ∃ g', Settles P may s a w g s' g' ∧ CRep P w g' s'.stores (y.shift (i + 1)) v := by
    intro y s' h
    obtain ⟨g', q1, q2, q3⟩ := resolve1_sound hs hv h
    refine ⟨g', q1, ?_⟩
    have : y.shift (i + 1) = y := by cases y <;> first | rfl | simp [AV.isVal] at q3
    rw [this]
    exact CRep.of_rep q2 q3
  cases x with
  | arr j k e lo n tot =>
    simp only [sinkCell] at h
    split at h
    · rename_i hj
      simp only [Option.some.injEq, Prod.mk.injEq] at h
      obtain ⟨rfl, rfl⟩ := h
      refine ⟨g, .refl hs, ?_⟩
      simp only [AV.shift]
      rw [Nat.sub_add_cancel hj]
      exact hv
    · exact val h
  | ref j k off =>
    simp only [sinkCell] at h
    split at h
    · rename_i hj
      simp only [Option.some.injEq, Prod.mk.injEq] at h
      obtain ⟨rfl, rfl⟩ := h
      refine ⟨g, .refl hs, ?_⟩
      simp only [AV.shift]
      rw [Nat.sub_add_cancel hj]
      exact hv
    · cases h
  | _ => first | exact val h | (simp [AV.isCell] at hx)
theorem sinkCells_sound (hs : Sim P may s a w g) {i : Nat} {xs ys : List AV} {vs : List Value} {s' : St} (hv : CellsRep P w g s.stores xs vs) (hx : xs.all AV.isCell = true) (h : sinkCells s i xs = some (s', ys)) :
    ∃ g', Settles P may s a w g s' g' ∧ vs.length = ys.length ∧ ∀ (j : Nat) (c : AV) (u : Value), ys[j]? = some c → vs[j]? = some u → CRep P w g' s'.stores (c.shift (i + 1)) u ∧ u.oneCell' = true := by
  induction xs generalizing s g vs ys s' with
  | nil =>
    simp only [sinkCells, Option.some.injEq, Prod.mk.injEq] at h
    obtain ⟨rfl, rfl⟩ := h
    exact ⟨g, .refl hs, hv.1, fun i c u hc => by simp at hc⟩
  | cons x r ih =>
    simp only [sinkCells] at h
    simp only [List.all_cons, Bool.and_eq_true] at hx
    split at h
    · rename_i s1 b h1
      split at h
      · rename_i s2 l h2
        simp only [Option.some.injEq, Prod.mk.injEq] at h
        obtain ⟨rfl, rfl⟩ := h
        cases vs with
        | nil => exact absurd hv.1 (by simp)
        | cons v0 vr =>
          obtain ⟨g1, q1, q2⟩ := sinkCell_sound hs (hv.2 0 x v0 rfl rfl).1 hx.1 h1
          have hv' : CellsRep P w g1 s1.stores r vr := ⟨by simpa using hv.1, fun i c u hc hu => ⟨q1.crep (hv.2 (i + 1) c u (by simpa using hc) (by simpa using hu)).1, (hv.2 (i + 1) c u (by simpa using hc) (by simpa using hu)).2⟩⟩
          obtain ⟨g2, p1, p2, p3⟩ := ih q1.1 hv' hx.2 h2
          refine ⟨g2, q1.trans p1, by simp [p2], fun j c u hc hu => ?_⟩
          cases j with
          | zero => simp at hc hu; subst hc; subst hu; exact ⟨p1.crep q2, (hv.2 0 x v0 rfl rfl).2⟩
          | succ j => exact p3 j c u (by simpa using hc) (by simpa using hu)
      · cases h
    · cases h
theorem flat_set {es : Nat} {us : List Value} (h : ∀ u, u ∈ us → u.cells.size = es) {j : Nat} {u' : Value} (hj : j < us.length) : flat (us.set j u') = (flat us).take (j * es) ++ (u'.cells.toList ++ (flat us).drop ((j + 1) * es)) := by
  have e1 : us.set j u' = us.take j ++ (u' :: us.drop (j + 1)) := by rw [List.set_eq_take_append_cons_drop, if_pos hj]
  rw [e1, flat_append, flat_cons, flat_take h, flat_drop h]
theorem lay_elem (hs : Sim P may s a w g) (hm : ∀ b, w.heap.size ≤ b → may b) {i k : Nat} {e : TypeId} {xs : List AV} {y y' : AV} {ds : List AV} {vals : List Value} {j off : Nat} (hg : getOb s.stores i k = some (.arr false e xs)) (hy : xs[j]? = some y)
    (hvl : vals.length = ds.length) (hvr : ∀ (m : Nat) (c : AV) (u : Value), ds[m]? = some c → vals[m]? = some u → Rep P w g.M c u) (hdv : ∀ c, c ∈ ds → c.isVal = true) {es : List AV} (hl : layA y.cells off ds = some es)
    (hy' : (aggT P e = some true ∧ y' = .agg es) ∨ es = [y']) (d : Option Nat) :
    ∃ w', (storeCells ⟨g.B i k, j * P.cellsOf e + off, none⟩ vals).run P w = .ok () w' ∧ Leaves P may s w g (St.put { s with stores := setOb s.stores i k (.arr false e (xs.set j y')) } d .und) (a.put d undef) w' := by
  obtain ⟨hmay, hnM, hpos, cur, us0, cap, hh, hcl, hcc, hcapm, hxc, hr0, htk⟩ := hs.inv.arr i k _ xs hg
  have hjx : j < xs.length := (List.getElem?_eq_some_iff.1 hy).1
  have hju : j < us0.length := by rw [hr0.1]; exact hjx
  have hus : us0[j]? = some us0[j] := List.getElem?_eq_getElem hju
  have hry := hr0.2.1 j y _ hy hus
  obtain ⟨hp1, hp2, hp3⟩ := hry.parts
  have hsz : us0[j].cells.size = P.cellsOf e := hr0.2.2 _ (List.getElem_mem hju)
  have hyl : y.cells.length = P.cellsOf e := by rw [← hp1]; simpa using hsz
  have hones : ∀ v, v ∈ vals → v.oneCell' = true := by
    intro v hv
    obtain ⟨m, hm', rfl⟩ := List.getElem_of_mem hv
    have hmd : m < ds.length := by omega
    exact (hvr m ds[m] vals[m] (by simp [hmd]) (by simp [hm'])).oneCell (hdv _ (List.getElem_mem hmd))
  unfold layA at hl
  split at hl
  · rename_i hle
    simp only [Option.some.injEq] at hl
    have hl0 : (flat us0).length = xs.length * P.cellsOf e := hr0.len
    have hxcap : xs.length * P.cellsOf e ≤ cur.length := by rw [hcl, hcc]; exact Nat.mul_le_mul_right _ hxc
    have hj1 : (j + 1) * P.cellsOf e ≤ xs.length * P.cellsOf e := Nat.mul_le_mul_right _ hjx
    have hj2 : (j + 1) * P.cellsOf e = j * P.cellsOf e + P.cellsOf e := by rw [Nat.add_mul]; omega
    have hst := run_storeCells_at P (g.B i k) (j * P.cellsOf e + off) e vals 0 cur.toArray w hh (by simp; omega) hones
    simp only [Nat.add_zero] at hst
    refine ⟨_, hst, ?_⟩
    have hel : es.length = P.cellsOf e := by rw [← hl]; simp; omega
    have hcells : ∀ (m : Nat) (c : AV) (u : Value), es[m]? = some c → (us0[j].cells.toList.take off ++ (vals ++ us0[j].cells.toList.drop (off + vals.length)))[m]? = some u → Rep P w g.M c u ∧ c.isVal = true := by
      intro m c u hc hu
      rw [← hl] at hc
      have e1 : (y.cells.take off).length = off := by simp; omega
      have e2 : (us0[j].cells.toList.take off).length = off := by simp; omega
      by_cases hm1 : m < off
      · rw [List.getElem?_append_left (by omega), List.getElem?_take, if_pos hm1] at hc hu
        exact ⟨hp2 m c u hc hu, hp3 c (List.mem_of_getElem? hc)⟩
      · rw [List.getElem?_append_right (by omega)] at hc hu
        rw [e1] at hc; rw [e2] at hu
        by_cases hm2 : m - off < ds.length
        · rw [List.getElem?_append_left hm2] at hc
          rw [List.getElem?_append_left (by omega)] at hu
          exact ⟨hvr _ c u hc hu, hdv c (List.mem_of_getElem? hc)⟩
        · rw [List.getElem?_append_right (by omega), List.getElem?_drop] at hc
          rw [List.getElem?_append_right (by omega), List.getElem?_drop, hvl] at hu
          exact ⟨hp2 _ c u hc hu, hp3 c (List.mem_of_getElem? hc)⟩
    have hnl : (us0[j].cells.toList.take off ++ (vals ++ us0[j].cells.toList.drop (off + vals.length))).length = P.cellsOf e := by simp; omega
    have hu' : ∃ u' : Value, Rep P w g.M y' u' ∧ u'.cells.toList = us0[j].cells.toList.take off ++ (vals ++ us0[j].cells.toList.drop (off + vals.length)) := by
      generalize us0[j].cells.toList.take off ++ (vals ++ us0[j].cells.toList.drop (off + vals.length)) = nv at hcells hnl
      rcases hy' with ⟨_, rfl⟩ | he1
      · refine ⟨.agg nv.toArray, .agg (by omega) (fun m c u hc hu => (hcells m c u hc hu).1) fun c hc => ?_, by simp [Value.cells]⟩
        obtain ⟨m, hm', rfl⟩ := List.getElem_of_mem hc
        exact (hcells m es[m] (nv[m]'(by omega)) (by simp [hm']) (by simp)).2
      · rw [he1] at hel
        simp at hel
        match nv, hnl with
        | [u], _ =>
          have h0 := hcells 0 y' u (by rw [he1]; rfl) rfl
          exact ⟨u, h0.1, by rw [cells_of_one (h0.1.oneCell h0.2)]⟩
        | [], hh => simp at hh; omega
        | _ :: _ :: _, hh => simp at hh; omega
    obtain ⟨u', hru, huc⟩ := hu'
    have hfr := (Chg.setRow w (g.B i k) (cur.take (j * P.cellsOf e + off) ++ vals ++ cur.drop (j * P.cellsOf e + off + vals.length)).toArray).fr hs.inv hm hmay hnM
    have hrset : RepL P w g.M e (xs.set j y') (us0.set j u') := by
      refine ⟨by simp [hr0.1], fun m x u hx hu => ?_, fun u hu => ?_⟩
      · by_cases hmj : j = m
        · subst hmj
          rw [List.getElem?_set_self hjx] at hx
          rw [List.getElem?_set_self hju] at hu
          simp only [Option.some.injEq] at hx hu
          subst hx; subst hu; exact hru
        · rw [List.getElem?_set_ne hmj] at hx hu
          exact hr0.2.1 m x u hx hu
      · rcases List.mem_or_eq_of_mem_set hu with hu | rfl
        · exact hr0.2.2 u hu
        · have : u.cells.toList.length = P.cellsOf e := by rw [huc]; exact hnl
          simpa using this
    refine leave_arr hs hm hg (b := g.B i k) (c0 := g.C i k) (Chg.setRow w _ _) (by simp) (.inl ⟨rfl, rfl⟩)
      ⟨cur.take (j * P.cellsOf e + off) ++ vals ++ cur.drop (j * P.cellsOf e + off + vals.length), us0.set j u', cap, ?_, ?_, hcc, hcapm, by simpa using hxc, ?_, ?_⟩ rfl
    · have := setRow_heap w (g.B i k) cur.toArray (cur.take (j * P.cellsOf e + off) ++ vals ++ cur.drop (j * P.cellsOf e + off + vals.length)).toArray e (0, 0) hh
      simpa using this
    · rw [← hcl]; simp; omega
    · have := hrset.mono hfr.sub hfr.cell
      simpa using this
    · rw [flat_set hr0.2.2 hju, huc, List.length_set, ← htk]
      have hfj : us0[j].cells.toList = ((flat us0).drop (j * P.cellsOf e)).take (P.cellsOf e) := by
        rw [← flat_drop hr0.2.2, List.drop_eq_getElem_cons hju, flat_cons, List.take_append_of_le_length (by simp [hsz]), List.take_of_length_le (by simp [hsz])]
      rw [hfj, ← htk, hj2]
      exact splice_elem cur vals _ _ _ off (by omega) hxcap (by omega)
  · cases hl
theorem storeA_sound (hs : Sim P may s a w g) (hm : ∀ b, w.heap.size ≤ b → may b) {s' : St} {d : Option Nat} {t : TypeId} {p x : AV} {u v : Value} (hp : HRep P w g s.stores p u) (hv : HRep P w g s.stores x v) (h : storeA P s d t p x = some s') :
    ∃ w', (Instr.storeAt t u v).run P w = .ok () w' ∧ Leaves P may s w g s' (a.put d undef) w' := by
  unfold storeA at h
  split at h
  · cases h
  rename_i n hn
  split at h
  · rename_i hc
    have hcr := hv.cellsRep hc.2
    have hvs : v.cells.size = n := by
      have := hcr.1
      simp only [Array.length_toList] at this
      rw [this, hc.1]
    have hrun : ∀ ad w', (storeCells ad v.cells.toList).run P w = .ok () w' → u = .pointer (some ad) → (Instr.storeAt t u v).run P w = .ok () w' := by
      rintro ad w' hst rfl
      simp [Instr.storeAt, Instr.sureAddr, storeVar_run hn hvs, hst]
    split at h
    · rename_i k off
      split at h
      · rename_i cs hg
        split at h
        · rename_i ds hl
          simp only [Option.some.injEq] at h; subst h
          obtain ⟨_, rfl⟩ := hp.inv_ref
          obtain ⟨w', hst, hlv⟩ := leave_box hs hm hg hl hcr.1 (fun j c u hc hu => by rw [AV.shift_zero]; exact hcr.2 j c u hc hu) d
          exact ⟨w', hrun _ w' hst rfl, hlv⟩
        · cases h
      · cases h
    · rename_i i k off
      split at h
      · rename_i s1 vs hsk
        split at h
        · rename_i cs hg
          split at h
          · rename_i ds hl
            simp only [Option.some.injEq] at h; subst h
            obtain ⟨g1, q1, q2, q3⟩ := sinkCells_sound hs hcr hc.2 hsk
            obtain ⟨⟨cs0, hg0⟩, rfl⟩ := hp.inv_ref
            have hB : g1.B (i + 1) k = g.B (i + 1) k := (q1.2.2.1.box (i + 1) k cs0 (.inl (Nat.zero_le _)) hg0).2
            obtain ⟨w', hst, hlv⟩ := leave_box q1.1 hm hg hl q2 q3 d
            rw [hB] at hst
            exact ⟨w', hrun _ w' hst rfl, q1.leaves hlv⟩
          · cases h
        · cases h
      · cases h
    · rename_i i k e tot j off
      split at h
      · rename_i s1 vs hrs
        split at h
        · rename_i e' xs hg
          split at h
          · rename_i hcond
            obtain ⟨hxt, rfl⟩ := hcond
            obtain ⟨g1, q1, q2, q3, q4⟩ := resolveL_sound hs hcr hrs
            obtain ⟨fz, xs0, hg0, ht, hq⟩ := (q1.hrep (S := s.stores) hp)
            rw [hg] at hg0
            simp only [Option.some.injEq, Ob.arr.injEq] at hg0
            obtain ⟨rfl, _, rfl⟩ := hg0
            obtain ⟨hj, rfl⟩ := hq hxt
            split at h
            · rename_i y hy
              split at h
              · rename_i ds hl ha
                simp only [Option.some.injEq] at h; subst h
                obtain ⟨w', hst, hlv⟩ := lay_elem q1.1 hm hg hy q2 q3 q4 hl (.inl ⟨ha, rfl⟩) d
                exact ⟨w', hrun _ w' hst rfl, q1.leaves hlv⟩
              · rename_i c hl ha
                simp only [Option.some.injEq] at h; subst h
                obtain ⟨w', hst, hlv⟩ := lay_elem q1.1 hm hg hy q2 q3 q4 hl (.inr rfl) d
                exact ⟨w', hrun _ w' hst rfl, q1.leaves hlv⟩
              · cases h
            · cases h
          · cases h
        · cases h
      · cases h
    · cases h
  · cases h
theorem Leaves.put_rep {w' : World} (hs : Sim P may s a w g) (hm : ∀ b, w.heap.size ≤ b → may b) (hx : Ext w w') {M' : Nat → Nat → Prop} (hM : ∀ b o, g.M b o → M' b o) (hMn : ∀ b o, M' b o → ¬ g.M b o → w.heap.size ≤ b ∧ b < w'.heap.size) {x : AV} {v : Value} (hr : Rep P w' M' x v) (d : Option Nat) :
    Leaves P may s w g (s.put d x) (a.put d v) w' := by
  have hcell : ∀ b o, g.M b o → w'.cell? ⟨b, o, none⟩ = w.cell? ⟨b, o, none⟩ := fun b o h => hx.cell (hs.inv.mlt b o h) o
  let g' : Gh := { g with M := M' }
  have hkp : Kp 0 s.stores g s.stores g' := ⟨fun i k cs _ h => ⟨⟨cs, h⟩, rfl⟩, fun i k fz e xs _ h => ⟨fz, xs, h, Nat.le_refl _, fun _ => ⟨rfl, fun hf => ⟨hf, rfl⟩⟩⟩⟩
  have hnew : ∀ b o, b < w.heap.size → M' b o → g.M b o := fun b o hb h => Classical.byContradiction fun hn => by have := (hMn b o h hn).1; omega
  have hinv : SInv P w' g' may s.stores := by
    refine ⟨fun i k cs h => ?_, fun i k e xs h => ?_, fun i k e xs h => ?_, fun i k o i' k' o' h h' => hs.inv.inj i k o i' k' o' h h', fun b o h => ?_⟩
    · obtain ⟨h1, h2, vs, t, h3, h4, h5⟩ := hs.inv.box i k cs h
      exact ⟨h1, fun o ho => h2 o (hnew _ o (lt_of_heap h3) ho), vs, t, by rw [hx.heap _ (lt_of_heap h3)]; exact h3, h4, fun j c u hc hu => ⟨CRep.keep (g := g) (g' := g') (S := s.stores) hM hcell hkp (AV.from_zero _) (h5 j c u hc hu).1, (h5 j c u hc hu).2⟩⟩
    · obtain ⟨h1, h2, he, cur, us, cap, h3, h4, h5, h6, h7, h8, h9⟩ := hs.inv.arr i k e xs h
      exact ⟨h1, fun o ho => h2 o (hnew _ o (lt_of_heap h3) ho), he, cur, us, cap, by rw [hx.heap _ (lt_of_heap h3)]; exact h3, h4, h5, h6, h7, h8.mono hM hcell, h9⟩
    · obtain ⟨he, us, hr, hc⟩ := hs.inv.fz i k e xs h
      exact ⟨he, us, hr.mono hM hcell, fun m cv hm => ⟨(hcell _ _ (hc m cv hm).2).trans (hc m cv hm).1, hM _ _ (hc m cv hm).2⟩⟩
    · by_cases hg : g.M b o
      · exact Nat.lt_of_lt_of_le (hs.inv.mlt b o hg) hx.size
      · exact (hMn b o h hg).2
  have hsim : Sim P may s a w' g' := hs.keep hM hcell hkp hinv hs.ne
  refine ⟨g', hsim.put (HRep.of_rep hr) d, ⟨hx.os, hx.tape, hx.output, hx.size, fun b hb => hx.heap b (Nat.lt_of_not_le fun hh => hb (hm b hh)), hM, hcell, fun b o hb h => hnew b o (Nat.lt_of_not_le fun hh => hb (hm b hh)) h⟩, ?_⟩
  rw [put_stores]
  exact hkp.mono (by omega)
end
end Go.AbsM
end
