/-
  Texts of a proof over the translated program: proved evaluators and walks, part 4 of 23.
-/
import Derived.Test.YtcogajgikmcfpaaGreatDoorPartQ3
import Derived.Great.BuildSlice
import Derived.WalkKit
import Derived.Laws.CopyRow
set_option linter.unusedVariables false
set_option linter.unusedSimpArgs false
set_option linter.unusedSectionVars false
set_option linter.unnecessarySimpa false
section
namespace Go.AbsM
section
variable {P : Program} {w : World} {g : Gh} {S : List Store}
theorem cells_of_one {v : Value} (h : v.oneCell' = true) : v.cells = #[v] := by cases v <;> simp_all [Value.cells, Value.oneCell']
theorem CRep.one {c : AV} {v : Value} (h : CRep P w g S c v) (hc : c.isCell = true) : v.oneCell' = true := by
  cases c <;> first
    | (simp [AV.isCell] at hc; done)
    | exact Rep.oneCell h rfl
    | skip
  · obtain ⟨fz, xs, _, _, _, h1⟩ := h; exact h1
  · obtain ⟨_, rfl⟩ := h; rfl
theorem HRep.cellsRep {a : AV} {v : Value} (h : HRep P w g S a v) (hc : a.cells.all AV.isCell = true) : CellsRep P w g S a.cells v.cells.toList := by
  have single : ∀ (a : AV), a.cells = [a] → CRep P w g S a v → a.isCell = true → CellsRep P w g S a.cells v.cells.toList := by
    intro a ha h hc
    have h1 := h.one hc
    rw [ha, cells_of_one h1]
    refine ⟨rfl, fun i c u h2 h3 => ?_⟩
    cases i with
    | zero => simp at h2 h3; subst h2; subst h3; exact ⟨h, h1⟩
    | succ i => simp at h2
  cases a with
  | agg cs =>
    obtain ⟨vs, rfl, hr⟩ := h.inv_agg
    simpa [AV.cells, Value.cells] using hr
  | tup => simp [AV.cells, AV.isCell] at hc
  | own => simp [AV.cells, AV.isCell] at hc
  | obj => simp [AV.cells, AV.isCell] at hc
  | efz => simp [AV.cells, AV.isCell] at hc
  | ear => simp [AV.cells, AV.isCell] at hc
  | und => simp [AV.cells, AV.isCell] at hc
  | dead => simp [AV.cells, AV.isCell] at hc
  | _ => exact single _ rfl h rfl
theorem layA_sound {cs ds es : List AV} {vs us : List Value} {off : Nat} (hc : CellsRep P w g S cs vs) (hd : CellsRep P w g S ds us) (h : layA cs off ds = some es) :
    off + us.length ≤ vs.length ∧ CellsRep P w g S es (vs.take off ++ (us ++ vs.drop (off + us.length))) := by
  unfold layA at h
  split at h
  · rename_i hl
    simp only [Option.some.injEq] at h; subst h
    refine ⟨by rw [hc.1, hd.1]; exact hl, (hc.take off).append (hd.append ?_)⟩
    rw [hd.1]
    exact hc.drop _
  · cases h
theorem foldl_lay (off : Nat) (us : List Value) (vs : List Value) (h : off + us.length ≤ vs.length) :
    (us.zipIdx.foldl (fun (cs : Array Value) (x : Value × Nat) => cs.setIfInBounds (off + x.2) x.1) vs.toArray) = (vs.take off ++ (us ++ vs.drop (off + us.length))).toArray := by
  obtain ⟨h1, h2⟩ := Great.foldl_set off us 0 vs.toArray
  apply Array.ext_getElem?
  intro k
  rw [h2 k]
  simp only [List.size_toArray, Nat.add_zero, List.getElem?_toArray]
  by_cases hk : off ≤ k
  · by_cases hk2 : k < off + us.length
    · rw [if_pos ⟨hk, hk2, by omega⟩, List.getElem?_append_right (by simp; omega), List.getElem?_append_left (by simp; omega)]
      congr 1; simp; omega
    · rw [if_neg (by omega), List.getElem?_append_right (by simp; omega), List.getElem?_append_right (by simp; omega), List.getElem?_drop]
      congr 1; simp; omega
  · rw [if_neg (by omega), List.getElem?_append_left (by simp; omega), List.getElem?_take, if_pos (by omega)]
def PartsRep (P : Program) (w : World) (g : Gh) (S : List Store) (l : List (Nat × AV)) (m : List (Nat × Value)) : Prop :=
  m.length = l.length ∧ ∀ (i : Nat) (x : Nat × AV) (y : Nat × Value), l[i]? = some x → m[i]? = some y → x.1 = y.1 ∧ HRep P w g S x.2 y.2
theorem fillA_sound {place : Nat → Option (Nat × Nat)} {l : List (Nat × AV)} {m : List (Nat × Value)} {cells cs : List AV} {vs : List Value} (hl : PartsRep P w g S l m) (hc : CellsRep P w g S cells vs) (h : fillA place cells l = some cs) :
    ∃ us : List Value, Instr.fill place vs.toArray m = some us.toArray ∧ CellsRep P w g S cs us := by
  induction l generalizing m cells vs with
  | nil =>
    have : m = [] := List.eq_nil_of_length_eq_zero hl.1
    subst this
    simp only [fillA, Option.some.injEq] at h; subst h
    exact ⟨vs, rfl, hc⟩
  | cons x r ih =>
    obtain ⟨i, a⟩ := x
    cases m with
    | nil => exact absurd hl.1 (by simp)
    | cons y m' =>
      obtain ⟨i', v⟩ := y
      obtain ⟨e1, hv⟩ := hl.2 0 _ _ rfl rfl
      simp only at e1 hv
      subst e1
      have hl' : PartsRep P w g S r m' := ⟨by simpa using hl.1, fun j x y hx hy => hl.2 (j + 1) x y (by simpa using hx) (by simpa using hy)⟩
      simp only [fillA] at h
      split at h
      · cases h
      · rename_i off size hp
        split at h
        · rename_i hsz
          split at h
          · rename_i cells' hla
            have hcr := hv.cellsRep hsz.2
            obtain ⟨hle, hcr'⟩ := layA_sound hc hcr hla
            have hvs : v.cells.size = size := by
              have := hcr.1
              simp only [Array.length_toList] at this
              rw [this, hsz.1]
            obtain ⟨us, hfill, hus⟩ := ih hl' hcr' h
            refine ⟨us, ?_, hus⟩
            simp only [Instr.fill, hp]
            have hno : ¬ ((v.cells.size ≠ size || decide (off + v.cells.size > vs.toArray.size)) = true) := by
              simp [hvs]
              simp at hle
              omega
            have hf := foldl_lay off v.cells.toList vs hle
            have hz : v.cells.zipIdx.foldl (fun (cs : Array Value) (x : Value × Nat) => cs.setIfInBounds (off + x.2) x.1) vs.toArray = (v.cells.toList.zipIdx).foldl (fun (cs : Array Value) (x : Value × Nat) => cs.setIfInBounds (off + x.2) x.1) vs.toArray := by
              rw [← Array.foldl_toList]
              simp
            simp only [ne_eq] at hno ⊢
            rw [if_neg (by simpa using hno)]
            have : (fun (cs : Array Value) (x : Value × Nat) => match x with | (c, j) => cs.setIfInBounds (off + j) c) = fun (cs : Array Value) (x : Value × Nat) => cs.setIfInBounds (off + x.2) x.1 := by
              funext cs x; rfl
            rw [this, hz, hf]
            exact hfill
          · cases h
        · cases h
theorem placesT_eq {fs : List Field} {l : List (Nat × Nat)} (h : placesT P fs = some l) : fs.mapM (fun f => (P.info? f.type).map fun i => (f.offset, i.size)) = some l := by
  induction fs generalizing l with
  | nil => simp [placesT] at h; subst h; rfl
  | cons f r ih =>
    simp only [placesT] at h
    split at h
    · rename_i n l' hn hl
      simp only [Option.some.injEq] at h; subst h
      obtain ⟨i, hi, rfl⟩ := Option.map_eq_some_iff.1 hn
      simp [List.mapM_cons, hi, ih hl]
    · cases h
theorem zeroT_some {t : TypeId} {z : AV} (h : zeroT P t = some z) : ∃ (i : TypeInfo) (v : Value), P.info? t = some i ∧ i.zero = some v ∧ constAV v = some z := by
  unfold zeroT at h
  cases hi : P.info? t with
  | none => simp [hi] at h
  | some i =>
    cases hz : i.zero with
    | none => simp [hi, hz] at h
    | some v => simp [hi, hz] at h; exact ⟨i, v, rfl, hz, h⟩
theorem constAV_cells {v : Value} {z : AV} (h : constAV v = some z) : CellsRep P w g S z.cells v.cells.toList ∧ z.cells.all AV.isVal = true := by
  have hr := constAV_rep (P := P) (w := w) h g.M
  obtain ⟨h1, h2, h3⟩ := hr.parts
  refine ⟨⟨h1, fun i c u hc hu => ⟨CRep.of_rep (h2 i c u hc hu) (h3 c (List.mem_of_getElem? hc)), (h2 i c u hc hu).oneCell (h3 c (List.mem_of_getElem? hc))⟩⟩, ?_⟩
  rw [List.all_eq_true]
  exact h3
theorem buildA_sound {s s' : St} (hS : S = s.stores) {d : Option Nat} {t : TypeId} {l : List (Nat × AV)} {m : Array (Nat × Value)} (hl : PartsRep P w g S l m.toList) (h : buildA P s d t l = some s') :
    ∃ cs v, s' = s.put d (.agg cs) ∧ (Instr.build t m).run P w = .ok v w ∧ HRep P w g S (.agg cs) v := by
  unfold buildA at h
  split at h
  · rename_i z fields hz hu
    split at h
    · rename_i places hp
      split at h
      · rename_i cs hf
        simp only [Option.some.injEq] at h; subst h
        obtain ⟨i, v, hi, hzv, hc⟩ := zeroT_some hz
        obtain ⟨us, hfill, hus⟩ := fillA_sound hl (constAV_cells (P := P) (w := w) (g := g) (S := S) hc).1 hf
        refine ⟨cs, .agg us.toArray, rfl, ?_, HRep.mk_agg hus⟩
        apply run_build
        simp only [Program.built, hi, hu, hzv, placesT_eq hp]
        simpa using hfill
      · cases h
    · cases h
  · rename_i z n e hz hu
    split at h
    · rename_i k hk
      split at h
      · rename_i cs hf
        simp only [Option.some.injEq] at h; subst h
        obtain ⟨i, v, hi, hzv, hc⟩ := zeroT_some hz
        obtain ⟨us, hfill, hus⟩ := fillA_sound hl (constAV_cells (P := P) (w := w) (g := g) (S := S) hc).1 hf
        obtain ⟨ie, hie, rfl⟩ := Option.map_eq_some_iff.1 hk
        refine ⟨cs, .agg us.toArray, rfl, ?_, HRep.mk_agg hus⟩
        apply run_build
        simp only [Program.built, hi, hu, hzv, hie]
        simpa using hfill
      · cases h
    · cases h
  · cases h
end
end Go.AbsM
end

section
namespace Go.AbsM
theorem AV.shift_zero (c : AV) : c.shift 0 = c := by cases c <;> rfl
structure Ext (w w' : World) : Prop where
  os : w'.os = w.os
  tape : w'.tape = w.tape
  output : w'.output = w.output
  size : w.heap.size ≤ w'.heap.size
  heap : ∀ b, b < w.heap.size → w'.heap[b]? = w.heap[b]?
theorem Below_heap_alloc (w : World) (o : Obj) (b : Nat) (h : b < w.heap.size) : (w.alloc o).heap[b]? = w.heap[b]? := Go.RowKit.Below.heap_alloc w o b h
theorem Ext.refl (w : World) : Ext w w := ⟨rfl, rfl, rfl, Nat.le_refl _, fun _ _ => rfl⟩
theorem Ext.alloc (w : World) (o : Obj) : Ext w (w.alloc o) := ⟨rfl, rfl, rfl, by simp, fun b hb => Below_heap_alloc w o b hb⟩
theorem Ext.drew (w : World) : Ext w w.drew := ⟨rfl, rfl, rfl, Nat.le_refl _, fun _ _ => rfl⟩
theorem Ext.trans {a b c : World} (h : Ext a b) (k : Ext b c) : Ext a c :=
  ⟨k.os.trans h.os, k.tape.trans h.tape, k.output.trans h.output, Nat.le_trans h.size k.size, fun n hn => (k.heap n (Nat.lt_of_lt_of_le hn h.size)).trans (h.heap n hn)⟩
theorem Ext.cell {w w' : World} (h : Ext w w') {b : Nat} (hb : b < w.heap.size) (o : Nat) : w'.cell? ⟨b, o, none⟩ = w.cell? ⟨b, o, none⟩ := World.cell?_of_block (w := w) (a := ⟨b, o, none⟩) (h.heap b hb)
theorem Ext.fr {w w' : World} (h : Ext w w') {may : Nat → Prop} {M : Nat → Nat → Prop} (hm : ∀ b, w.heap.size ≤ b → may b) (hM : ∀ b o, M b o → b < w.heap.size) : Fr may w M w' M :=
  ⟨h.os, h.tape, h.output, h.size, fun b hb => h.heap b (Nat.lt_of_not_le fun hh => hb (hm b hh)), fun _ _ h => h, fun b o hh => h.cell (hM b o hh) o, fun _ _ _ h => h⟩
theorem lt_of_heap {w : World} {b : Nat} {o : Obj} (h : w.heap[b]? = some o) : b < w.heap.size := (Array.getElem?_eq_some_iff.1 h).1
section
variable {P : Program} {w w' : World} {g : Gh} {may : Nat → Prop} {S : List Store}
theorem SInv.lt (hi : SInv P w g may S) {i k : Nat} {o : Ob} (h : getOb S i k = some o) (hl : o.loose = true) : g.B i k < w.heap.size ∧ may (g.B i k) ∧ ∀ j, ¬ g.M (g.B i k) j := by
  cases o with
  | box cs =>
    obtain ⟨h1, h2, vs, t, h3, _⟩ := hi.box i k cs h
    exact ⟨lt_of_heap h3, h1, h2⟩
  | arr fz e xs =>
    simp [Ob.loose] at hl; subst hl
    obtain ⟨h1, h2, _, cur, us, cap, h3, _⟩ := hi.arr i k e xs h
    exact ⟨lt_of_heap h3, h1, h2⟩
def Gh.new (g : Gh) (k b c : Nat) : Gh := { M := g.M, B := fun i j => if i = 0 ∧ j = k then b else g.B i j, C := fun i j => if i = 0 ∧ j = k then c else g.C i j }
def createS (S : List Store) (k : Nat) (o : Ob) : List Store := match S with
  | [] => []
  | t :: r => ((k, o) :: drop (killStore k t) k) :: r
theorem getOb_createS (hne : S ≠ []) (k : Nat) (o : Ob) (j m : Nat) : getOb (createS S k o) j m = if j = 0 then (if m = k then some o else (getOb S 0 m).map (Ob.kill k)) else getOb S j m := by
  cases S with
  | nil => exact absurd rfl hne
  | cons t r => exact getOb_create t r k o j m
theorem Kp.create (hne : S ≠ []) (k : Nat) (hk : k < 500000) (o : Ob) (b c : Nat) : Kp 1 S g (createS S k o) (g.new k b c) := by
  refine ⟨fun i j cs hi h => ?_, fun i j fz e xs hi h => ?_⟩
  · by_cases h0 : i = 0
    · subst h0
      have hj : j ≠ k := by omega
      rw [getOb_createS hne, if_pos rfl, if_neg hj, h]
      exact ⟨⟨_, rfl⟩, by simp [Gh.new, hj]⟩
    · rw [getOb_createS hne, if_neg h0]
      exact ⟨⟨cs, h⟩, by simp [Gh.new, h0]⟩
  · by_cases h0 : i = 0
    · subst h0
      have hj : j ≠ k := by omega
      rw [getOb_createS hne, if_pos rfl, if_neg hj, h]
      exact ⟨fz, xs, rfl, Nat.le_refl _, fun _ => ⟨by simp [Gh.new, hj], fun hf => ⟨hf, by simp [Gh.new, hj]⟩⟩⟩
    · rw [getOb_createS hne, if_neg h0]
      exact ⟨fz, xs, h, Nat.le_refl _, fun _ => ⟨by simp [Gh.new, h0], fun hf => ⟨hf, by simp [Gh.new, h0]⟩⟩⟩
theorem Kp0.create (hne : S ≠ []) (k : Nat) (o : Ob) (b c : Nat) : Kp0 1 S g (createS S k o) (g.new k b c) := by
  refine ⟨fun i j cs hi h => ?_, fun i j fz e xs hi h => ?_⟩
  · have h0 : i ≠ 0 := by omega
    rw [getOb_createS hne, if_neg h0]
    exact ⟨⟨cs, h⟩, by simp [Gh.new, h0]⟩
  · have h0 : i ≠ 0 := by omega
    rw [getOb_createS hne, if_neg h0]
    exact ⟨fz, xs, h, Nat.le_refl _, fun _ => ⟨by simp [Gh.new, h0], fun hf => ⟨hf, by simp [Gh.new, h0]⟩⟩⟩
theorem CRep.create (hx : Ext w w') (hM : ∀ b o, g.M b o → b < w.heap.size) (hne : S ≠ []) {k b c0 : Nat} {o : Ob} {c : AV} {u : Value} (h : CRep P w g S c u) : CRep P w' (g.new k b c0) (createS S k o) (c.killCell k) u := by
  have hcell : ∀ b o, g.M b o → w'.cell? ⟨b, o, none⟩ = w.cell? ⟨b, o, none⟩ := fun b o h => hx.cell (hM b o h) o
  have other : c.from 1 → c.killCell k = c → CRep P w' (g.new k b c0) (createS S k o) (c.killCell k) u := fun h1 h2 => by
    rw [h2]
    exact CRep.keep0 (g := g) (g' := g.new k b c0) (S := S) (fun _ _ h => h) hcell (Kp0.create hne k o b c0) h1 h
  cases c with
  | arr i j e lo n tot =>
    cases i with
    | zero =>
      simp only [AV.killCell]
      split
      · trivial
      · rename_i hj
        obtain ⟨fz, xs, hg, ht, hq, h1⟩ := h
        refine ⟨fz, xs, ?_, ht, fun hl => ?_, h1⟩
        · rw [getOb_createS hne, if_pos rfl, if_neg hj, hg]; rfl
        · obtain ⟨hln, A, c, rfl, hnc, hcm, hA, hC⟩ := hq hl
          refine ⟨hln, A, c, rfl, hnc, hcm, fun h3 => ?_, fun hf => ?_⟩
          · simp only [Gh.new, hj, and_false, if_false]; exact hA h3
          · simp only [Gh.new, hj, and_false, if_false]; exact hC hf
    | succ i => exact other (by simp [AV.from]) rfl
  | ref i j off =>
    cases i with
    | zero =>
      simp only [AV.killCell]
      split
      · trivial
      · rename_i hj
        obtain ⟨⟨cs, hg⟩, rfl⟩ := h
        refine ⟨⟨cs.map (AV.killCell k), ?_⟩, ?_⟩
        · rw [getOb_createS hne, if_pos rfl, if_neg hj, hg]; rfl
        · simp [Gh.new, hj]
    | succ i => exact other (by simp [AV.from]) rfl
  | ear i j e tot m off =>
    cases i with
    | zero =>
      simp only [AV.killCell]
      split
      · trivial
      · rename_i hj
        obtain ⟨fz, xs, hg, ht, hq⟩ := h
        refine ⟨fz, xs, ?_, ht, fun hl => ?_⟩
        · rw [getOb_createS hne, if_pos rfl, if_neg hj, hg]; rfl
        · simp only [Gh.new, hj, and_false, if_false]; exact hq hl
    | succ i => exact other (by simp [AV.from]) rfl
  | agg => exact h.elim
  | tup => exact h.elim
  | own => exact h.elim
  | obj => exact h.elim
  | _ => exact other (by simp [AV.from]) rfl
theorem HRep1.create (hx : Ext w w') (hM : ∀ b o, g.M b o → b < w.heap.size) (hne : S ≠ []) {k b c0 : Nat} {o : Ob} {c : AV} {u : Value} (h : HRep1 P w g S c u) : HRep1 P w' (g.new k b c0) (createS S k o) (c.kill1 k) u := by
  have cell : ∀ c : AV, CRep P w g S c u → HRep1 P w' (g.new k b c0) (createS S k o) (c.killCell k) u := fun c h => HRep1.of_cell (h.create hx hM hne)
  cases c with
  | agg cs =>
    obtain ⟨vs, rfl, hl, hr⟩ := h
    refine ⟨vs, rfl, by simpa using hl, fun i c u h1 h2 => ?_⟩
    simp only [List.getElem?_map, Option.map_eq_some_iff] at h1
    obtain ⟨c', h1, rfl⟩ := h1
    exact ⟨(hr i c' u h1 h2).1.create hx hM hne, (hr i c' u h1 h2).2⟩
  | _ =>
    unfold HRep1 at h
    exact cell _ h
theorem HRep.create (hx : Ext w w') (hM : ∀ b o, g.M b o → b < w.heap.size) (hne : S ≠ []) {k b c0 : Nat} {o : Ob} {c : AV} {u : Value} (h : HRep P w g S c u) : HRep P w' (g.new k b c0) (createS S k o) (c.kill k) u := by
  cases c with
  | tup as =>
    obtain ⟨vs, rfl, hl, hr⟩ := h
    refine ⟨vs, rfl, by simpa using hl, fun i c u h1 h2 => ?_⟩
    simp only [List.getElem?_map, Option.map_eq_some_iff] at h1
    obtain ⟨c', h1, rfl⟩ := h1
    exact (hr i c' u h1 h2).create hx hM hne
  | agg cs =>
    have h' := HRep1.create (c := .agg cs) hx hM hne (k := k) (b := b) (c0 := c0) (o := o) h
    exact h'
  | _ =>
    unfold HRep HRep1 at h
    exact HRep.of_cell (CRep.create hx hM hne h)
def NewOK (P : Program) (w' : World) (g : Gh) (S' : List Store) (b c0 : Nat) : Ob → Prop
  | .box cs => ∃ (vs : List Value) (t : TypeId), w'.heap[b]? = some (.cells vs.toArray t (0, 0)) ∧ CellsRep P w' g S' cs vs
  | .arr fz e xs => fz = false ∧ 0 < P.cellsOf e ∧ ∃ (cur us : List Value) (cap : Nat), w'.heap[b]? = some (.cells cur.toArray e (0, 0)) ∧ cur.length = c0 ∧ c0 = cap * P.cellsOf e ∧ cap ≤ maxLen ∧ xs.length ≤ cap ∧ RepL P w' g.M e xs us ∧ cur.take (xs.length * P.cellsOf e) = flat us
theorem SInv.createG (hi : SInv P w g may S) (hne : S ≠ []) (hx : Ext w w') {k b c0 : Nat} {o : Ob} (hmb : may b) (hnM : ∀ o, ¬ g.M b o) (hnB : ∀ i k o, getOb S i k = some o → o.loose = true → g.B i k ≠ b) (ho : NewOK P w' (g.new k b c0) (createS S k o) b c0 o) :
    SInv P w' (g.new k b c0) may (createS S k o) := by
  have hM := hi.mlt
  have hcell : ∀ b o, g.M b o → w'.cell? ⟨b, o, none⟩ = w.cell? ⟨b, o, none⟩ := fun b o h => hx.cell (hM b o h) o
  have old : ∀ i j o', getOb (createS S k o) i j = some o' → (i = 0 ∧ j = k ∧ o' = o) ∨ (¬ (i = 0 ∧ j = k) ∧ ∃ p, getOb S i j = some p ∧ o' = if i = 0 then p.kill k else p) := by
    intro i j o' h
    rw [getOb_createS hne] at h
    by_cases h0 : i = 0
    · subst h0
      rw [if_pos rfl] at h
      by_cases hj : j = k
      · subst hj; simp at h; exact .inl ⟨rfl, rfl, h.symm⟩
      · rw [if_neg hj] at h
        obtain ⟨p, hp, rfl⟩ := Option.map_eq_some_iff.1 h
        exact .inr ⟨by simp [hj], p, hp, by simp⟩
    · rw [if_neg h0] at h
      exact .inr ⟨by simp [h0], o', h, by simp [h0]⟩
  have hBo : ∀ i j, ¬ (i = 0 ∧ j = k) → (g.new k b c0).B i j = g.B i j := fun i j h => by simp [Gh.new, h]
  have hCo : ∀ i j, ¬ (i = 0 ∧ j = k) → (g.new k b c0).C i j = g.C i j := fun i j h => by simp [Gh.new, h]
  have hBn : (g.new k b c0).B 0 k = b := by simp [Gh.new]
  have hCn : (g.new k b c0).C 0 k = c0 := by simp [Gh.new]
  refine ⟨fun i j cs h => ?_, fun i j e xs h => ?_, fun i j e xs h => ?_, fun i j p i' j' p' h h' hl hl' he => ?_, fun b o h => Nat.lt_of_lt_of_le (hM b o h) hx.size⟩
  · rcases old i j _ h with ⟨rfl, rfl, rfl⟩ | ⟨hn, p, hp, hpo⟩
    · rw [hBn]
      obtain ⟨vs, t, hh, hc⟩ := ho
      exact ⟨hmb, hnM, vs, t, hh, hc.1, fun m c u h1 h2 => by rw [AV.shift_zero]; exact hc.2 m c u h1 h2⟩
    · rw [hBo i j hn]
      cases p with
      | arr fz e xs => split at hpo <;> simp [Ob.kill] at hpo
      | box ds =>
        obtain ⟨h1, h2, vs, t, h3, h4, h5⟩ := hi.box i j ds hp
        refine ⟨h1, h2, vs, t, by rw [hx.heap _ (lt_of_heap h3)]; exact h3, ?_, fun m c u hc hu => ?_⟩
        · split at hpo <;> simp [Ob.kill] at hpo <;> subst hpo <;> simpa using h4
        · by_cases h0 : i = 0
          · subst h0
            simp [Ob.kill] at hpo; subst hpo
            simp only [List.getElem?_map, Option.map_eq_some_iff] at hc
            obtain ⟨c', hc, rfl⟩ := hc
            have := h5 m c' u hc hu
            rw [AV.shift_zero] at this ⊢
            exact ⟨this.1.create hx hM hne, this.2⟩
          · rw [if_neg h0] at hpo
            simp at hpo; subst hpo
            have := h5 m c u hc hu
            refine ⟨CRep.keep0 (g := g) (g' := g.new k b c0) (S := S) (fun _ _ h => h) hcell (Kp0.create hne k o b c0) ?_ this.1, this.2⟩
            have hf := AV.from_shift c i
            cases c <;> simp_all [AV.shift, AV.from] <;> omega
  · rcases old i j _ h with ⟨rfl, rfl, rfl⟩ | ⟨hn, p, hp, hpo⟩
    · rw [hBn, hCn]
      obtain ⟨_, he, cur, us, cap, h1, h2, h3, h4, h5, h6, h7⟩ := ho
      exact ⟨hmb, hnM, he, cur, us, cap, h1, h2, h3, h4, h5, h6, h7⟩
    · rw [hBo i j hn, hCo i j hn]
      cases p with
      | box ds => split at hpo <;> simp [Ob.kill] at hpo
      | arr fz e' xs' =>
        have : fz = false ∧ e' = e ∧ xs' = xs := by split at hpo <;> simp [Ob.kill] at hpo <;> first | exact ⟨hpo.1, hpo.2.1.symm, hpo.2.2.symm⟩ | exact ⟨hpo.1.symm, hpo.2.1.symm, hpo.2.2.symm⟩
        obtain ⟨rfl, rfl, rfl⟩ := this
        obtain ⟨h1, h2, he, cur, us, cap, h3, h4, h5, h6, h7, h8, h9⟩ := hi.arr i j _ _ hp
        exact ⟨h1, h2, he, cur, us, cap, by rw [hx.heap _ (lt_of_heap h3)]; exact h3, h4, h5, h6, h7, h8.mono (fun _ _ h => h) hcell, h9⟩
  · rcases old i j _ h with ⟨rfl, rfl, rfl⟩ | ⟨hn, p, hp, hpo⟩
    · exact absurd ho.1 (by simp)
    · rw [hBo i j hn]
      cases p with
      | box ds => split at hpo <;> simp [Ob.kill] at hpo
      | arr fz e' xs' =>
        have : fz = true ∧ e' = e ∧ xs' = xs := by split at hpo <;> simp [Ob.kill] at hpo <;> first | exact ⟨hpo.1, hpo.2.1.symm, hpo.2.2.symm⟩ | exact ⟨hpo.1.symm, hpo.2.1.symm, hpo.2.2.symm⟩
        obtain ⟨rfl, rfl, rfl⟩ := this
        obtain ⟨he, us, hr, hc⟩ := hi.fz i j _ _ hp
        exact ⟨he, us, hr.mono (fun _ _ h => h) hcell, fun m cv hm => ⟨(hcell _ _ (hc m cv hm).2).trans (hc m cv hm).1, (hc m cv hm).2⟩⟩
  · have loose : ∀ (i : Nat) (p : Ob), (if i = 0 then p.kill k else p).loose = p.loose := by
      intro i p; split
      · cases p <;> rfl
      · rfl
    rcases old i j _ h with ⟨rfl, rfl, rfl⟩ | ⟨hn, q, hq, rfl⟩
    · rcases old i' j' _ h' with ⟨rfl, rfl, rfl⟩ | ⟨hn', q', hq', rfl⟩
      · exact ⟨rfl, rfl⟩
      · rw [hBn, hBo i' j' hn'] at he
        rw [loose] at hl'
        exact absurd he.symm (hnB _ _ _ hq' hl')
    · rcases old i' j' _ h' with ⟨rfl, rfl, rfl⟩ | ⟨hn', q', hq', rfl⟩
      · rw [hBn, hBo i j hn] at he
        rw [loose] at hl
        exact absurd he (hnB _ _ _ hq hl)
      · rw [hBo i j hn, hBo i' j' hn'] at he
        rw [loose] at hl hl'
        exact hi.inj i j q i' j' q' hq hq' hl hl' he
theorem SInv.create (hi : SInv P w g may S) (hne : S ≠ []) (hx : Ext w w') (hm : ∀ b, w.heap.size ≤ b → may b) {k b c0 : Nat} {o : Ob} (hb : w.heap.size ≤ b) (ho : NewOK P w' (g.new k b c0) (createS S k o) b c0 o) :
    SInv P w' (g.new k b c0) may (createS S k o) :=
  hi.createG hne hx (hm b hb) (fun o h => by have := hi.mlt b o h; omega) (fun i j q hq hl he => by have := (hi.lt hq hl).1; omega) ho
end
section
variable {P : Program} {w w' : World} {g : Gh} {may : Nat → Prop} {s : St} {a : Act}
theorem createS_ne {S : List Store} (h : S ≠ []) (k : Nat) (o : Ob) : createS S k o ≠ [] := by
  cases S with
  | nil => exact absurd rfl h
  | cons t r => simp [createS]
theorem Sim.createG (hs : Sim P may s a w g) (hx : Ext w w') {k b c0 : Nat} {o : Ob} (hmb : may b) (hnM : ∀ o, ¬ g.M b o) (hnB : ∀ i k o, getOb s.stores i k = some o → o.loose = true → g.B i k ≠ b) (ho : NewOK P w' (g.new k b c0) (createS s.stores k o) b c0 o) :
    Sim P may (s.create k o) a w' (g.new k b c0) := by
  refine ⟨hs.inv.createG hs.ne hx hmb hnM hnB ho, by simpa [St.create] using hs.len, fun t x h => ?_, hs.defers, createS_ne hs.ne k o⟩
  simp only [St.create, List.getElem?_map, Option.map_eq_some_iff] at h
  obtain ⟨y, hy, rfl⟩ := h
  exact (hs.slots t y hy).create hx hs.inv.mlt hs.ne
theorem Sim.create (hs : Sim P may s a w g) (hx : Ext w w') (hm : ∀ b, w.heap.size ≤ b → may b) {k b c0 : Nat} {o : Ob} (hb : w.heap.size ≤ b) (ho : NewOK P w' (g.new k b c0) (createS s.stores k o) b c0 o) :
    Sim P may (s.create k o) a w' (g.new k b c0) := by
  refine ⟨hs.inv.create hs.ne hx hm hb ho, by simpa [St.create] using hs.len, fun t x h => ?_, hs.defers, createS_ne hs.ne k o⟩
  simp only [St.create, List.getElem?_map, Option.map_eq_some_iff] at h
  obtain ⟨y, hy, rfl⟩ := h
  exact (hs.slots t y hy).create hx hs.inv.mlt hs.ne
def Leaves (P : Program) (may : Nat → Prop) (s : St) (w : World) (g : Gh) (s' : St) (a' : Act) (w' : World) : Prop :=
  ∃ g', Sim P may s' a' w' g' ∧ Fr may w g.M w' g'.M ∧ Kp 1 s.stores g s'.stores g'
theorem Leaves.same {a' : Act} {s' : St} (h : Sim P may s' a' w g) (hst : s'.stores = s.stores) : Leaves P may s w g s' a' w := ⟨g, h, Fr.refl _ _ _, by rw [hst]; exact Kp.refl _ _ _⟩
theorem fresh_sound (hs : Sim P may s a w g) (hm : ∀ b, w.heap.size ≤ b → may b) (hx : Ext w w') {s' : St} {d : Option Nat} {e : TypeId} {xs : List AV} {b cap : Nat} {cur us : List Value} (h : s.fresh d e xs = some s')
    (hb : w.heap.size ≤ b) (hh : w'.heap[b]? = some (.cells cur.toArray e (0, 0))) (he : 0 < P.cellsOf e) (hcur : cur.length = cap * P.cellsOf e) (hcap : cap ≤ maxLen) (hxc : xs.length ≤ cap)
    (hr : RepL P w g.M e xs us) (ht : cur.take (xs.length * P.cellsOf e) = flat us) : Leaves P may s w g s' (a.put d (.slice (some ⟨b, 0, none⟩) xs.length cap)) w' := by
  cases d with
  | none => simp [St.fresh] at h
  | some k =>
    simp only [St.fresh] at h
    split at h
    case isFalse => cases h
    rename_i hk
    simp only [Option.some.injEq] at h; subst h
    have hcell : ∀ b o, g.M b o → w'.cell? ⟨b, o, none⟩ = w.cell? ⟨b, o, none⟩ := fun b o h => hx.cell (hs.inv.mlt b o h) o
    have h1 : Sim P may (s.create k (.arr false e xs)) a w' (g.new k b (cap * P.cellsOf e)) :=
      hs.create hx hm hb ⟨rfl, he, cur, us, cap, hh, hcur, rfl, hcap, hxc, hr.mono (fun _ _ h => h) hcell, ht⟩
    refine ⟨_, h1.put (x := .arr 0 k e 0 xs.length xs.length) ?_ (some k), hx.fr hm hs.inv.mlt, Kp.create hs.ne k hk _ b _⟩
    refine ⟨false, xs, ?_, Nat.le_refl _, fun _ => ⟨by omega, _, cap, rfl, hxc, hcap, fun _ => by simp [Gh.new], fun _ => by simp [Gh.new]⟩, rfl⟩
    show getOb (createS s.stores k _) 0 k = _
    rw [getOb_createS hs.ne]; simp
theorem boxA_sound (hs : Sim P may s a w g) (hm : ∀ b, w.heap.size ≤ b → may b) {s' : St} {d : Option Nat} {e : TypeId} {x : AV} {v : Value} (hv : HRep P w g s.stores x v) (h : boxA P s d e x = some s') :
    Leaves P may s w g s' (a.put d (.pointer (some ⟨w.heap.size, 0, none⟩))) (w.alloc (.cells v.cells e)) := by
  unfold boxA at h
  split at h
  · rename_i k n hn
    split at h
    · rename_i hc0
      obtain ⟨hc, hk⟩ := hc0
      simp only [Option.some.injEq] at h; subst h
      have hcr := hv.cellsRep hc.2
      have hx := Ext.alloc w (.cells v.cells e)
      have h1 : Sim P may (s.create k (.box (x.cells.map (AV.killCell k)))) a (w.alloc (.cells v.cells e)) (g.new k w.heap.size 0) := by
        refine hs.create hx hm (Nat.le_refl _) ⟨v.cells.toList, e, by simpa using heap_alloc_new w _, by simpa using hcr.1, fun i c u h1 h2 => ?_⟩
        simp only [List.getElem?_map, Option.map_eq_some_iff] at h1
        obtain ⟨c', h1, rfl⟩ := h1
        exact ⟨(hcr.2 i c' u h1 h2).1.create hx hs.inv.mlt hs.ne, (hcr.2 i c' u h1 h2).2⟩
      refine ⟨_, h1.put (x := .ref 0 k 0) ⟨⟨x.cells.map (AV.killCell k), ?_⟩, by simp [Gh.new]⟩ (some k), hx.fr hm hs.inv.mlt, Kp.create hs.ne k hk _ _ _⟩
      show getOb (createS s.stores k _) 0 k = _
      rw [getOb_createS hs.ne]; simp
    · cases h
  · cases h
end
end Go.AbsM
end

section
namespace Go.AbsM
structure Chg (B0 : Nat) (w w' : World) : Prop where
  os : w'.os = w.os
  tape : w'.tape = w.tape
  output : w'.output = w.output
  size : w.heap.size ≤ w'.heap.size
  heap : ∀ b, b < w.heap.size → b ≠ B0 → w'.heap[b]? = w.heap[b]?
theorem Chg.setRow (w : World) (b : Nat) (cs : Array Value) : Chg b w (w.setRow b cs) := ⟨rfl, rfl, rfl, by simp, fun k _ hk => setRow_other w b k cs hk⟩
theorem Chg.of_ext {B0 : Nat} {w w' : World} (h : Ext w w') : Chg B0 w w' := ⟨h.os, h.tape, h.output, h.size, fun b hb _ => h.heap b hb⟩
def Gh.at (g : Gh) (i k b c : Nat) : Gh := { M := g.M, B := fun i' j => if i' = i ∧ j = k then b else g.B i' j, C := fun i' j => if i' = i ∧ j = k then c else g.C i' j }
section
variable {P : Program} {w w' : World} {g : Gh} {may : Nat → Prop} {S : List Store}
theorem Chg.fr (hi : SInv P w g may S) (hm : ∀ b, w.heap.size ≤ b → may b) {B0 : Nat} (hc : Chg B0 w w') (hB : may B0) (hM : ∀ o, ¬ g.M B0 o) : Fr may w g.M w' g.M := by
  have hcell : ∀ b o, g.M b o → w'.heap[b]? = w.heap[b]? := fun b o h => hc.heap b (hi.mlt b o h) fun e => hM o (e ▸ h)
  exact ⟨hc.os, hc.tape, hc.output, hc.size, fun b hb => hc.heap b (Nat.lt_of_not_le fun hh => hb (hm b hh)) fun e => hb (e ▸ hB), fun _ _ h => h, fun b o h => World.cell?_of_block (w := w) (a := ⟨b, o, none⟩) (hcell b o h), fun _ _ _ h => h⟩
theorem SInv.setArr (hi : SInv P w g may S) (hm : ∀ b, w.heap.size ≤ b → may b) {i k : Nat} {e : TypeId} {xs xs' : List AV} (hg : getOb S i k = some (.arr false e xs)) {b c0 : Nat} (hc : Chg (g.B i k) w w')
    (hlen : xs.length ≤ xs'.length) (hbb : (b = g.B i k ∧ c0 = g.C i k) ∨ (w.heap.size ≤ b ∧ xs.length < xs'.length))
    (hnew : ∃ (cur us : List Value) (cap : Nat), w'.heap[b]? = some (.cells cur.toArray e (0, 0)) ∧ cur.length = c0 ∧ c0 = cap * P.cellsOf e ∧ cap ≤ maxLen ∧ xs'.length ≤ cap ∧ RepL P w' g.M e xs' us ∧ cur.take (xs'.length * P.cellsOf e) = flat us) :
    SInv P w' (g.at i k b c0) may (setOb S i k (.arr false e xs')) ∧ Kp 0 S g (setOb S i k (.arr false e xs')) (g.at i k b c0) ∧ Fr may w g.M w' (g.at i k b c0).M := by
  have hlt := hi.lt hg rfl
  have hfr : Fr may w g.M w' g.M := hc.fr hi hm hlt.2.1 hlt.2.2
  have hkp : Kp 0 S g (setOb S i k (.arr false e xs')) (g.at i k b c0) := by
    refine ⟨fun i' k' cs _ h => ?_, fun i' k' fz e' ys _ h => ?_⟩
    · have hn : ¬ (i' = i ∧ k' = k) := by rintro ⟨rfl, rfl⟩; rw [hg] at h; cases h
      rw [getOb_set, if_neg hn]
      exact ⟨⟨cs, h⟩, by simp [Gh.at, hn]⟩
    · by_cases hn : i' = i ∧ k' = k
      · obtain ⟨rfl, rfl⟩ := hn
        rw [hg] at h
        simp only [Option.some.injEq, Ob.arr.injEq] at h
        obtain ⟨rfl, rfl, rfl⟩ := h
        refine ⟨false, xs', by rw [getOb_set]; simp [hg], hlen, fun he => ?_⟩
        rcases hbb with ⟨rfl, rfl⟩ | ⟨_, hh⟩
        · exact ⟨by simp [Gh.at], fun _ => ⟨rfl, by simp [Gh.at]⟩⟩
        · omega
      · rw [getOb_set, if_neg hn]
        exact ⟨fz, ys, h, Nat.le_refl _, fun _ => ⟨by simp [Gh.at, hn], fun hf => ⟨hf, by simp [Gh.at, hn]⟩⟩⟩
  refine ⟨?_, hkp, hfr⟩
  have old : ∀ i' k' o', getOb (setOb S i k (.arr false e xs')) i' k' = some o' → (i' = i ∧ k' = k ∧ o' = .arr false e xs') ∨ (¬ (i' = i ∧ k' = k) ∧ getOb S i' k' = some o') := by
    intro i' k' o' h
    rw [getOb_set] at h
    by_cases hn : i' = i ∧ k' = k
    · rw [if_pos hn, hg] at h
      simp at h
      exact .inl ⟨hn.1, hn.2, h.symm⟩
    · rw [if_neg hn] at h
      exact .inr ⟨hn, h⟩
  have hBo : ∀ i' j, ¬ (i' = i ∧ j = k) → (g.at i k b c0).B i' j = g.B i' j := fun i' j h => by simp [Gh.at, h]
  have hCo : ∀ i' j, ¬ (i' = i ∧ j = k) → (g.at i k b c0).C i' j = g.C i' j := fun i' j h => by simp [Gh.at, h]
  have hBn : (g.at i k b c0).B i k = b := by simp [Gh.at]
  have hCn : (g.at i k b c0).C i k = c0 := by simp [Gh.at]
  have hmb : may b := by
    rcases hbb with ⟨rfl, _⟩ | ⟨hh, _⟩
    · exact hlt.2.1
    · exact hm b hh
  have hnM : ∀ o, ¬ g.M b o := by
    rcases hbb with ⟨rfl, _⟩ | ⟨hh, _⟩
    · exact hlt.2.2
    · intro o h; have := hi.mlt b o h; omega
  have heapo : ∀ i' k' o', ¬ (i' = i ∧ k' = k) → getOb S i' k' = some o' → o'.loose = true → w'.heap[g.B i' k']? = w.heap[g.B i' k']? := fun i' k' o' hn h hl =>
    hc.heap _ (hi.lt h hl).1 fun he => hn (hi.inj i' k' o' i k _ h hg hl rfl he)
  refine ⟨fun i' k' cs h => ?_, fun i' k' e' ys h => ?_, fun i' k' e' ys h => ?_, fun i1 k1 o1 i2 k2 o2 h1 h2 hl1 hl2 he => ?_, fun b o h => Nat.lt_of_lt_of_le (hi.mlt b o h) hc.size⟩
  · rcases old i' k' _ h with ⟨_, _, hh⟩ | ⟨hn, h⟩
    · cases hh
    · rw [hBo i' k' hn]
      obtain ⟨h1, h2, vs, t, h3, h4, h5⟩ := hi.box i' k' cs h
      exact ⟨h1, h2, vs, t, by rw [heapo i' k' _ hn h rfl]; exact h3, h4, fun j c u hc' hu => ⟨CRep.keep (g := g) (g' := g.at i k b c0) (S := S) hfr.sub hfr.cell hkp (AV.from_zero _) (h5 j c u hc' hu).1, (h5 j c u hc' hu).2⟩⟩
  · rcases old i' k' _ h with ⟨rfl, rfl, hh⟩ | ⟨hn, h⟩
    · cases hh
      rw [hBn, hCn]
      obtain ⟨_, _, he, _⟩ := hi.arr _ _ e xs hg
      obtain ⟨cur, us, cap, h1, h2, h3, h4, h5, h6, h7⟩ := hnew
      exact ⟨hmb, hnM, he, cur, us, cap, h1, h2, h3, h4, h5, h6, h7⟩
    · rw [hBo i' k' hn, hCo i' k' hn]
      obtain ⟨h1, h2, he, cur, us, cap, h3, h4, h5, h6, h7, h8, h9⟩ := hi.arr i' k' _ _ h
      exact ⟨h1, h2, he, cur, us, cap, by rw [heapo i' k' _ hn h rfl]; exact h3, h4, h5, h6, h7, h8.mono hfr.sub hfr.cell, h9⟩
  · rcases old i' k' _ h with ⟨_, _, hh⟩ | ⟨hn, h⟩
    · cases hh
    · rw [hBo i' k' hn]
      obtain ⟨he, us, hr, hcl⟩ := hi.fz i' k' _ _ h
      exact ⟨he, us, hr.mono hfr.sub hfr.cell, fun m cv hm => ⟨(hfr.cell _ _ (hcl m cv hm).2).trans (hcl m cv hm).1, (hcl m cv hm).2⟩⟩
  · rcases old i1 k1 _ h1 with ⟨rfl, rfl, rfl⟩ | ⟨hn1, q1⟩
    · rcases old i2 k2 _ h2 with ⟨rfl, rfl, rfl⟩ | ⟨hn2, q2⟩
      · exact ⟨rfl, rfl⟩
      · rw [hBn, hBo i2 k2 hn2] at he
        rcases hbb with ⟨rfl, _⟩ | ⟨hh, _⟩
        · have := hi.inj _ _ _ i2 k2 o2 hg q2 rfl hl2 he
          exact absurd ⟨this.1.symm, this.2.symm⟩ hn2
        · have := (hi.lt q2 hl2).1; omega
    · rcases old i2 k2 _ h2 with ⟨rfl, rfl, rfl⟩ | ⟨hn2, q2⟩
      · rw [hBn, hBo i1 k1 hn1] at he
        rcases hbb with ⟨rfl, _⟩ | ⟨hh, _⟩
        · exact absurd (hi.inj i1 k1 o1 _ _ _ q1 hg hl1 rfl he) hn1
        · have := (hi.lt q1 hl1).1; omega
      · rw [hBo i1 k1 hn1, hBo i2 k2 hn2] at he
        exact hi.inj i1 k1 o1 i2 k2 o2 q1 q2 hl1 hl2 he
theorem SInv.setBox (hi : SInv P w g may S) (hm : ∀ b, w.heap.size ≤ b → may b) {i k : Nat} {cs ds : List AV} (hg : getOb S i k = some (.box cs)) (hc : Chg (g.B i k) w w')
    (hnew : ∃ (vs : List Value) (t : TypeId), w'.heap[g.B i k]? = some (.cells vs.toArray t (0, 0)) ∧ vs.length = ds.length ∧ ∀ (j : Nat) (c : AV) (u : Value), ds[j]? = some c → vs[j]? = some u → CRep P w g S (c.shift i) u ∧ u.oneCell' = true) :
    SInv P w' g may (setOb S i k (.box ds)) ∧ Kp 0 S g (setOb S i k (.box ds)) g ∧ Fr may w g.M w' g.M := by
  have hlt := hi.lt hg rfl
  have hfr : Fr may w g.M w' g.M := hc.fr hi hm hlt.2.1 hlt.2.2
  have hkp : Kp 0 S g (setOb S i k (.box ds)) g := by
    refine ⟨fun i' k' cs' _ h => ?_, fun i' k' fz e' ys _ h => ?_⟩
    · by_cases hn : i' = i ∧ k' = k
      · obtain ⟨rfl, rfl⟩ := hn
        exact ⟨⟨ds, by rw [getOb_set]; simp [hg]⟩, rfl⟩
      · exact ⟨⟨cs', by rw [getOb_set, if_neg hn]; exact h⟩, rfl⟩
    · have hn : ¬ (i' = i ∧ k' = k) := by rintro ⟨rfl, rfl⟩; rw [hg] at h; cases h
      rw [getOb_set, if_neg hn]
      exact ⟨fz, ys, h, Nat.le_refl _, fun _ => ⟨rfl, fun hf => ⟨hf, rfl⟩⟩⟩
  refine ⟨?_, hkp, hfr⟩
  have old : ∀ i' k' o', getOb (setOb S i k (.box ds)) i' k' = some o' → (i' = i ∧ k' = k ∧ o' = .box ds) ∨ (¬ (i' = i ∧ k' = k) ∧ getOb S i' k' = some o') := by
    intro i' k' o' h
    rw [getOb_set] at h
    by_cases hn : i' = i ∧ k' = k
    · rw [if_pos hn, hg] at h
      simp at h
      exact .inl ⟨hn.1, hn.2, h.symm⟩
    · rw [if_neg hn] at h
      exact .inr ⟨hn, h⟩
  have heapo : ∀ i' k' o', ¬ (i' = i ∧ k' = k) → getOb S i' k' = some o' → o'.loose = true → w'.heap[g.B i' k']? = w.heap[g.B i' k']? := fun i' k' o' hn h hl =>
    hc.heap _ (hi.lt h hl).1 fun he => hn (hi.inj i' k' o' i k _ h hg hl rfl he)
  refine ⟨fun i' k' cs' h => ?_, fun i' k' e' ys h => ?_, fun i' k' e' ys h => ?_, fun i1 k1 o1 i2 k2 o2 h1 h2 hl1 hl2 he => ?_, fun b o h => Nat.lt_of_lt_of_le (hi.mlt b o h) hc.size⟩
  · rcases old i' k' _ h with ⟨rfl, rfl, hh⟩ | ⟨hn, h⟩
    · cases hh
      obtain ⟨vs, t, h1, h2, h3⟩ := hnew
      exact ⟨hlt.2.1, hlt.2.2, vs, t, h1, h2, fun j c u hc' hu => ⟨(h3 j c u hc' hu).1.keep hfr.sub hfr.cell hkp (AV.from_zero _), (h3 j c u hc' hu).2⟩⟩
    · obtain ⟨h1, h2, vs, t, h3, h4, h5⟩ := hi.box i' k' _ h
      exact ⟨h1, h2, vs, t, by rw [heapo i' k' _ hn h rfl]; exact h3, h4, fun j c u hc' hu => ⟨(h5 j c u hc' hu).1.keep hfr.sub hfr.cell hkp (AV.from_zero _), (h5 j c u hc' hu).2⟩⟩
  · rcases old i' k' _ h with ⟨_, _, hh⟩ | ⟨hn, h⟩
    · cases hh
    · obtain ⟨h1, h2, he, cur, us, cap, h3, h4, h5, h6, h7, h8, h9⟩ := hi.arr i' k' _ _ h
      exact ⟨h1, h2, he, cur, us, cap, by rw [heapo i' k' _ hn h rfl]; exact h3, h4, h5, h6, h7, h8.mono hfr.sub hfr.cell, h9⟩
  · rcases old i' k' _ h with ⟨_, _, hh⟩ | ⟨hn, h⟩
    · cases hh
    · obtain ⟨he, us, hr, hcl⟩ := hi.fz i' k' _ _ h
      exact ⟨he, us, hr.mono hfr.sub hfr.cell, fun m cv hm => ⟨(hfr.cell _ _ (hcl m cv hm).2).trans (hcl m cv hm).1, (hcl m cv hm).2⟩⟩
  · rcases old i1 k1 _ h1 with ⟨rfl, rfl, rfl⟩ | ⟨hn1, q1⟩
    · rcases old i2 k2 _ h2 with ⟨rfl, rfl, rfl⟩ | ⟨hn2, q2⟩
      · exact ⟨rfl, rfl⟩
      · have := hi.inj _ _ _ i2 k2 o2 hg q2 rfl hl2 he
        exact absurd ⟨this.1.symm, this.2.symm⟩ hn2
    · rcases old i2 k2 _ h2 with ⟨rfl, rfl, rfl⟩ | ⟨hn2, q2⟩
      · exact absurd (hi.inj i1 k1 o1 _ _ _ q1 hg hl1 rfl he) hn1
      · exact hi.inj i1 k1 o1 i2 k2 o2 q1 q2 hl1 hl2 he
def Gh.fz (g : Gh) (b n : Nat) : Gh := { g with M := fun b' o => g.M b' o ∨ (b' = b ∧ o < n) }
theorem SInv.setFz (hi : SInv P w g may S) {i k : Nat} {e : TypeId} {xs : List AV} (hg : getOb S i k = some (.arr false e xs)) :
    SInv P w (g.fz (g.B i k) (xs.length * P.cellsOf e)) may (setOb S i k (.arr true e xs)) ∧ Kp 0 S g (setOb S i k (.arr true e xs)) (g.fz (g.B i k) (xs.length * P.cellsOf e)) ∧ Fr may w g.M w (g.fz (g.B i k) (xs.length * P.cellsOf e)).M := by
  have hlt := hi.lt hg rfl
  have hfr : Fr may w g.M w (g.fz (g.B i k) (xs.length * P.cellsOf e)).M :=
    ⟨rfl, rfl, rfl, Nat.le_refl _, fun _ _ => rfl, fun _ _ h => .inl h, fun _ _ _ => rfl, fun b o hb h => h.elim id fun h => absurd hlt.2.1 (h.1 ▸ hb)⟩
  have hkp : Kp 0 S g (setOb S i k (.arr true e xs)) (g.fz (g.B i k) (xs.length * P.cellsOf e)) := by
    refine ⟨fun i' k' cs' _ h => ?_, fun i' k' fz e' ys _ h => ?_⟩
    · have hn : ¬ (i' = i ∧ k' = k) := by rintro ⟨rfl, rfl⟩; rw [hg] at h; cases h
      exact ⟨⟨cs', by rw [getOb_set, if_neg hn]; exact h⟩, rfl⟩
    · by_cases hn : i' = i ∧ k' = k
      · obtain ⟨rfl, rfl⟩ := hn
        rw [hg] at h
        simp only [Option.some.injEq, Ob.arr.injEq] at h
        obtain ⟨rfl, rfl, rfl⟩ := h
        exact ⟨true, xs, by rw [getOb_set]; simp [hg], Nat.le_refl _, fun _ => ⟨rfl, fun h => by cases h⟩⟩
      · rw [getOb_set, if_neg hn]
        exact ⟨fz, ys, h, Nat.le_refl _, fun _ => ⟨rfl, fun hf => ⟨hf, rfl⟩⟩⟩
  refine ⟨?_, hkp, hfr⟩
  have old : ∀ i' k' o', getOb (setOb S i k (.arr true e xs)) i' k' = some o' → (i' = i ∧ k' = k ∧ o' = .arr true e xs) ∨ (¬ (i' = i ∧ k' = k) ∧ getOb S i' k' = some o') := by
    intro i' k' o' h
    rw [getOb_set] at h
    by_cases hn : i' = i ∧ k' = k
    · rw [if_pos hn, hg] at h
      simp at h
      exact .inl ⟨hn.1, hn.2, h.symm⟩
    · rw [if_neg hn] at h
      exact .inr ⟨hn, h⟩
  have hMo : ∀ i' k' o', ¬ (i' = i ∧ k' = k) → getOb S i' k' = some o' → o'.loose = true → ∀ j, ¬ (g.fz (g.B i k) (xs.length * P.cellsOf e)).M (g.B i' k') j := fun i' k' o' hn h hl j hh =>
    hh.elim ((hi.lt h hl).2.2 j) fun hh => hn (hi.inj i' k' o' i k _ h hg hl rfl hh.1)
  refine ⟨fun i' k' cs' h => ?_, fun i' k' e' ys h => ?_, fun i' k' e' ys h => ?_, fun i1 k1 o1 i2 k2 o2 h1 h2 hl1 hl2 he => ?_, fun b o h => h.elim (hi.mlt b o) fun h => h.1 ▸ hlt.1⟩
  · rcases old i' k' _ h with ⟨_, _, hh⟩ | ⟨hn, h⟩
    · cases hh
    · obtain ⟨h1, h2, vs, t, h3, h4, h5⟩ := hi.box i' k' _ h
      exact ⟨h1, hMo i' k' _ hn h rfl, vs, t, h3, h4, fun j c u hc' hu => ⟨(h5 j c u hc' hu).1.keep hfr.sub hfr.cell hkp (AV.from_zero _), (h5 j c u hc' hu).2⟩⟩
  · rcases old i' k' _ h with ⟨_, _, hh⟩ | ⟨hn, h⟩
    · cases hh
    · obtain ⟨h1, h2, he, cur, us, cap, h3, h4, h5, h6, h7, h8, h9⟩ := hi.arr i' k' _ _ h
      exact ⟨h1, hMo i' k' _ hn h rfl, he, cur, us, cap, h3, h4, h5, h6, h7, h8.mono hfr.sub hfr.cell, h9⟩
  · rcases old i' k' _ h with ⟨rfl, rfl, hh⟩ | ⟨hn, h⟩
    · cases hh
      obtain ⟨_, _, he, cur, us, cap, h3, h4, h5, h6, h7, h8, h9⟩ := hi.arr _ _ _ _ hg
      refine ⟨he, us, h8.mono hfr.sub hfr.cell, fun m cv hm => ?_⟩
      have hml : m < xs.length * P.cellsOf e := by
        have := (List.getElem?_eq_some_iff.1 hm).1
        rw [h8.len] at this; exact this
      refine ⟨?_, .inr ⟨rfl, hml⟩⟩
      rw [← h9, List.getElem?_take, if_pos hml] at hm
      show w.cell? ⟨g.B _ _, m, none⟩ = _
      rw [cell_of_row w _ m cur.toArray e (0, 0) h3]
      simpa using hm
    · obtain ⟨he, us, hr, hcl⟩ := hi.fz i' k' _ _ h
      exact ⟨he, us, hr.mono hfr.sub hfr.cell, fun m cv hm => ⟨(hcl m cv hm).1, .inl (hcl m cv hm).2⟩⟩
  · rcases old i1 k1 _ h1 with ⟨rfl, rfl, rfl⟩ | ⟨hn1, q1⟩
    · simp [Ob.loose] at hl1
    · rcases old i2 k2 _ h2 with ⟨rfl, rfl, rfl⟩ | ⟨hn2, q2⟩
      · simp [Ob.loose] at hl2
      · exact hi.inj i1 k1 o1 i2 k2 o2 q1 q2 hl1 hl2 he
end
end Go.AbsM
end

section
namespace Go.AbsM
section
variable {P : Program} {w w' : World} {g : Gh} {may : Nat → Prop} {s : St} {a : Act}
theorem leave_arr (hs : Sim P may s a w g) (hm : ∀ b, w.heap.size ≤ b → may b) {i k : Nat} {e : TypeId} {xs xs' : List AV} (hg : getOb s.stores i k = some (.arr false e xs)) {b c0 : Nat} (hc : Chg (g.B i k) w w')
    (hlen : xs.length ≤ xs'.length) (hbb : (b = g.B i k ∧ c0 = g.C i k) ∨ (w.heap.size ≤ b ∧ xs.length < xs'.length))
    (hnew : ∃ (cur us : List Value) (cap : Nat), w'.heap[b]? = some (.cells cur.toArray e (0, 0)) ∧ cur.length = c0 ∧ c0 = cap * P.cellsOf e ∧ cap ≤ maxLen ∧ xs'.length ≤ cap ∧ RepL P w' g.M e xs' us ∧ cur.take (xs'.length * P.cellsOf e) = flat us)
    {d : Option Nat} {x : AV} {v : Value} (hx : HRep P w' (g.at i k b c0) (setOb s.stores i k (.arr false e xs')) x v) :
    Leaves P may s w g (St.put { s with stores := setOb s.stores i k (.arr false e xs') } d x) (a.put d v) w' := by
  obtain ⟨h1, h2, h3⟩ := hs.inv.setArr hm hg hc hlen hbb hnew
  have hsim : Sim P may { s with stores := setOb s.stores i k (.arr false e xs') } a w' (g.at i k b c0) := hs.keep h3.sub h3.cell h2 h1 (setOb_ne hs.ne _ _ _)
  refine ⟨_, hsim.put hx d, h3, ?_⟩
  have : (St.put { s with stores := setOb s.stores i k (.arr false e xs') } d x).stores = setOb s.stores i k (.arr false e xs') := by cases d <;> rfl
  rw [this]
  exact h2.mono (by omega)
theorem put_stores (s : St) (d : Option Nat) (x : AV) : (s.put d x).stores = s.stores := by cases d <;> rfl
theorem elemT_some {t e : TypeId} (h : elemT P t = some e) : P.underlying t = some (.slice e) := by
  unfold elemT at h
  split at h
  · simp only [Option.some.injEq] at h; subst h; assumption
  · cases h
def SrcT (P : Program) (t2 : TypeId) : Prop := (∃ e, P.underlying t2 = some (.slice e)) ∨ P.underlying t2 = some .string
theorem append_run_room {t t2 ty e : TypeId} {i : TypeInfo} {A : Option Addr} {n c m : Nat} {v : Value} {cells : Array Value} (hu : P.underlying t = some (.slice e)) (h2 : SrcT P t2) (hi : P.info? e = some i)
    (hl : (Builtin.lenOf v).run P w = .ok m w) (hf : (Builtin.firstCells i.size m v).run P w = .ok cells w) (hroom : n + m ≤ c) :
    (Builtin.append_ #[t, t2] ty #[.slice A n c, v]).run P w = match A with
      | none => .ok (.slice A (n + m) c) w
      | some ad => ((storeCells (ad.add (n * i.size)) cells.toList).run P w).andThen fun _ w' => .ok (.slice A (n + m) c) w' := by
  rcases h2 with ⟨e2, h2⟩ | h2 <;> cases A <;> simp [Builtin.append_, run_underlying hu, run_underlying h2, sizeOf, typeInfo, hi, hl, hf, hroom]
theorem append_run_grow {t t2 ty e : TypeId} {i : TypeInfo} {z : Value} {A : Option Addr} {n c m : Nat} {v : Value} {cells olds : Array Value} (hu : P.underlying t = some (.slice e)) (h2 : SrcT P t2) (hi : P.info? e = some i) (hz : i.zero = some z)
    (hl : (Builtin.lenOf v).run P w = .ok m w) (hf : (Builtin.firstCells i.size m v).run P w.drew = .ok cells w.drew) (hfo : (Builtin.firstCells i.size n (.slice A n c)).run P w.drew = .ok olds w.drew) (hgr : c < n + m)
    (hb : (n + m) * i.bytes ≤ 140737488355328) (hbp : 0 < i.bytes) :
    (Builtin.append_ #[t, t2] ty #[.slice A n c, v]).run P w =
      .ok (.slice (some ⟨w.heap.size, 0, none⟩) (n + m) (grownCap w (n + m) c e)) (w.drew.alloc (.cells (olds ++ cells ++ Builtin.zeroCells z.cells (grownCap w (n + m) c e - (n + m))) e)) := by
  have hn : ¬ (n + m ≤ c) := by omega
  have h48' : ¬ (281474976710656 < Builtin.nextslicecap (n + m) c * i.bytes) := by
    have := growslice_fits (old := c) (need := n + m) (bytes := i.bytes) (by omega) hb
    omega
  have hb0 : i.bytes ≠ 0 := by omega
  rcases h2 with ⟨e2, h2⟩ | h2 <;> simp [Builtin.append_, run_underlying hu, run_underlying h2, sizeOf, typeInfo, zeroValue, hi, hz, hl, hf, hfo, hn, h48', hb0, Question.forced, newRow, grownCap]
theorem flat_take_self {M : Nat → Nat → Prop} {e : TypeId} {xs : List AV} {us : List Value} (h : RepL P w M e xs us) : us.take xs.length = us := by rw [← h.1]; exact List.take_length
theorem grown_bound {n m c by_ : Nat} {e : TypeId} (hb : (n + m) * by_ ≤ 140737488355328) (hp : 0 < by_) : n + m ≤ maxLen := by
  have : n + m ≤ (n + m) * by_ := Nat.le_mul_of_pos_right _ hp
  simp only [maxLen]; omega
theorem zeroCells_size {z : AV} {zv : Value} (h : constAV zv = some z) (n : Nat) : (Builtin.zeroCells zv.cells n).size = n * z.cells.length := by
  have := (constAV_cells (P := default) (w := default) (g := ⟨fun _ _ => False, fun _ _ => 0, fun _ _ => 0⟩) (S := []) h).1.1
  simp only [Array.length_toList] at this
  simp [Builtin.zeroCells, this]
theorem cell_of_ext {w w' : World} (hx : Ext w w') {b o : Nat} {cv : Value} (h : w.cell? ⟨b, o, none⟩ = some cv) : w'.cell? ⟨b, o, none⟩ = some cv := by
  rw [hx.cell (World.block_lt_of_cell? w _ h) o]; exact h
theorem appendA_sound (hs : Sim P may s a w g) (hm : ∀ b, w.heap.size ≤ b → may b) {s' : St} {d : Option Nat} {t t2 ty : TypeId} {x y : AV} {u v : Value} (h2 : SrcT P t2) (hx : HRep P w g s.stores x u) (hy : HRep P w g s.stores y v) (h : appendA P s d t x y = some s') :
    ∃ z w', (Builtin.append_ #[t, t2] ty #[u, v]).run P w = .ok z w' ∧ Leaves P may s w g s' (a.put d z) w' := by
  unfold appendA at h
  split at h
  · cases h
  rename_i e he
  have hu := elemT_some he
  split at h
  · rename_i es by_ news z hes hby hsrc hz
    split at h
    · cases h
    rename_i hno
    have hce := sizeT_cells hes
    have hes0 : es ≠ 0 := fun e => hno (.inl e)
    have hby0 : by_ ≠ 0 := fun e => hno (.inr (.inl e))
    have hzl : z.cells.length = es := Decidable.byContradiction fun e => hno (.inr (.inr e))
    have hpos : 0 < P.cellsOf e := by rw [hce]; omega
    obtain ⟨i, hi, rfl⟩ := Option.map_eq_some_iff.1 hes
    obtain ⟨i', hi', hbi⟩ := Option.map_eq_some_iff.1 hby
    rw [hi] at hi'
    cases hi'
    subst hbi
    obtain ⟨i', zv, hi', hzv, hzc⟩ := zeroT_some hz
    rw [hi] at hi'
    cases hi'
    obtain ⟨us, hr, hlen, hfirst⟩ := hs.inv.src hy hsrc
    have hf0 : ∀ w', Ext w w' → (Builtin.firstCells i.size news.length v).run P w' = .ok (flat us).toArray w' := by
      intro w' hw'
      have := hfirst news.length (Nat.le_refl _) w' (fun b o cv h => cell_of_ext hw' h)
      rw [flat_take_self hr, hce] at this
      exact this
    have hl1 : (flat us).length = news.length * P.cellsOf e := hr.len
    have fresh : ∀ (A : Option Addr), u = .slice A 0 0 → 0 < news.length → news.length * i.bytes ≤ 140737488355328 → s.fresh d e news = some s' →
        ∃ z w', (Builtin.append_ #[t, t2] ty #[u, v]).run P w = .ok z w' ∧ Leaves P may s w g s' (a.put d z) w' := by
      rintro A rfl hnp hnb hfr
      have hfo : (Builtin.firstCells i.size 0 (.slice A 0 0)).run P w.drew = .ok #[] w.drew := by
        cases A <;> simp [Builtin.firstCells, loadCells, loadCellsFrom]
      have hrun := append_run_grow (ty := ty) (n := 0) (c := 0) hu h2 hi hzv hlen (hf0 _ (Ext.drew w)) hfo (by omega) (by rw [Nat.zero_add]; exact hnb) (by omega)
      rw [Nat.zero_add] at hrun
      have hge := grownCap_ge w news.length 0 e
      have hnm : news.length ≤ maxLen := by
        have := grown_bound (n := 0) (m := news.length) (c := 0) (e := e) (by rw [Nat.zero_add]; exact hnb) (show 0 < i.bytes by omega)
        omega
      have hgm := grownCap_le_maxLen w news.length 0 e hnm
      refine ⟨_, _, hrun, ?_⟩
      refine fresh_sound (cur := flat us ++ (Builtin.zeroCells zv.cells (grownCap w news.length 0 e - news.length)).toList) (us := us) hs hm ((Ext.drew w).trans (Ext.alloc w.drew _)) hfr (by simp) ?_ hpos ?_ hgm hge hr ?_
      · rw [show (flat us ++ (Builtin.zeroCells zv.cells (grownCap w news.length 0 e - news.length)).toList).toArray = #[] ++ (flat us).toArray ++ Builtin.zeroCells zv.cells (grownCap w news.length 0 e - news.length) from by apply Array.ext'; simp]
        exact heap_alloc_new w.drew _
      · have := zeroCells_size hzc (grownCap w news.length 0 e - news.length)
        rw [hzl, ← hce] at this
        simp only [List.length_append, hl1, Array.length_toList, this, ← Nat.add_mul]
        congr 1; omega
      · rw [← hl1]; simp
    split at h
    ·
      have e1 := hx.inv_nils; subst e1
      split at h
      · simp only [Option.some.injEq] at h; subst h
        refine ⟨.slice none 0 0, w, ?_, Leaves.same (hs.put (HRep.of_rep .nils) d) (put_stores _ _ _)⟩
        have := append_run_room (A := none) (ty := ty) (n := 0) (c := 0) hu h2 hi hlen (hf0 w (Ext.refl w)) (by simp)
        simpa using this
      · split at h
        · rename_i hb
          exact fresh none rfl (by simp) hb h
        · cases h
    · obtain ⟨A, rfl⟩ := hx.inv_cap0
      split at h
      · simp only [Option.some.injEq] at h; subst h
        refine ⟨.slice A 0 0, w, ?_, Leaves.same (hs.put (HRep.of_rep .cap0) d) (put_stores _ _ _)⟩
        have := append_run_room (A := A) (ty := ty) (n := 0) (c := 0) hu h2 hi hlen (hf0 w (Ext.refl w)) (by simp)
        have hus : us = [] := List.eq_nil_of_length_eq_zero (by rw [hr.1]; rfl)
        subst hus
        cases A <;> simpa [flat, storeCells] using this
      · split at h
        · rename_i hb
          exact fresh A rfl (by simp) hb h
        · cases h
    ·
      rename_i i0 k e1 lo n tot
      split at h
      · rename_i e2 xs hg
        split at h
        · rename_i hcond
          obtain ⟨rfl, rfl, rfl, rfl, hxt, hb⟩ := hcond
          simp only [Option.some.injEq] at h; subst h
          obtain ⟨fz, xs', hg', ht, hq, _⟩ := hx.inv_arr
          rw [hg] at hg'
          simp only [Option.some.injEq, Ob.arr.injEq] at hg'
          obtain ⟨rfl, _, rfl⟩ := hg'
          obtain ⟨_, A, c, rfl, hnc, hcm, hA, hC⟩ := hq hxt
          have hA' := hA (.inl rfl)
          rw [Nat.zero_mul] at hA'
          subst hA'
          have hC' := hC rfl
          rw [Nat.zero_add] at hC'
          obtain ⟨hmay, hnM, _, cur, us0, cap, hh, hcl, hcc, hcapm, hxc, hr0, htk⟩ := hs.inv.arr i0 k _ xs hg
          have hl0 : (flat us0).length = xs.length * P.cellsOf e2 := hr0.len
          have hcap : c ≤ cap := by
            rw [hcc] at hC'
            exact Nat.le_of_mul_le_mul_right hC' hpos
          subst hxt
          by_cases hroom : xs.length + news.length ≤ c
          ·
            have hrun := append_run_room (A := some ⟨g.B i0 k, 0, none⟩) (ty := ty) (n := xs.length) (c := c) hu h2 hi hlen (hf0 w (Ext.refl w)) hroom
            have hfit : 0 + 0 + xs.length * P.cellsOf e2 + (flat us).length ≤ cur.length := by
              rw [hl1, hcl]
              have : (xs.length + news.length) * P.cellsOf e2 ≤ c * P.cellsOf e2 := Nat.mul_le_mul_right _ hroom
              rw [Nat.add_mul] at this
              omega
            have hst := run_storeCells_at P (g.B i0 k) (xs.length * P.cellsOf e2) e2 (flat us) 0 cur.toArray w hh (by simpa using hfit) hr.ones
            simp only [Addr.add_lit, Nat.zero_add, ← hce, hst, Result.andThen_ok, Nat.add_zero] at hrun
            refine ⟨_, _, hrun, ?_⟩
            refine leave_arr hs hm hg (b := g.B i0 k) (c0 := g.C i0 k) (Chg.setRow w _ _) (by simp) (.inl ⟨rfl, rfl⟩)
              ⟨cur.take (xs.length * P.cellsOf e2) ++ flat us ++ cur.drop (xs.length * P.cellsOf e2 + (flat us).length), us0 ++ us, cap, ?_, ?_, hcc, hcapm, by simp; omega, ?_, ?_⟩ ?_
            · have := setRow_heap w (g.B i0 k) cur.toArray (cur.take (xs.length * P.cellsOf e2) ++ flat us ++ cur.drop (xs.length * P.cellsOf e2 + (flat us).length)).toArray e2 (0, 0) hh
              simpa using this
            · rw [← hcl]; simp; omega
            · have hfr := (Chg.setRow w (g.B i0 k) (cur.take (xs.length * P.cellsOf e2) ++ flat us ++ cur.drop (xs.length * P.cellsOf e2 + (flat us).length)).toArray).fr hs.inv hm hmay hnM
              have h3 := (hr0.append hr).mono hfr.sub hfr.cell
              simpa using h3
            · rw [flat_append, htk]
              have e1 : (xs ++ news).length * P.cellsOf e2 = (flat us0 ++ flat us).length := by
                rw [List.length_append, List.length_append, hl0, hl1, Nat.add_mul]
              rw [e1, List.take_append_of_le_length (Nat.le_refl _), List.take_length]
            · refine ⟨false, xs ++ news, by rw [getOb_set]; simp [hg], by simp, fun _ => ⟨by simp, _, c, rfl, hroom, hcm, fun _ => by simp [Gh.at], fun _ => ?_⟩, rfl⟩
              simp only [Gh.at, and_self, if_true, Nat.zero_add]
              exact hC'
          ·
            have hfo : (Builtin.firstCells i.size xs.length (.slice (some ⟨g.B i0 k, 0, none⟩) xs.length c)).run P w.drew = .ok (flat us0).toArray w.drew := by
              refine run_firstCells_some (P := P) w.drew i.size xs.length ⟨g.B i0 k, 0, none⟩ xs.length c (flat us0) (by rw [hl0, hce]) fun j cv hj => ?_
              rw [Addr.add_lit, Nat.zero_add]
              show w.cell? _ = _
              rw [cell_of_row w (g.B i0 k) j cur.toArray e2 (0, 0) hh]
              rw [← htk, List.getElem?_take] at hj
              split at hj
              · simpa using hj
              · cases hj
            have hrun := append_run_grow (ty := ty) (n := xs.length) (c := c) hu h2 hi hzv hlen (hf0 _ (Ext.drew w)) hfo (by omega) hb (by omega)
            have hge := grownCap_ge w (xs.length + news.length) c e2
            have hnm := grown_bound (c := c) (e := e2) hb (show 0 < i.bytes by omega)
            have hgm := grownCap_le_maxLen w (xs.length + news.length) c e2 hnm
            have hext : Ext w (w.drew.alloc (.cells ((flat us0).toArray ++ (flat us).toArray ++ Builtin.zeroCells zv.cells (grownCap w (xs.length + news.length) c e2 - (xs.length + news.length))) e2)) := (Ext.drew w).trans (Ext.alloc w.drew _)
            refine ⟨_, _, hrun, ?_⟩
            refine leave_arr hs hm hg (b := w.heap.size) (c0 := grownCap w (xs.length + news.length) c e2 * P.cellsOf e2) (Chg.of_ext hext) (by simp) (.inr ⟨Nat.le_refl _, by simp; omega⟩)
              ⟨flat us0 ++ flat us ++ (Builtin.zeroCells zv.cells (grownCap w (xs.length + news.length) c e2 - (xs.length + news.length))).toList, us0 ++ us, grownCap w (xs.length + news.length) c e2, ?_, ?_, rfl, hgm, by simpa using hge, ?_, ?_⟩ ?_
            · rw [show (flat us0 ++ flat us ++ (Builtin.zeroCells zv.cells (grownCap w (xs.length + news.length) c e2 - (xs.length + news.length))).toList).toArray = (flat us0).toArray ++ (flat us).toArray ++ Builtin.zeroCells zv.cells (grownCap w (xs.length + news.length) c e2 - (xs.length + news.length)) from by apply Array.ext'; simp]
              exact heap_alloc_new w.drew _
            · have := zeroCells_size hzc (grownCap w (xs.length + news.length) c e2 - (xs.length + news.length))
              rw [hzl, ← hce] at this
              simp only [List.length_append, hl0, hl1, Array.length_toList, this, ← Nat.add_mul]
              congr 1; omega
            · have hfr := hext.fr hm hs.inv.mlt
              exact (hr0.append hr).mono hfr.sub hfr.cell
            · rw [flat_append]
              have e1 : (xs ++ news).length * P.cellsOf e2 = (flat us0 ++ flat us).length := by
                rw [List.length_append, List.length_append, hl0, hl1, Nat.add_mul]
              rw [e1, List.take_append_of_le_length (Nat.le_refl _), List.take_length]
            · refine ⟨false, xs ++ news, by rw [getOb_set]; simp [hg], by simp, fun _ => ⟨by simp, _, _, rfl, hge, hgm, fun _ => by simp [Gh.at], fun _ => ?_⟩, rfl⟩
              simp [Gh.at]
        · cases h
      · cases h
    · cases h
  · cases h
end
end Go.AbsM
end

section
namespace Go.AbsM
section
variable {P : Program} {w w' : World} {g : Gh} {may : Nat → Prop} {s : St} {a : Act}
theorem RepL.splice {M : Nat → Nat → Prop} {e : TypeId} {xs ys : List AV} {us vs : List Value} (h : RepL P w M e xs us) (k : RepL P w M e ys vs) (lo : Nat) :
    RepL P w M e (xs.take lo ++ (ys ++ xs.drop (lo + ys.length))) (us.take lo ++ (vs ++ us.drop (lo + vs.length))) := by
  refine (h.take lo).append (k.append ?_)
  rw [k.1]
  exact h.drop _
theorem lay_arr (hs : Sim P may s a w g) (hm : ∀ b, w.heap.size ≤ b → may b) {i k : Nat} {e : TypeId} {xs ys : List AV} {vs : List Value} {lo : Nat} (hg : getOb s.stores i k = some (.arr false e xs)) (hr : RepL P w g.M e ys vs) (hle : lo + ys.length ≤ xs.length)
    {d : Option Nat} {x : AV} {v : Value} (hx : ∀ w' g' S', HRep P w' g' S' x v) :
    ∃ w', (storeCells ⟨g.B i k, lo * P.cellsOf e, none⟩ (flat vs)).run P w = .ok () w' ∧
      Leaves P may s w g (St.put { s with stores := setOb s.stores i k (.arr false e (xs.take lo ++ (ys ++ xs.drop (lo + ys.length)))) } d x) (a.put d v) w' := by
  obtain ⟨hmay, hnM, hpos, cur, us0, cap, hh, hcl, hcc, hcapm, hxc, hr0, htk⟩ := hs.inv.arr i k _ xs hg
  have hl0 : (flat us0).length = xs.length * P.cellsOf e := hr0.len
  have hl1 : (flat vs).length = ys.length * P.cellsOf e := hr.len
  have hfit : lo * P.cellsOf e + (flat vs).length ≤ xs.length * P.cellsOf e := by
    rw [hl1, ← Nat.add_mul]; exact Nat.mul_le_mul_right _ hle
  have hxcap : xs.length * P.cellsOf e ≤ cur.length := by rw [hcl, hcc]; exact Nat.mul_le_mul_right _ hxc
  have hst := run_storeCells_at P (g.B i k) (lo * P.cellsOf e) e (flat vs) 0 cur.toArray w hh (by simp; omega) hr.ones
  simp only [Nat.add_zero] at hst
  refine ⟨_, hst, ?_⟩
  have hlen' : (xs.take lo ++ (ys ++ xs.drop (lo + ys.length))).length = xs.length := by simp; omega
  have hfr := (Chg.setRow w (g.B i k) (cur.take (lo * P.cellsOf e) ++ flat vs ++ cur.drop (lo * P.cellsOf e + (flat vs).length)).toArray).fr hs.inv hm hmay hnM
  refine leave_arr hs hm hg (b := g.B i k) (c0 := g.C i k) (Chg.setRow w _ _) (by rw [hlen']; exact Nat.le_refl _) (.inl ⟨rfl, rfl⟩)
    ⟨cur.take (lo * P.cellsOf e) ++ flat vs ++ cur.drop (lo * P.cellsOf e + (flat vs).length), us0.take lo ++ (vs ++ us0.drop (lo + vs.length)), cap, ?_, ?_, hcc, hcapm, by rw [hlen']; exact hxc, ?_, ?_⟩ (hx _ _ _)
  · have := setRow_heap w (g.B i k) cur.toArray (cur.take (lo * P.cellsOf e) ++ flat vs ++ cur.drop (lo * P.cellsOf e + (flat vs).length)).toArray e (0, 0) hh
    simpa using this
  · rw [← hcl]; simp; omega
  · have := (hr0.splice hr lo).mono hfr.sub hfr.cell
    simpa using this
  · rw [hlen', flat_append, flat_append, flat_take hr0.2.2, flat_drop hr0.2.2, ← htk, Nat.add_mul, hr.1, ← hl1]
    rw [List.take_take, Nat.min_eq_left (by omega)]
    rw [List.append_assoc, List.take_append]
    have e1 : (cur.take (lo * P.cellsOf e)).length = lo * P.cellsOf e := by simp; omega
    rw [List.take_of_length_le (by omega), e1, List.take_append]
    congr 1
    rw [List.take_of_length_le (by omega)]
    congr 1
    rw [List.drop_take]
    congr 1
    omega
theorem copy_zero {t ty e : TypeId} {A : Option Addr} {n c m sz : Nat} {v : Value} {rest : List TypeId} (hu : P.underlying t = some (.slice e)) (hsz : sizeT P e = some sz) (hl : (Builtin.lenOf v).run P w = .ok m w) (h0 : min m n = 0) (hf : (Builtin.firstCells sz 0 v).run P w = .ok #[] w) :
    (Builtin.copy_ (t :: rest).toArray ty #[.slice A n c, v]).run P w = .ok (.int .i64 0) w := by
  have : Nat.min m n = 0 := h0
  cases A <;> simp [Builtin.copy_, run_underlying hu, hl, sizeT_run hsz, this, hf, storeCells, goInt]
theorem copyA_sound (hs : Sim P may s a w g) (hm : ∀ b, w.heap.size ≤ b → may b) {s' : St} {d : Option Nat} {t ty : TypeId} {rest : List TypeId} {x y : AV} {u v : Value} (hx : HRep P w g s.stores x u) (hy : HRep P w g s.stores y v) (h : copyA P s d t x y = some s') :
    ∃ z w', (Builtin.copy_ (t :: rest).toArray ty #[u, v]).run P w = .ok z w' ∧ Leaves P may s w g s' (a.put d z) w' := by
  unfold copyA at h
  split at h
  · cases h
  rename_i e he
  have hu := elemT_some he
  split at h
  · rename_i sz ys hsz hsrc
    have hce := sizeT_cells hsz
    obtain ⟨us, hr, hlen, hfirst⟩ := hs.inv.src hy hsrc
    have hf : ∀ n, n ≤ ys.length → (Builtin.firstCells sz n v).run P w = .ok (flat (us.take n)).toArray w := by
      intro n hn
      have := hfirst n hn w (fun _ _ _ h => h)
      rw [hce] at this
      exact this
    have hf0 : (Builtin.firstCells sz 0 v).run P w = .ok #[] w := by simpa [flat] using hf 0 (by omega)
    split at h
    · rename_i i k e' lo n tot
      split at h
      · rename_i e2 xs hg
        split at h
        · rename_i hc
          obtain ⟨rfl, rfl, hxt, hln⟩ := hc
          simp only [Option.some.injEq] at h; subst h
          obtain ⟨fz, xs', hg', ht, hq, _⟩ := hx.inv_arr
          rw [hg] at hg'
          simp only [Option.some.injEq, Ob.arr.injEq] at hg'
          obtain ⟨rfl, _, rfl⟩ := hg'
          obtain ⟨_, A, c, rfl, hnc, hcm, hA, hC⟩ := hq hxt
          have hty : (ys.take (min ys.length n)).length = min ys.length n := by simp
          obtain ⟨w', hst, hlv⟩ := lay_arr hs hm (lo := lo) hg (hr.take (min ys.length n)) (by rw [hty]; omega) (d := d) (x := .int .i64 (min ys.length n : Nat)) (v := .int .i64 (min ys.length n : Nat)) (fun _ _ _ => HRep.mk_x rfl)
          rw [hty] at hlv
          refine ⟨_, w', ?_, hlv⟩
          have hmin : Nat.min ys.length n = min ys.length n := rfl
          by_cases h0 : min ys.length n = 0
          · have hz := copy_zero (ty := ty) (A := A) (c := c) (rest := rest) hu hsz hlen h0 hf0
            rw [h0] at hst ⊢
            simp [flat, storeCells] at hst
            rw [hz, hst]
            simp
          · rw [hA (.inr (by omega))]
            simp [Builtin.copy_, run_underlying hu, hlen, sizeT_run hsz, hmin, hf (min ys.length n) (Nat.min_le_left _ _), hst, goInt]
        · cases h
      · cases h
    · simp only [Option.some.injEq] at h; subst h
      have e1 := hx.inv_nils; subst e1
      exact ⟨_, w, copy_zero hu hsz hlen (by simp) hf0, Leaves.same (hs.put (HRep.mk_x rfl) d) (put_stores _ _ _)⟩
    · simp only [Option.some.injEq] at h; subst h
      obtain ⟨A, rfl⟩ := hx.inv_cap0
      exact ⟨_, w, copy_zero hu hsz hlen (by simp) hf0, Leaves.same (hs.put (HRep.mk_x rfl) d) (put_stores _ _ _)⟩
    · split at h
      · rename_i h0
        simp only [Option.some.injEq] at h; subst h
        obtain ⟨A, c, us', rfl, _⟩ := hx.inv_sl
        exact ⟨_, w, copy_zero hu hsz hlen h0 hf0, Leaves.same (hs.put (HRep.mk_x rfl) d) (put_stores _ _ _)⟩
      · cases h
    · cases h
  · cases h
theorem flat_replicate (zv : Value) (n : Nat) : flat (List.replicate n zv) = (List.replicate n zv.cells.toList).flatten := by
  simp [flat, List.flatMap_def]
theorem madeCells_flat {zv : Value} {es n : Nat} (h : zv.cells.size = es) (hes : 0 < es) : ((Array.range (n * es)).map (zv.cells[· % zv.cells.size]!)).toList = flat (List.replicate n zv) := by
  apply List.ext_getElem?
  intro k
  have e1 : flat (List.replicate n zv) = ((List.replicate n zv).flatMap fun v => v.cells.toList) := rfl
  rw [e1, Great.flat_get hes _ (fun v hv => by rw [List.eq_of_mem_replicate hv]; exact h)]
  simp only [Array.toList_map, Array.toList_range, List.getElem?_map, List.getElem?_range']
  by_cases hk : k < n * es
  · have hkd : k / es < n := (Nat.div_lt_iff_lt_mul hes).2 hk
    have hmod : k % es < zv.cells.size := by rw [h]; exact Nat.mod_lt _ hes
    rw [List.getElem?_range hk, List.getElem?_replicate, if_pos hkd, h]
    simp [hmod]
  · have hkd : ¬ k / es < n := by rw [Nat.div_lt_iff_lt_mul hes]; exact hk
    rw [List.getElem?_eq_none (by simp; omega), List.getElem?_replicate, if_neg hkd]
    rfl
theorem RepL.replicate {M : Nat → Nat → Prop} {e : TypeId} {z : AV} {zv : Value} (h : Rep P w M z zv) (hsz : zv.cells.size = P.cellsOf e) (n : Nat) : RepL P w M e (List.replicate n z) (List.replicate n zv) :=
  ⟨by simp, (fun i x u hx hu => by
    rw [List.getElem?_replicate] at hx hu
    split at hx
    · rename_i hi
      rw [if_pos hi] at hu
      simp only [Option.some.injEq] at hx hu
      subst hx; subst hu; exact h
    · cases hx), fun u hu => by rw [List.eq_of_mem_replicate hu]; exact hsz⟩
theorem makeA_sound (hs : Sim P may s a w g) (hm : ∀ b, w.heap.size ≤ b → may b) {s' : St} {d : Option Nat} {t : TypeId} {l c : Int} {kl kc : IntKind} (h : makeA P s d t l c = some s') :
    ∃ z w', (Instr.makeSlice t (.int kl l) (.int kc c)).run P w = .ok z w' ∧ Leaves P may s w g s' (a.put d z) w' := by
  unfold makeA at h
  split at h
  · cases h
  rename_i e he
  have hu := elemT_some he
  split at h
  · rename_i n by_ z hn hby hz
    split at h
    · rename_i hc
      obtain ⟨h0, hlc, hc63, hb, hnp, hzl, hzv⟩ := hc
      have hce := sizeT_cells hn
      obtain ⟨i, hi, rfl⟩ := Option.map_eq_some_iff.1 hn
      obtain ⟨i', hi', hbi⟩ := Option.map_eq_some_iff.1 hby
      rw [hi] at hi'; cases hi'; subst hbi
      obtain ⟨i', zv, hi', hzz, hzc⟩ := zeroT_some hz
      rw [hi] at hi'; cases hi'
      have hrep := constAV_rep (P := P) (w := w) hzc g.M
      have hzs : zv.cells.size = i.size := by
        have := (constAV_cells (P := P) (w := w) (g := g) (S := s.stores) hzc).1.1
        simp only [Array.length_toList] at this
        rw [this, hzl]
      have hrun := run_make (P := P) w t e i zv hu hi hzz kl kc l c h0 hlc hb hc63
      refine ⟨_, _, hrun, ?_⟩
      have hln : (List.replicate l.toNat z).length = l.toNat := List.length_replicate
      have := fresh_sound (cur := (madeCells zv.cells (c.toNat * i.size)).toList) (us := List.replicate l.toNat zv) (cap := c.toNat) (b := w.heap.size) hs hm (Ext.alloc w (.cells (madeCells zv.cells (c.toNat * i.size)) e)) h (Nat.le_refl _)
        (by simpa using heap_alloc_new w _) (by rw [hce]; exact hnp) (by simp [size_madeCells, hce]) (by simp only [maxLen]; omega) (by rw [hln]; omega) (RepL.replicate hrep (by rw [hce]; exact hzs) _)
        (by
          have e1 := madeCells_flat (n := c.toNat) hzs hnp
          rw [hln]
          unfold madeCells
          rw [e1, hce, ← flat_take (fun u hu => by rw [List.eq_of_mem_replicate hu]; exact hzs), List.take_replicate, Nat.min_eq_left (by omega)])
      rw [hln] at this
      exact this
    · cases h
  · cases h
theorem CellsRep.vals {S : List Store} {cs : List AV} {vs : List Value} (h : CellsRep P w g S cs vs) (hv : cs.all AV.isVal = true) : ∀ (i : Nat) (c : AV) (u : Value), cs[i]? = some c → vs[i]? = some u → Rep P w g.M c u := by
  intro i c u hc hu
  exact (h.2 i c u hc hu).1.rep (List.all_eq_true.1 hv c (List.mem_of_getElem? hc))
theorem chunksA_sound {S : List Store} {agg : Bool} {e : TypeId} {n : Nat} {cs : List AV} {vs : List Value} {xs : List AV} (hag : aggT P e = some agg) (hpos : 0 < P.cellsOf e) (hc : CellsRep P w g S cs vs) (hv : cs.all AV.isVal = true) (hl : cs.length = n * P.cellsOf e)
    (h : chunksA agg (P.cellsOf e) n cs = some xs) : xs.length = n ∧ ∃ us, RepL P w g.M e xs us ∧ flat us = vs := by
  induction n generalizing cs vs xs with
  | zero =>
    simp only [chunksA, Option.some.injEq] at h; subst h
    refine ⟨rfl, [], RepL.nil, ?_⟩
    have : vs.length = 0 := by rw [hc.1, hl]; simp
    rw [List.eq_nil_of_length_eq_zero this]; rfl
  | succ n ih =>
    simp only [chunksA] at h
    have hlen : P.cellsOf e ≤ cs.length := by rw [hl, Nat.add_mul]; omega
    split at h
    · rename_i r hr
      obtain ⟨hrl, us, hrr, hfl⟩ := ih (hc.drop _) (by rw [List.all_eq_true] at hv ⊢; exact fun c hc => hv c (List.mem_of_mem_drop hc)) (by rw [List.length_drop, hl, Nat.add_mul]; omega) hr
      split at h
      · simp only [Option.some.injEq] at h; subst h
        have ht := hc.take (P.cellsOf e)
        have htv : (cs.take (P.cellsOf e)).all AV.isVal = true := by rw [List.all_eq_true] at hv ⊢; exact fun c hc => hv c (List.mem_of_mem_take hc)
        have hlt : (vs.take (P.cellsOf e)).length = P.cellsOf e := by rw [List.length_take, hc.1]; omega
        refine ⟨by simp [hrl], .agg (vs.take (P.cellsOf e)).toArray :: us, ⟨by simp [hrr.1], fun i x u hx hu => ?_, fun u hu => ?_⟩, ?_⟩
        · cases i with
          | zero =>
            simp at hx hu; subst hx; subst hu
            have := Rep.agg (P := P) (w := w) (M := g.M) (cs := cs.take (P.cellsOf e)) (vs := vs.take (P.cellsOf e)) ht.1 (ht.vals htv) (fun c hc => List.all_eq_true.1 htv c hc)
            simpa using this
          | succ i => exact hrr.2.1 i x u (by simpa using hx) (by simpa using hu)
        · rcases List.mem_cons.1 hu with rfl | hu
          · simpa [Value.cells] using hlt
          · exact hrr.2.2 u hu
        · rw [flat_cons, hfl]
          simp [Value.cells]
      · split at h
        · rename_i hes
          split at h
          · rename_i c hcc
            simp only [Option.some.injEq] at h; subst h
            cases cs with
            | nil => simp at hcc
            | cons c0 cr =>
              simp at hcc; subst hcc
              cases vs with
              | nil => exact absurd hc.1 (by simp)
              | cons v0 vr =>
                have h0 := hc.2 0 c0 v0 rfl rfl
                have hr0 := h0.1.rep (List.all_eq_true.1 hv c0 (by simp))
                refine ⟨by simp [hrl], v0 :: us, ⟨by simp [hrr.1], fun i x u hx hu => ?_, fun u hu => ?_⟩, ?_⟩
                · cases i with
                  | zero => simp at hx hu; subst hx; subst hu; exact hr0
                  | succ i => exact hrr.2.1 i x u (by simpa using hx) (by simpa using hu)
                · rcases List.mem_cons.1 hu with rfl | hu
                  · rw [cells_of_one h0.2, hes]; rfl
                  · exact hrr.2.2 u hu
                · rw [flat_cons, hfl, hes, cells_of_one h0.2]; rfl
          · cases h
        · cases h
    · cases h
end
end Go.AbsM
end

section
namespace Go.AbsM
section
variable {P : Program} {w w' : World} {g : Gh} {may : Nat → Prop} {s : St} {a : Act}
def Settles (P : Program) (may : Nat → Prop) (s : St) (a : Act) (w : World) (g : Gh) (s' : St) (g' : Gh) : Prop :=
  Sim P may s' a w g' ∧ Fr may w g.M w g'.M ∧ Kp 0 s.stores g s'.stores g' ∧ s'.slots = s.slots
theorem Settles.refl (hs : Sim P may s a w g) : Settles P may s a w g s g := ⟨hs, Fr.refl _ _ _, Kp.refl _ _ _, rfl⟩
theorem Settles.trans {s1 s2 : St} {g1 g2 : Gh} (h : Settles P may s a w g s1 g1) (k : Settles P may s1 a w g1 s2 g2) : Settles P may s a w g s2 g2 :=
  ⟨k.1, h.2.1.trans k.2.1, h.2.2.1.trans k.2.2.1, k.2.2.2.trans h.2.2.2⟩
theorem Settles.hrep {S : List Store} {s' : St} {g' : Gh} (h : Settles P may s a w g s' g') {x : AV} {v : Value} (hx : HRep P w g s.stores x v) : HRep P w g' s'.stores x v := hx.keep h.2.1.sub h.2.1.cell h.2.2.1
theorem Settles.crep {s' : St} {g' : Gh} (h : Settles P may s a w g s' g') {x : AV} {v : Value} (hx : CRep P w g s.stores x v) : CRep P w g' s'.stores x v := hx.keep h.2.1.sub h.2.1.cell h.2.2.1 (AV.from_zero _)
theorem Settles.rep {s' : St} {g' : Gh} (h : Settles P may s a w g s' g') {x : AV} {v : Value} (hx : Rep P w g.M x v) : Rep P w g'.M x v := hx.mono h.2.1.sub h.2.1.cell
theorem setFz_sound (hs : Sim P may s a w g) {i k : Nat} {e : TypeId} {lo n tot : Nat} {v : Value} {xs : List AV} (hv : HRep P w g s.stores (.arr i k e lo n tot) v) (h : s.elems i k lo n tot = some xs) :
    ∃ g', Settles P may s a w g (s.setFz i k) g' ∧ Rep P w g'.M (.sl e xs) v := by
  obtain ⟨fz, ys, hg, ht, hq, _⟩ := hv.inv_arr
  have hl : ys.length = tot ∧ (ys.drop lo).take n = xs := by
    simp only [St.elems, hg] at h
    split at h
    · rename_i hl; simp only [Option.some.injEq] at h; exact ⟨hl, h⟩
    · cases h
  have key : ∃ g', Settles P may s a w g (s.setFz i k) g' ∧ ∃ fz', getOb (s.setFz i k).stores i k = some (.arr true e ys) ∧ fz' = true ∧ g'.B i k = g.B i k := by
    cases fz with
    | true =>
      have e1 : s.setFz i k = { s with stores := setOb s.stores i k (.arr true e ys) } := by simp [St.setFz, hg]
      have hk : Kp 0 s.stores g (setOb s.stores i k (.arr true e ys)) g := by
        have hget : ∀ i' k', getOb (setOb s.stores i k (.arr true e ys)) i' k' = getOb s.stores i' k' := by
          intro i' k'
          rw [getOb_set]
          split
          · rename_i hn; obtain ⟨rfl, rfl⟩ := hn; simp [hg]
          · rfl
        exact ⟨fun i' k' cs _ hh => ⟨⟨cs, by rw [hget]; exact hh⟩, rfl⟩, fun i' k' fz e' zs _ hh => ⟨fz, zs, by rw [hget]; exact hh, Nat.le_refl _, fun _ => ⟨rfl, fun hf => ⟨hf, rfl⟩⟩⟩⟩
      have hget : ∀ i' k', getOb (setOb s.stores i k (.arr true e ys)) i' k' = getOb s.stores i' k' := by
        intro i' k'
        rw [getOb_set]
        split
        · rename_i hn; obtain ⟨rfl, rfl⟩ := hn; simp [hg]
        · rfl
      have hinv : SInv P w g may (setOb s.stores i k (.arr true e ys)) := by
        refine ⟨fun i' k' cs hh => ?_, fun i' k' e' zs hh => ?_, fun i' k' e' zs hh => ?_, fun i1 k1 o1 i2 k2 o2 h1 h2 => ?_, hs.inv.mlt⟩
        · rw [hget] at hh
          obtain ⟨q1, q2, vs, t, q3, q4, q5⟩ := hs.inv.box i' k' cs hh
          exact ⟨q1, q2, vs, t, q3, q4, fun j c u hc hu => ⟨CRep.keep (g := g) (g' := g) (S := s.stores) (fun _ _ h => h) (fun _ _ _ => rfl) hk (AV.from_zero _) (q5 j c u hc hu).1, (q5 j c u hc hu).2⟩⟩
        · rw [hget] at hh; exact hs.inv.arr i' k' e' zs hh
        · rw [hget] at hh; exact hs.inv.fz i' k' e' zs hh
        · rw [hget] at h1 h2; exact hs.inv.inj i1 k1 o1 i2 k2 o2 h1 h2
      refine ⟨g, ?_, true, by rw [e1, getOb_set]; simp [hg], rfl, rfl⟩
      rw [e1]
      exact ⟨hs.keep (fun _ _ h => h) (fun _ _ _ => rfl) hk hinv (setOb_ne hs.ne _ _ _), Fr.refl _ _ _, hk, rfl⟩
    | false =>
      have e1 : s.setFz i k = { s with stores := setOb s.stores i k (.arr true e ys) } := by simp [St.setFz, hg]
      obtain ⟨h1, h2, h3⟩ := hs.inv.setFz hg
      refine ⟨g.fz (g.B i k) (ys.length * P.cellsOf e), ?_, true, by rw [e1, getOb_set]; simp [hg], rfl, rfl⟩
      rw [e1]
      exact ⟨hs.keep h3.sub h3.cell h2 h1 (setOb_ne hs.ne _ _ _), h3, h2, rfl⟩
  obtain ⟨g', hset, _, hg', _, hB⟩ := key
  refine ⟨g', hset, ?_⟩
  obtain ⟨hpos, us, hr, hcell⟩ := hset.1.inv.fz i k e ys hg'
  obtain ⟨hln, A, c, rfl, hnc, hcm, hA, hC⟩ := hq hl.1
  have hxl : xs.length = n := by rw [← hl.2]; simp; omega
  refine .sl (us := (us.drop lo).take n) hxl.symm ?_ (by omega) hcm hpos ?_ ?_ fun hne => ?_
  · rw [← hl.2]; simp [hr.1]
  · rw [← hl.2]; exact ((hr.drop lo).take n).2.1
  · exact ((hr.drop lo).take n).2.2
  · have hn0 : 0 < n := by
      rcases Nat.eq_zero_or_pos n with h0 | h0
      · exact absurd (List.eq_nil_of_length_eq_zero (by rw [hxl]; exact h0)) hne
      · exact h0
    refine ⟨g.B i k, lo * P.cellsOf e, hA (.inr hn0), fun j cv hj => ?_⟩
    rw [flat_take (fun u hu => hr.2.2 u (List.mem_of_mem_drop hu)), flat_drop hr.2.2, List.getElem?_take] at hj
    split at hj
    · rw [List.getElem?_drop] at hj
      have := hcell _ cv hj
      rw [hB] at this
      exact this
    · cases hj
theorem resolve1_sound (hs : Sim P may s a w g) {x y : AV} {v : Value} {s' : St} (hv : CRep P w g s.stores x v) (h : resolve1 s x = some (s', y)) : ∃ g', Settles P may s a w g s' g' ∧ Rep P w g'.M y v ∧ y.isVal = true := by
  cases x with
  | arr i k e lo n tot =>
    simp only [resolve1] at h
    split at h
    · rename_i xs hx
      simp only [Option.some.injEq, Prod.mk.injEq] at h
      obtain ⟨rfl, rfl⟩ := h
      obtain ⟨g', h1, h2⟩ := setFz_sound hs (HRep.of_cell hv) hx
      exact ⟨g', h1, h2, rfl⟩
    · cases h
  | x u =>
    simp only [resolve1, Option.some.injEq, Prod.mk.injEq] at h
    obtain ⟨rfl, rfl⟩ := h
    exact ⟨g, .refl hs, hv, rfl⟩
  | str l =>
    simp only [resolve1, Option.some.injEq, Prod.mk.injEq] at h
    obtain ⟨rfl, rfl⟩ := h
    exact ⟨g, .refl hs, hv, rfl⟩
  | nils =>
    simp only [resolve1, Option.some.injEq, Prod.mk.injEq] at h
    obtain ⟨rfl, rfl⟩ := h
    exact ⟨g, .refl hs, hv, rfl⟩
  | cap0 =>
    simp only [resolve1, Option.some.injEq, Prod.mk.injEq] at h
    obtain ⟨rfl, rfl⟩ := h
    exact ⟨g, .refl hs, hv, rfl⟩
  | sl e xs =>
    simp only [resolve1, Option.some.injEq, Prod.mk.injEq] at h
    obtain ⟨rfl, rfl⟩ := h
    exact ⟨g, .refl hs, hv, rfl⟩
  | _ => simp [resolve1] at h
theorem resolveL_sound (hs : Sim P may s a w g) {xs ys : List AV} {vs : List Value} {s' : St} (hv : CellsRep P w g s.stores xs vs) (h : resolveL s xs = some (s', ys)) :
    ∃ g', Settles P may s a w g s' g' ∧ vs.length = ys.length ∧ (∀ (i : Nat) (c : AV) (u : Value), ys[i]? = some c → vs[i]? = some u → Rep P w g'.M c u) ∧ ∀ c, c ∈ ys → c.isVal = true := by
  induction xs generalizing s g vs ys s' with
  | nil =>
    simp only [resolveL, Option.some.injEq, Prod.mk.injEq] at h
    obtain ⟨rfl, rfl⟩ := h
    exact ⟨g, .refl hs, hv.1, fun i c u hc => by simp at hc, fun c hc => by simp at hc⟩
  | cons x r ih =>
    simp only [resolveL] at h
    split at h
    · rename_i s1 b h1
      split at h
      · rename_i s2 l h2
        simp only [Option.some.injEq, Prod.mk.injEq] at h
        obtain ⟨rfl, rfl⟩ := h
        cases vs with
        | nil => exact absurd hv.1 (by simp)
        | cons v0 vr =>
          obtain ⟨g1, q1, q2, q3⟩ := resolve1_sound hs (hv.2 0 x v0 rfl rfl).1 h1
          have hv' : CellsRep P w g1 s1.stores r vr := ⟨by simpa using hv.1, fun i c u hc hu => ⟨q1.crep (hv.2 (i + 1) c u (by simpa using hc) (by simpa using hu)).1, (hv.2 (i + 1) c u (by simpa using hc) (by simpa using hu)).2⟩⟩
          obtain ⟨g2, p1, p2, p3, p4⟩ := ih q1.1 hv' h2
          refine ⟨g2, q1.trans p1, by simp [p2], fun i c u hc hu => ?_, fun c hc => ?_⟩
          · cases i with
            | zero => simp at hc hu; subst hc; subst hu; exact p1.rep q2
            | succ i => exact p3 i c u (by simpa using hc) (by simpa using hu)
          · rcases List.mem_cons.1 hc with rfl | hc
            · exact q3
            · exact p4 c hc
      · cases h
    · cases h
theorem resolve_sound (hs : Sim P may s a w g) {x y : AV} {v : Value} {s' : St} (hv : HRep P w g s.stores x v) (h : resolve s x = some (s', y)) : ∃ g', Settles P may s a w g s' g' ∧ Rep P w g'.M y v := by
  have one : CRep P w g s.stores x v → resolve1 s x = some (s', y) → ∃ g', Settles P may s a w g s' g' ∧ Rep P w g'.M y v := fun h1 h2 => by
    obtain ⟨g', q1, q2, _⟩ := resolve1_sound hs h1 h2
    exact ⟨g', q1, q2⟩
  cases x with
  | agg cs =>
    simp only [resolve] at h
    split at h
    · rename_i s1 l h1
      simp only [Option.some.injEq, Prod.mk.injEq] at h
      obtain ⟨rfl, rfl⟩ := h
      obtain ⟨vs, rfl, hcr⟩ := hv.inv_agg
      obtain ⟨g', q1, q2, q3, q4⟩ := resolveL_sound hs hcr h1
      exact ⟨g', q1, .agg q2 q3 q4⟩
    · cases h
  | tup => simp [resolve, resolve1] at h
  | _ =>
    unfold HRep HRep1 at hv
    exact one hv h
theorem resolveAll_sound (hs : Sim P may s a w g) {xs ys : List AV} {vs : List Value} {s' : St} (hl : vs.length = xs.length) (hv : ∀ (i : Nat) (c : AV) (u : Value), xs[i]? = some c → vs[i]? = some u → HRep P w g s.stores c u) (h : resolveAll s xs = some (s', ys)) :
    ∃ g', Settles P may s a w g s' g' ∧ vs.length = ys.length ∧ ∀ (i : Nat) (c : AV) (u : Value), ys[i]? = some c → vs[i]? = some u → Rep P w g'.M c u := by
  induction xs generalizing s g vs ys s' with
  | nil =>
    simp only [resolveAll, Option.some.injEq, Prod.mk.injEq] at h
    obtain ⟨rfl, rfl⟩ := h
    exact ⟨g, .refl hs, hl, fun i c u hc => by simp at hc⟩
  | cons x r ih =>
    simp only [resolveAll] at h
    split at h
    · rename_i s1 b h1
      split at h
      · rename_i s2 l h2
        simp only [Option.some.injEq, Prod.mk.injEq] at h
        obtain ⟨rfl, rfl⟩ := h
        cases vs with
        | nil => exact absurd hl (by simp)
        | cons v0 vr =>
          obtain ⟨g1, q1, q2⟩ := resolve_sound hs (hv 0 x v0 rfl rfl) h1
          obtain ⟨g2, p1, p2, p3⟩ := ih (vs := vr) q1.1 (by simpa using hl) (fun i c u hc hu => q1.hrep (S := s.stores) (hv (i + 1) c u (by simpa using hc) (by simpa using hu))) h2
          refine ⟨g2, q1.trans p1, by simp [p2], fun i c u hc hu => ?_⟩
          cases i with
          | zero => simp at hc hu; subst hc; subst hu; exact p1.rep q2
          | succ i => exact p3 i c u (by simpa using hc) (by simpa using hu)
      · cases h
    · cases h
theorem Settles.leaves {s1 s' : St} {g1 : Gh} {a' : Act} {w' : World} (h : Settles P may s a w g s1 g1) (k : Leaves P may s1 w g1 s' a' w') : Leaves P may s w g s' a' w' := by
  obtain ⟨g', q1, q2, q3⟩ := k
  exact ⟨g', q1, h.2.1.trans q2, (h.2.2.1.mono (by omega)).trans q3⟩
theorem zip_parts {l : List (Nat × AV)} {ys : List AV} {m : List (Nat × Value)} {S : List Store} (hl : m.length = l.length) (hn : ∀ (i : Nat) (x : Nat × AV) (y : Nat × Value), l[i]? = some x → m[i]? = some y → x.1 = y.1) (hy : (m.map (·.2)).length = ys.length)
    (hr : ∀ (i : Nat) (c : AV) (u : Value), ys[i]? = some c → (m.map (·.2))[i]? = some u → Rep P w g.M c u) : PartsRep P w g S ((l.map (·.1)).zip ys) m := by
  refine ⟨by simp at hy ⊢; omega, fun i x y hx hyy => ?_⟩
  have hm : i < m.length := (List.getElem?_eq_some_iff.1 hyy).1
  have hil : i < l.length := by omega
  have hiy : i < ys.length := by simp at hy; omega
  rw [List.getElem?_eq_getElem (by simp; omega)] at hx
  simp only [List.getElem_zip, List.getElem_map, Option.some.injEq] at hx
  subst hx
  have hme := (List.getElem?_eq_some_iff.1 hyy).2
  refine ⟨hn i l[i] y (by simp [hil]) hyy, ?_⟩
  exact HRep.of_rep (hr i ys[i] y.2 (by simp [hiy]) (by simp [hm, hme]))
theorem CellsRep.replicate {S : List Store} {cs : List AV} {vs : List Value} (h : CellsRep P w g S cs vs) (n : Nat) : CellsRep P w g S (List.replicate n cs).flatten (List.replicate n vs).flatten := by
  induction n with
  | zero => exact ⟨rfl, fun i c u hc => by simp at hc⟩
  | succ n ih => rw [List.replicate_succ, List.replicate_succ, List.flatten_cons, List.flatten_cons]; exact h.append ih
theorem fill_length {sz : Nat} {vs : List Value} {l : List (Nat × Value)} {r : Array Value} (h : Instr.fill (fun j => some (j * sz, sz)) vs.toArray l = some r) : r.size = vs.length := by
  induction l generalizing vs with
  | nil => simp [Instr.fill] at h; subst h; simp
  | cons x l ih =>
    obtain ⟨j, v⟩ := x
    simp only [Instr.fill] at h
    split at h
    · cases h
    · rename_i hh
      have hle : j * sz + v.cells.toList.length ≤ vs.length := by
        simp only [ne_eq, List.size_toArray, Bool.or_eq_true, decide_eq_true_eq, not_or, Decidable.not_not] at hh
        simp only [Array.length_toList]
        omega
      have e1 := foldl_lay (j * sz) v.cells.toList vs hle
      have hz' : v.cells.zipIdx.foldl (fun (cs : Array Value) (x : Value × Nat) => match x with | (c, k) => cs.setIfInBounds (j * sz + k) c) vs.toArray = (v.cells.toList.zipIdx).foldl (fun (cs : Array Value) (x : Value × Nat) => cs.setIfInBounds (j * sz + x.2) x.1) vs.toArray := by
        rw [← Array.foldl_toList]; simp
      rw [hz', e1] at h
      have := ih h
      rw [this]
      simp only [List.length_append, List.length_take, List.length_drop, Array.length_toList] at hle ⊢
      omega
theorem buildSliceA_sound (hs : Sim P may s a w g) (hm : ∀ b, w.heap.size ≤ b → may b) {s' : St} {d : Option Nat} {t : TypeId} {len : Nat} {l : List (Nat × AV)} {m : Array (Nat × Value)} (hl : PartsRep P w g s.stores l m.toList) (h : buildSliceA P s d t len l = some s') :
    ∃ z w', (Instr.buildSlice t len m).run P w = .ok z w' ∧ Leaves P may s w g s' (a.put d z) w' := by
  unfold buildSliceA at h
  split at h
  · rename_i e s1 ys he hres
    have hu := elemT_some he
    obtain ⟨g1, hset, hyl, hyr⟩ := resolveAll_sound hs (vs := m.toList.map (·.2)) (by simpa using hl.1) (fun i c u hc hu => by
      simp only [List.getElem?_map, Option.map_eq_some_iff] at hc hu
      obtain ⟨x, hx, rfl⟩ := hc
      obtain ⟨y, hy, rfl⟩ := hu
      exact (hl.2 i x y hx hy).2) hres
    split at h
    · rename_i n z hn hz
      split at h
      · cases h
      rename_i hno
      have hn0 : n ≠ 0 := fun e => hno (.inl e)
      have hsmall : ¬ len * n > 16777216 := fun e => hno (.inr (.inl e))
      have hzl : z.cells.length = n := Decidable.byContradiction fun e => hno (.inr (.inr e))
      have hce := sizeT_cells hn
      split at h
      · rename_i cs hf
        split at h
        · rename_i hval
          split at h
          · rename_i xs hch
            obtain ⟨agg, hag, hch⟩ := Option.bind_eq_some_iff.1 hch
            obtain ⟨i, hi, rfl⟩ := Option.map_eq_some_iff.1 hn
            obtain ⟨i', zv, hi', hzz, hzc⟩ := zeroT_some hz
            rw [hi] at hi'; cases hi'
            have hzs : zv.cells.size = i.size := by
              have := (constAV_cells (P := P) (w := w) (g := g1) (S := s1.stores) hzc).1.1
              simp only [Array.length_toList] at this
              rw [this, hzl]
            have hparts := zip_parts (g := g1) (S := s1.stores) hl.1 (fun i x y hx hy => (hl.2 i x y hx hy).1) hyl hyr
            have hbase : CellsRep P w g1 s1.stores ((List.replicate len z.cells).flatten) (flat (List.replicate len zv)) := by
              rw [flat_replicate]
              exact (constAV_cells (P := P) (w := w) (g := g1) (S := s1.stores) hzc).1.replicate len
            obtain ⟨us, hfill, hus⟩ := fillA_sound hparts hbase hf
            have hfl := madeCells_flat (n := len) hzs (by omega)
            have hszu : us.length = len * i.size := by
              have := fill_length hfill
              simp only [List.size_toArray] at this
              rw [this, flat_length (es := i.size) (fun u hu => by rw [List.eq_of_mem_replicate hu, hzs]), List.length_replicate]
            have hcsl : cs.length = len * P.cellsOf e := by rw [← hus.1, hszu, hce]
            rw [← hce] at hch
            obtain ⟨hxl, us2, hr2, hfl2⟩ := chunksA_sound hag (by rw [hce]; omega) hus hval hcsl hch
            have hrun : (Instr.buildSlice t len m).run P w = .ok (.slice (some ⟨w.heap.size, 0, none⟩) len len) (w.alloc (.cells us.toArray e)) := by
              by_cases h0 : len = 0
              · subst h0
                have hm0 : us = [] := List.eq_nil_of_length_eq_zero (by rw [hszu]; simp)
                subst hm0
                have hzero : flat (List.replicate 0 zv) = [] := rfl
                rw [hzero] at hfill
                simp [Instr.buildSlice, run_underlying hu, sizeOf, typeInfo, hi, newRow, Array.range_zero', hfill]
              · refine run_buildSlice w t e len m us.toArray i zv hu hi hzz (by simpa using hsmall) (Nat.mul_ne_zero h0 hn0) ?_
                have e2 : (Array.range (len * i.size)).map (zv.cells[· % zv.cells.size]!) = (flat (List.replicate len zv)).toArray := by
                  apply Array.ext'; rw [hfl]
                rw [e2]
                exact hfill
            refine ⟨_, _, hrun, ?_⟩
            have := fresh_sound (cur := us) (us := us2) (cap := len) (b := w.heap.size) hset.1 hm (Ext.alloc w (.cells us.toArray e)) h (Nat.le_refl _) (heap_alloc_new w _) (by rw [hce]; omega) (by rw [hszu, hce])
              (by simp only [maxLen]; have : len ≤ len * i.size := Nat.le_mul_of_pos_right _ (by omega); omega) (by omega) hr2 (by rw [hxl, hfl2, List.take_of_length_le (by rw [hszu, hce]; omega)])
            rw [hxl] at this
            exact hset.leaves this
          · cases h
        · cases h
      · cases h
    · cases h
  · cases h
end
end Go.AbsM
end

section
namespace Go.AbsM
theorem splice_elem {α : Type} (cur vals : List α) (N J es off : Nat) (h1 : J + es ≤ N) (h2 : N ≤ cur.length) (h3 : off + vals.length ≤ es) :
    (cur.take (J + off) ++ vals ++ cur.drop (J + off + vals.length)).take N = (cur.take N).take J ++ ((((cur.take N).drop J).take es).take off ++ (vals ++ (((cur.take N).drop J).take es).drop (off + vals.length)) ++ (cur.take N).drop (J + es)) := by
  apply List.ext_getElem?
  intro m
  have e0 : (cur.take N).length = N := by simp; omega
  have e1 : ((cur.take N).take J).length = J := by simp; omega
  have e2 : (((cur.take N).drop J).take es).length = es := by simp; omega
  have e3 : ((((cur.take N).drop J).take es).take off).length = off := by simp; omega
  have e4 : ((((cur.take N).drop J).take es).take off ++ (vals ++ (((cur.take N).drop J).take es).drop (off + vals.length))).length = es := by simp; omega
  by_cases hN : m < N
  · rw [List.getElem?_take, if_pos hN]
    by_cases hJ : m < J
    · rw [List.append_assoc, List.getElem?_append_left (by simp; omega), List.getElem?_append_left (by omega), List.getElem?_take, if_pos (by omega), List.getElem?_take, if_pos hJ, List.getElem?_take, if_pos hN]
    · rw [List.getElem?_append_right (l₁ := (cur.take N).take J) (by omega), e1]
      by_cases hE : m < J + es
      · rw [List.getElem?_append_left (l₁ := (((cur.take N).drop J).take es).take off ++ (vals ++ (((cur.take N).drop J).take es).drop (off + vals.length))) (by omega)]
        by_cases ho : m < J + off
        · rw [List.append_assoc, List.getElem?_append_left (by simp; omega), List.getElem?_take, if_pos ho, List.getElem?_append_left (by omega), List.getElem?_take, if_pos (by omega), List.getElem?_take, if_pos (by omega), List.getElem?_drop, List.getElem?_take, if_pos (by omega)]
          congr 1; omega
        · rw [List.append_assoc, List.getElem?_append_right (by simp; omega), List.getElem?_append_right (l₁ := (((cur.take N).drop J).take es).take off) (by omega), e3]
          have e5 : (cur.take (J + off)).length = J + off := by simp; omega
          rw [e5]
          by_cases hv : m < J + off + vals.length
          · rw [List.getElem?_append_left (by omega), List.getElem?_append_left (by omega)]
            congr 1; omega
          · rw [List.getElem?_append_right (by omega), List.getElem?_append_right (by omega), List.getElem?_drop, List.getElem?_drop, List.getElem?_take, if_pos (by omega), List.getElem?_drop, List.getElem?_take, if_pos (by omega)]
            congr 1; omega
      · rw [List.getElem?_append_right (l₁ := (((cur.take N).drop J).take es).take off ++ (vals ++ (((cur.take N).drop J).take es).drop (off + vals.length))) (by omega), e4]
        have e6 : (cur.take (J + off) ++ vals).length = J + off + vals.length := by simp; omega
        rw [List.getElem?_append_right (by omega), e6, List.getElem?_drop, List.getElem?_drop, List.getElem?_take, if_pos (by omega)]
        congr 1; omega
  · rw [List.getElem?_eq_none (by simp; omega), List.getElem?_eq_none (by simp; omega)]
section
variable {P : Program} {w w' : World} {g : Gh} {may : Nat → Prop} {s : St} {a : Act}
theorem zeroCells_flat {zv : Value} {n : Nat} (h : 0 < zv.cells.size) : (Builtin.zeroCells zv.cells n).toList = flat (List.replicate n zv) := by
  have := madeCells_flat (zv := zv) (es := zv.cells.size) (n := n) rfl h
  rw [← this]
  rfl
theorem clearA_sound (hs : Sim P may s a w g) (hm : ∀ b, w.heap.size ≤ b → may b) {s' : St} {d : Option Nat} {t ty : TypeId} {rest : List TypeId} {x : AV} {u : Value} (hx : HRep P w g s.stores x u) (h : clearA P s d t x = some s') :
    ∃ z w', (Builtin.clear_ (t :: rest).toArray ty #[u]).run P w = .ok z w' ∧ Leaves P may s w g s' (a.put d z) w' := by
  unfold clearA at h
  split at h
  · cases h
  rename_i e he
  have hu := elemT_some he
  split at h
  · simp only [Option.some.injEq] at h; subst h
    have e1 := hx.inv_nils; subst e1
    exact ⟨undef, w, by simp [Builtin.clear_, run_underlying hu, undef], Leaves.same (hs.put (x := .und) rfl d) (put_stores _ _ _)⟩
  · simp only [Option.some.injEq] at h; subst h
    obtain ⟨A, rfl⟩ := hx.inv_cap0
    exact ⟨undef, w, by cases A <;> simp [Builtin.clear_, run_underlying hu, undef], Leaves.same (hs.put (x := .und) rfl d) (put_stores _ _ _)⟩
  · rename_i i k e' lo n tot
    split at h
    · rename_i z es e2 xs hz hes hg
      split at h
      · rename_i hc
        obtain ⟨rfl, rfl, hxt, hln, hzl, hn⟩ := hc
        simp only [Option.some.injEq] at h; subst h
        obtain ⟨fz, xs', hg', ht, hq, _⟩ := hx.inv_arr
        rw [hg] at hg'
        simp only [Option.some.injEq, Ob.arr.injEq] at hg'
        obtain ⟨rfl, _, rfl⟩ := hg'
        obtain ⟨_, A, c, rfl, hnc, hcm, hA, hC⟩ := hq hxt
        have hpos := (hs.inv.arr i k _ xs hg).2.2.1
        obtain ⟨it, zv, hit, hzz, hzc⟩ := zeroT_some hz
        have hce := sizeT_cells hes
        have hzs : zv.cells.size = P.cellsOf e2 := by
          have := (constAV_cells (P := P) (w := w) (g := g) (S := s.stores) hzc).1.1
          simp only [Array.length_toList] at this
          rw [this, hzl, hce]
        have hr := RepL.replicate (P := P) (w := w) (M := g.M) (e := e2) (constAV_rep hzc g.M) hzs n
        obtain ⟨w', hst, hlv⟩ := lay_arr hs hm (lo := lo) hg hr (by simp; omega) (d := d) (x := .und) (v := undef) (fun _ _ _ => rfl)
        simp only [List.length_replicate] at hlv
        refine ⟨undef, w', ?_, hlv⟩
        rw [hA (.inr hn)]
        have hzr : (zeroValue e2).run P w = .ok zv w := by simp [zeroValue, typeInfo, hit, hzz]
        have hzf := zeroCells_flat (zv := zv) (n := n) (by rw [hzs]; exact hpos)
        obtain ⟨n', rfl⟩ : ∃ n', n = n' + 1 := ⟨n - 1, by omega⟩
        simp [Builtin.clear_, run_underlying hu, hzr, hzf, hst, undef]
      · cases h
    · cases h
  · cases h
theorem leave_box (hs : Sim P may s a w g) (hm : ∀ b, w.heap.size ≤ b → may b) {i k off : Nat} {cs ds es : List AV} {us : List Value} (hg : getOb s.stores i k = some (.box cs)) (hl : layA cs off ds = some es)
    (hd : us.length = ds.length) (hr : ∀ (j : Nat) (c : AV) (u : Value), ds[j]? = some c → us[j]? = some u → CRep P w g s.stores (c.shift i) u ∧ u.oneCell' = true) (d : Option Nat) :
    ∃ w', (storeCells ⟨g.B i k, off, none⟩ us).run P w = .ok () w' ∧ Leaves P may s w g (St.put { s with stores := setOb s.stores i k (.box es) } d .und) (a.put d undef) w' := by
  obtain ⟨hmay, hnM, vs, t, hh, hvl, hvr⟩ := hs.inv.box i k cs hg
  unfold layA at hl
  split at hl
  · rename_i hle
    simp only [Option.some.injEq] at hl; subst hl
    have hone : ∀ v, v ∈ us → v.oneCell' = true := by
      intro v hv
      obtain ⟨j, hj, rfl⟩ := List.getElem_of_mem hv
      exact (hr j ds[j] us[j] (by simp [← hd, hj]) (by simp [hj])).2
    have hst := run_storeCells_at P (g.B i k) off t us 0 vs.toArray w hh (by simp; omega) hone
    simp only [Nat.add_zero] at hst
    refine ⟨_, hst, ?_⟩
    obtain ⟨h1, h2, h3⟩ := hs.inv.setBox (ds := cs.take off ++ (ds ++ cs.drop (off + ds.length))) hm hg (Chg.setRow w (g.B i k) (vs.take off ++ us ++ vs.drop (off + us.length)).toArray)
      ⟨vs.take off ++ us ++ vs.drop (off + us.length), t, by simpa using setRow_heap w (g.B i k) vs.toArray (vs.take off ++ us ++ vs.drop (off + us.length)).toArray t (0, 0) hh, by simp [hvl, hd], fun j c u hc hu => by
        rw [List.append_assoc] at hu
        by_cases hj1 : j < off
        · rw [List.getElem?_append_left (by simp; omega), List.getElem?_take, if_pos hj1] at hc hu
          exact hvr j c u hc hu
        · rw [List.getElem?_append_right (by simp; omega)] at hc hu
          have e1 : (cs.take off).length = off := by simp; omega
          have e2 : (vs.take off).length = off := by simp; omega
          rw [e1] at hc; rw [e2] at hu
          by_cases hj2 : j - off < ds.length
          · rw [List.getElem?_append_left hj2] at hc
            rw [List.getElem?_append_left (by omega)] at hu
            exact hr _ c u hc hu
          · rw [List.getElem?_append_right (by omega), List.getElem?_drop] at hc
            rw [List.getElem?_append_right (by omega), List.getElem?_drop, hd] at hu
            exact hvr _ c u hc hu⟩
    have e3 : (w.setRow (g.B i k) (vs.take off ++ us ++ vs.drop (off + us.length)).toArray) = w.setRow (g.B i k) ((vs.toArray.toList.take off ++ us ++ vs.toArray.toList.drop (off + us.length)).toArray) := by simp
    rw [← e3]
    have hsim := hs.keep h3.sub h3.cell h2 h1 (setOb_ne hs.ne _ _ _)
    refine ⟨g, hsim.put (x := .und) rfl d, h3, ?_⟩
    rw [put_stores]
    exact h2.mono (by omega)
  · cases hl
theorem storeVar_run {t : TypeId} {n : Nat} {ad : Addr} {v : Value} (hn : sizeT P t = some n) (hv : v.cells.size = n) : (storeVar t ad v).run P w = (storeCells ad v.cells.toList).run P w := by
  simp [storeVar, sizeT_run hn, hv]
theorem sinkCell_sound (hs : Sim P may s a w g) {i : Nat} {x y : AV} {v : Value} {s' : St} (hv : CRep P w g s.stores x v) (hx : x.isCell = true) (h : sinkCell s i x = some (s', y)) :
    ∃ g', Settles P may s a w g s' g' ∧ CRep P w g' s'.stores (y.shift (i + 1)) v := by
  have val : ∀ {y : AV} {s' : St}, resolve1 s x = some (s', y) → ∃ g', Settles P may s a w g s' g' ∧ CRep P w g' s'.stores (y.shift (i + 1)) v := by
    intro y s' h
    obtain ⟨g', q1, q2, q3⟩ := resolve1_sound hs hv h
    refine ⟨g', q1, ?_⟩
    have : y.shift (i + 1) = y := by cases y <;> first | rfl | simp [AV.isVal] at q3
    rw [this]
    exact CRep.of_rep q2 q3
  cases x with
  | arr j k e lo n tot =>
    simp only [sinkCell] at h
    split at h
    · rename_i hj
      simp only [Option.some.injEq, Prod.mk.injEq] at h
      obtain ⟨rfl, rfl⟩ := h
      refine ⟨g, .refl hs, ?_⟩
      simp only [AV.shift]
      rw [Nat.sub_add_cancel hj]
      exact hv
    · exact val h
  | ref j k off =>
    simp only [sinkCell] at h
    split at h
    · rename_i hj
      simp only [Option.some.injEq, Prod.mk.injEq] at h
      obtain ⟨rfl, rfl⟩ := h
      refine ⟨g, .refl hs, ?_⟩
      simp only [AV.shift]
      rw [Nat.sub_add_cancel hj]
      exact hv
    · cases h
  | _ => first | exact val h | (simp [AV.isCell] at hx)
theorem sinkCells_sound (hs : Sim P may s a w g) {i : Nat} {xs ys : List AV} {vs : List Value} {s' : St} (hv : CellsRep P w g s.stores xs vs) (hx : xs.all AV.isCell = true) (h : sinkCells s i xs = some (s', ys)) :
    ∃ g', Settles P may s a w g s' g' ∧ vs.length = ys.length ∧ ∀ (j : Nat) (c : AV) (u : Value), ys[j]? = some c → vs[j]? = some u → CRep P w g' s'.stores (c.shift (i + 1)) u ∧ u.oneCell' = true := by
  induction xs generalizing s g vs ys s' with
  | nil =>
    simp only [sinkCells, Option.some.injEq, Prod.mk.injEq] at h
    obtain ⟨rfl, rfl⟩ := h
    exact ⟨g, .refl hs, hv.1, fun i c u hc => by simp at hc⟩
  | cons x r ih =>
    simp only [sinkCells] at h
    simp only [List.all_cons, Bool.and_eq_true] at hx
    split at h
    · rename_i s1 b h1
      split at h
      · rename_i s2 l h2
        simp only [Option.some.injEq, Prod.mk.injEq] at h
        obtain ⟨rfl, rfl⟩ := h
        cases vs with
        | nil => exact absurd hv.1 (by simp)
        | cons v0 vr =>
          obtain ⟨g1, q1, q2⟩ := sinkCell_sound hs (hv.2 0 x v0 rfl rfl).1 hx.1 h1
          have hv' : CellsRep P w g1 s1.stores r vr := ⟨by simpa using hv.1, fun i c u hc hu => ⟨q1.crep (hv.2 (i + 1) c u (by simpa using hc) (by simpa using hu)).1, (hv.2 (i + 1) c u (by simpa using hc) (by simpa using hu)).2⟩⟩
          obtain ⟨g2, p1, p2, p3⟩ := ih q1.1 hv' hx.2 h2
          refine ⟨g2, q1.trans p1, by simp [p2], fun j c u hc hu => ?_⟩
          cases j with
          | zero => simp at hc hu; subst hc; subst hu; exact ⟨p1.crep q2, (hv.2 0 x v0 rfl rfl).2⟩
          | succ j => exact p3 j c u (by simpa using hc) (by simpa using hu)
      · cases h
    · cases h
theorem flat_set {es : Nat} {us : List Value} (h : ∀ u, u ∈ us → u.cells.size = es) {j : Nat} {u' : Value} (hj : j < us.length) : flat (us.set j u') = (flat us).take (j * es) ++ (u'.cells.toList ++ (flat us).drop ((j + 1) * es)) := by
  have e1 : us.set j u' = us.take j ++ (u' :: us.drop (j + 1)) := by rw [List.set_eq_take_append_cons_drop, if_pos hj]
  rw [e1, flat_append, flat_cons, flat_take h, flat_drop h]
theorem lay_elem (hs : Sim P may s a w g) (hm : ∀ b, w.heap.size ≤ b → may b) {i k : Nat} {e : TypeId} {xs : List AV} {y y' : AV} {ds : List AV} {vals : List Value} {j off : Nat} (hg : getOb s.stores i k = some (.arr false e xs)) (hy : xs[j]? = some y)
    (hvl : vals.length = ds.length) (hvr : ∀ (m : Nat) (c : AV) (u : Value), ds[m]? = some c → vals[m]? = some u → Rep P w g.M c u) (hdv : ∀ c, c ∈ ds → c.isVal = true) {es : List AV} (hl : layA y.cells off ds = some es)
    (hy' : (aggT P e = some true ∧ y' = .agg es) ∨ es = [y']) (d : Option Nat) :
    ∃ w', (storeCells ⟨g.B i k, j * P.cellsOf e + off, none⟩ vals).run P w = .ok () w' ∧ Leaves P may s w g (St.put { s with stores := setOb s.stores i k (.arr false e (xs.set j y')) } d .und) (a.put d undef) w' := by
  obtain ⟨hmay, hnM, hpos, cur, us0, cap, hh, hcl, hcc, hcapm, hxc, hr0, htk⟩ := hs.inv.arr i k _ xs hg
  have hjx : j < xs.length := (List.getElem?_eq_some_iff.1 hy).1
  have hju : j < us0.length := by rw [hr0.1]; exact hjx
  have hus : us0[j]? = some us0[j] := List.getElem?_eq_getElem hju
  have hry := hr0.2.1 j y _ hy hus
  obtain ⟨hp1, hp2, hp3⟩ := hry.parts
  have hsz : us0[j].cells.size = P.cellsOf e := hr0.2.2 _ (List.getElem_mem hju)
  have hyl : y.cells.length = P.cellsOf e := by rw [← hp1]; simpa using hsz
  have hones : ∀ v, v ∈ vals → v.oneCell' = true := by
    intro v hv
    obtain ⟨m, hm', rfl⟩ := List.getElem_of_mem hv
    have hmd : m < ds.length := by omega
    exact (hvr m ds[m] vals[m] (by simp [hmd]) (by simp [hm'])).oneCell (hdv _ (List.getElem_mem hmd))
  unfold layA at hl
  split at hl
  · rename_i hle
    simp only [Option.some.injEq] at hl
    have hl0 : (flat us0).length = xs.length * P.cellsOf e := hr0.len
    have hxcap : xs.length * P.cellsOf e ≤ cur.length := by rw [hcl, hcc]; exact Nat.mul_le_mul_right _ hxc
    have hj1 : (j + 1) * P.cellsOf e ≤ xs.length * P.cellsOf e := Nat.mul_le_mul_right _ hjx
    have hj2 : (j + 1) * P.cellsOf e = j * P.cellsOf e + P.cellsOf e := by rw [Nat.add_mul]; omega
    have hst := run_storeCells_at P (g.B i k) (j * P.cellsOf e + off) e vals 0 cur.toArray w hh (by simp; omega) hones
    simp only [Nat.add_zero] at hst
    refine ⟨_, hst, ?_⟩
    have hel : es.length = P.cellsOf e := by rw [← hl]; simp; omega
    have hcells : ∀ (m : Nat) (c : AV) (u : Value), es[m]? = some c → (us0[j].cells.toList.take off ++ (vals ++ us0[j].cells.toList.drop (off + vals.length)))[m]? = some u → Rep P w g.M c u ∧ c.isVal = true := by
      intro m c u hc hu
      rw [← hl] at hc
      have e1 : (y.cells.take off).length = off := by simp; omega
      have e2 : (us0[j].cells.toList.take off).length = off := by simp; omega
      by_cases hm1 : m < off
      · rw [List.getElem?_append_left (by omega), List.getElem?_take, if_pos hm1] at hc hu
        exact ⟨hp2 m c u hc hu, hp3 c (List.mem_of_getElem? hc)⟩
      · rw [List.getElem?_append_right (by omega)] at hc hu
        rw [e1] at hc; rw [e2] at hu
        by_cases hm2 : m - off < ds.length
        · rw [List.getElem?_append_left hm2] at hc
          rw [List.getElem?_append_left (by omega)] at hu
          exact ⟨hvr _ c u hc hu, hdv c (List.mem_of_getElem? hc)⟩
        · rw [List.getElem?_append_right (by omega), List.getElem?_drop] at hc
          rw [List.getElem?_append_right (by omega), List.getElem?_drop, hvl] at hu
          exact ⟨hp2 _ c u hc hu, hp3 c (List.mem_of_getElem? hc)⟩
    have hnl : (us0[j].cells.toList.take off ++ (vals ++ us0[j].cells.toList.drop (off + vals.length))).length = P.cellsOf e := by simp; omega
    have hu' : ∃ u' : Value, Rep P w g.M y' u' ∧ u'.cells.toList = us0[j].cells.toList.take off ++ (vals ++ us0[j].cells.toList.drop (off + vals.length)) := by
      generalize us0[j].cells.toList.take off ++ (vals ++ us0[j].cells.toList.drop (off + vals.length)) = nv at hcells hnl
      rcases hy' with ⟨_, rfl⟩ | he1
      · refine ⟨.agg nv.toArray, .agg (by omega) (fun m c u hc hu => (hcells m c u hc hu).1) fun c hc => ?_, by simp [Value.cells]⟩
        obtain ⟨m, hm', rfl⟩ := List.getElem_of_mem hc
        exact (hcells m es[m] (nv[m]'(by omega)) (by simp [hm']) (by simp)).2
      · rw [he1] at hel
        simp at hel
        match nv, hnl with
        | [u], _ =>
          have h0 := hcells 0 y' u (by rw [he1]; rfl) rfl
          exact ⟨u, h0.1, by rw [cells_of_one (h0.1.oneCell h0.2)]⟩
        | [], hh => simp at hh; omega
        | _ :: _ :: _, hh => simp at hh; omega
    obtain ⟨u', hru, huc⟩ := hu'
    have hfr := (Chg.setRow w (g.B i k) (cur.take (j * P.cellsOf e + off) ++ vals ++ cur.drop (j * P.cellsOf e + off + vals.length)).toArray).fr hs.inv hm hmay hnM
    have hrset : RepL P w g.M e (xs.set j y') (us0.set j u') := by
      refine ⟨by simp [hr0.1], fun m x u hx hu => ?_, fun u hu => ?_⟩
      · by_cases hmj : j = m
        · subst hmj
          rw [List.getElem?_set_self hjx] at hx
          rw [List.getElem?_set_self hju] at hu
          simp only [Option.some.injEq] at hx hu
          subst hx; subst hu; exact hru
        · rw [List.getElem?_set_ne hmj] at hx hu
          exact hr0.2.1 m x u hx hu
      · rcases List.mem_or_eq_of_mem_set hu with hu | rfl
        · exact hr0.2.2 u hu
        · have : u.cells.toList.length = P.cellsOf e := by rw [huc]; exact hnl
          simpa using this
    refine leave_arr hs hm hg (b := g.B i k) (c0 := g.C i k) (Chg.setRow w _ _) (by simp) (.inl ⟨rfl, rfl⟩)
      ⟨cur.take (j * P.cellsOf e + off) ++ vals ++ cur.drop (j * P.cellsOf e + off + vals.length), us0.set j u', cap, ?_, ?_, hcc, hcapm, by simpa using hxc, ?_, ?_⟩ rfl
    · have := setRow_heap w (g.B i k) cur.toArray (cur.take (j * P.cellsOf e + off) ++ vals ++ cur.drop (j * P.cellsOf e + off + vals.length)).toArray e (0, 0) hh
      simpa using this
    · rw [← hcl]; simp; omega
    · have := hrset.mono hfr.sub hfr.cell
      simpa using this
    · rw [flat_set hr0.2.2 hju, huc, List.length_set, ← htk]
      have hfj : us0[j].cells.toList = ((flat us0).drop (j * P.cellsOf e)).take (P.cellsOf e) := by
        rw [← flat_drop hr0.2.2, List.drop_eq_getElem_cons hju, flat_cons, List.take_append_of_le_length (by simp [hsz]), List.take_of_length_le (by simp [hsz])]
      rw [hfj, ← htk, hj2]
      exact splice_elem cur vals _ _ _ off (by omega) hxcap (by omega)
  · cases hl
theorem storeA_sound (hs : Sim P may s a w g) (hm : ∀ b, w.heap.size ≤ b → may b) {s' : St} {d : Option Nat} {t : TypeId} {p x : AV} {u v : Value} (hp : HRep P w g s.stores p u) (hv : HRep P w g s.stores x v) (h : storeA P s d t p x = some s') :
    ∃ w', (Instr.storeAt t u v).run P w = .ok () w' ∧ Leaves P may s w g s' (a.put d undef) w' := by
  unfold storeA at h
  split at h
  · cases h
  rename_i n hn
  split at h
  · rename_i hc
    have hcr := hv.cellsRep hc.2
    have hvs : v.cells.size = n := by
      have := hcr.1
      simp only [Array.length_toList] at this
      rw [this, hc.1]
    have hrun : ∀ ad w', (storeCells ad v.cells.toList).run P w = .ok () w' → u = .pointer (some ad) → (Instr.storeAt t u v).run P w = .ok () w' := by
      rintro ad w' hst rfl
      simp [Instr.storeAt, Instr.sureAddr, storeVar_run hn hvs, hst]
    split at h
    · rename_i k off
      split at h
      · rename_i cs hg
        split at h
        · rename_i ds hl
          simp only [Option.some.injEq] at h; subst h
          obtain ⟨_, rfl⟩ := hp.inv_ref
          obtain ⟨w', hst, hlv⟩ := leave_box hs hm hg hl hcr.1 (fun j c u hc hu => by rw [AV.shift_zero]; exact hcr.2 j c u hc hu) d
          exact ⟨w', hrun _ w' hst rfl, hlv⟩
        · cases h
      · cases h
    · rename_i i k off
      split at h
      · rename_i s1 vs hsk
        split at h
        · rename_i cs hg
          split at h
          · rename_i ds hl
            simp only [Option.some.injEq] at h; subst h
            obtain ⟨g1, q1, q2, q3⟩ := sinkCells_sound hs hcr hc.2 hsk
            obtain ⟨⟨cs0, hg0⟩, rfl⟩ := hp.inv_ref
            have hB : g1.B (i + 1) k = g.B (i + 1) k := (q1.2.2.1.box (i + 1) k cs0 (.inl (Nat.zero_le _)) hg0).2
            obtain ⟨w', hst, hlv⟩ := leave_box q1.1 hm hg hl q2 q3 d
            rw [hB] at hst
            exact ⟨w', hrun _ w' hst rfl, q1.leaves hlv⟩
          · cases h
        · cases h
      · cases h
    · rename_i i k e tot j off
      split at h
      · rename_i s1 vs hrs
        split at h
        · rename_i e' xs hg
          split at h
          · rename_i hcond
            obtain ⟨hxt, rfl⟩ := hcond
            obtain ⟨g1, q1, q2, q3, q4⟩ := resolveL_sound hs hcr hrs
            obtain ⟨fz, xs0, hg0, ht, hq⟩ := (q1.hrep (S := s.stores) hp)
            rw [hg] at hg0
            simp only [Option.some.injEq, Ob.arr.injEq] at hg0
            obtain ⟨rfl, _, rfl⟩ := hg0
            obtain ⟨hj, rfl⟩ := hq hxt
            split at h
            · rename_i y hy
              split at h
              · rename_i ds hl ha
                simp only [Option.some.injEq] at h; subst h
                obtain ⟨w', hst, hlv⟩ := lay_elem q1.1 hm hg hy q2 q3 q4 hl (.inl ⟨ha, rfl⟩) d
                exact ⟨w', hrun _ w' hst rfl, q1.leaves hlv⟩
              · rename_i c hl ha
                simp only [Option.some.injEq] at h; subst h
                obtain ⟨w', hst, hlv⟩ := lay_elem q1.1 hm hg hy q2 q3 q4 hl (.inr rfl) d
                exact ⟨w', hrun _ w' hst rfl, q1.leaves hlv⟩
              · cases h
            · cases h
          · cases h
        · cases h
      · cases h
    · cases h
  · cases h
theorem Leaves.put_rep {w' : World} (hs : Sim P may s a w g) (hm : ∀ b, w.heap.size ≤ b → may b) (hx : Ext w w') {M' : Nat → Nat → Prop} (hM : ∀ b o, g.M b o → M' b o) (hMn : ∀ b o, M' b o → ¬ g.M b o → w.heap.size ≤ b ∧ b < w'.heap.size) {x : AV} {v : Value} (hr : Rep P w' M' x v) (d : Option Nat) :
    Leaves P may s w g (s.put d x) (a.put d v) w' := by
  have hcell : ∀ b o, g.M b o → w'.cell? ⟨b, o, none⟩ = w.cell? ⟨b, o, none⟩ := fun b o h => hx.cell (hs.inv.mlt b o h) o
  let g' : Gh := { g with M := M' }
  have hkp : Kp 0 s.stores g s.stores g' := ⟨fun i k cs _ h => ⟨⟨cs, h⟩, rfl⟩, fun i k fz e xs _ h => ⟨fz, xs, h, Nat.le_refl _, fun _ => ⟨rfl, fun hf => ⟨hf, rfl⟩⟩⟩⟩
  have hnew : ∀ b o, b < w.heap.size → M' b o → g.M b o := fun b o hb h => Classical.byContradiction fun hn => by have := (hMn b o h hn).1; omega
  have hinv : SInv P w' g' may s.stores := by
    refine ⟨fun i k cs h => ?_, fun i k e xs h => ?_, fun i k e xs h => ?_, fun i k o i' k' o' h h' => hs.inv.inj i k o i' k' o' h h', fun b o h => ?_⟩
    · obtain ⟨h1, h2, vs, t, h3, h4, h5⟩ := hs.inv.box i k cs h
      exact ⟨h1, fun o ho => h2 o (hnew _ o (lt_of_heap h3) ho), vs, t, by rw [hx.heap _ (lt_of_heap h3)]; exact h3, h4, fun j c u hc hu => ⟨CRep.keep (g := g) (g' := g') (S := s.stores) hM hcell hkp (AV.from_zero _) (h5 j c u hc hu).1, (h5 j c u hc hu).2⟩⟩
    · obtain ⟨h1, h2, he, cur, us, cap, h3, h4, h5, h6, h7, h8, h9⟩ := hs.inv.arr i k e xs h
      exact ⟨h1, fun o ho => h2 o (hnew _ o (lt_of_heap h3) ho), he, cur, us, cap, by rw [hx.heap _ (lt_of_heap h3)]; exact h3, h4, h5, h6, h7, h8.mono hM hcell, h9⟩
    · obtain ⟨he, us, hr, hc⟩ := hs.inv.fz i k e xs h
      exact ⟨he, us, hr.mono hM hcell, fun m cv hm => ⟨(hcell _ _ (hc m cv hm).2).trans (hc m cv hm).1, hM _ _ (hc m cv hm).2⟩⟩
    · by_cases hg : g.M b o
      · exact Nat.lt_of_lt_of_le (hs.inv.mlt b o hg) hx.size
      · exact (hMn b o h hg).2
  have hsim : Sim P may s a w' g' := hs.keep hM hcell hkp hinv hs.ne
  refine ⟨g', hsim.put (HRep.of_rep hr) d, ⟨hx.os, hx.tape, hx.output, hx.size, fun b hb => hx.heap b (Nat.lt_of_not_le fun hh => hb (hm b hh)), hM, hcell, fun b o hb h => hnew b o (Nat.lt_of_not_le fun hh => hb (hm b hh)) h⟩, ?_⟩
  rw [put_stores]
  exact hkp.mono (by omega)
end
end Go.AbsM
end

section
namespace Go.FM
noncomputable section
variable [Env]
open Go.AbsM (flat foldl_lay flat_replicate madeCells_flat)
section
variable {Pr : Program} {w : World} {g : Gm} {c : Nat}
theorem constHV_ok (v : Value) : CRep g c (constHV v) v ∧ (constHV v ≠ .dead → (constHV v).isCell = true) := by
  unfold constHV
  split
  all_goals first
    | exact ⟨rfl, fun _ => rfl⟩
    | skip
  · rename_i s
    have h2 : s.data.toList.length = s.size := Array.length_toList
    have h1 := bytesOf_packB s.data.toList
    have h3 := packB_lt s.data.toList
    rw [h2] at h1 h3
    refine ⟨⟨h3, ?_⟩, fun _ => rfl⟩
    show _ = Value.string ⟨(bytesOf s.size (packB s.data.toList)).toArray⟩
    rw [h1]
  · exact ⟨trivial, fun h => absurd rfl h⟩
theorem constV_ok (v : Value) : VRep g c (constV v) v := by
  unfold constV
  split
  · rename_i cs
    cases hall : (cs.toList.map constHV).all HV.isCell with
    | false => exact trivial
    | true =>
      refine ⟨cs.toList, by simp, by simp, fun i x u hx hu => ?_⟩
      simp only [List.getElem?_map, Option.map_eq_some_iff] at hx
      obtain ⟨y, hy, rfl⟩ := hx
      rw [hy] at hu
      simp only [Option.some.injEq] at hu; subst hu
      have hc := (constHV_ok (g := g) (c := c) y).1
      exact ⟨hc, hc.one (List.all_eq_true.1 hall _ (List.mem_map.2 ⟨y, List.mem_of_getElem? hy, rfl⟩))⟩
  · exact VRep.of_cell (constHV_ok v).1
theorem constV_cells {v : Value} (hl : constV v ≠ .dead) : CReps g c (constV v).cells v.cells.toList ∧ (constV v).cells.all HV.isCell = true := by
  have hall : (constV v).cells.all HV.isCell = true := by
    have other : constV v = constHV v → (constV v).cells.all HV.isCell = true := by
      intro e
      rw [e] at hl ⊢
      have := (constHV_ok (g := fun _ => ⟨0, 0, 0, 0⟩) (c := 0) v).2 hl
      have hcl : (constHV v).cells = [constHV v] := by
        cases hc : constHV v <;> first | rfl | (rw [hc] at this; cases this)
      rw [hcl]
      simp [this]
    cases v with
    | agg cs =>
      have e : constV (.agg cs) = Bool.casesOn ((List.map constHV cs.toList).all HV.isCell) HV.dead (HV.agg (List.map constHV cs.toList)) := rfl
      rw [e] at hl ⊢
      cases hall : (cs.toList.map constHV).all HV.isCell with
      | false => rw [hall] at hl; exact absurd rfl hl
      | true => exact hall
    | _ => exact other rfl
  exact ⟨TRep.cells (TRep.of_val (constV_ok v)) hall, hall⟩
theorem lenF_ok {t ty : TypeId} {rest : List TypeId} {f : HV → HV} (h : lenF Pr t = .f f) {x : HV} {v : Value} (hx : TRep g c x v) (hl : f x ≠ .dead) : ∃ u, (Builtin.len_ (t :: rest).toArray ty #[v]).run Pr w = .ok u w ∧ TRep g c (f x) u := by
  unfold lenF at h
  split at h
  · rename_i hu
    injection h with h; subst h
    unfold lenStr at hl ⊢
    cases x <;> try exact absurd rfl hl
    rename_i n d
    obtain ⟨hd, e1⟩ : d < 256 ^ n ∧ v = strOf n d := hx
    subst e1
    have hsz : (⟨(bytesOf n d).toArray⟩ : ByteArray).size = n := by simp [ByteArray.size, bytesOf_length]
    refine ⟨.int .i64 (n : Int), ?_, rfl⟩
    simp only [strOf]
    simp [Builtin.len_, run_underlying hu, goInt, hsz]
  · rename_i e hu
    injection h with h; subst h
    unfold lenSlc at hl ⊢
    cases x <;> try exact absurd rfl hl
    · have e1 : v = .slice none 0 0 := hx
      subst e1
      exact ⟨.int .i64 0, by simp [Builtin.len_, run_underlying hu, goInt], rfl⟩
    · rename_i k o n es cl
      obtain ⟨_, A, m, e1, _⟩ := hx
      subst e1
      exact ⟨.int .i64 (n : Int), by simp [Builtin.len_, run_underlying hu, goInt], rfl⟩
  · rename_i m e hu
    injection h with h; subst h
    exact ⟨.int .i64 (m : Int), by simp [Builtin.len_, run_underlying hu, goInt], rfl⟩
  · rename_i arr hu
    split at h
    · rename_i m e hu2
      injection h with h; subst h
      exact ⟨.int .i64 (m : Int), by simp [Builtin.len_, run_underlying hu, run_underlying hu2, goInt], rfl⟩
    · cases h
  · cases h
theorem minV_ok {x y : HV} {u v : Value} (hx : TRep g c x u) (hy : TRep g c y v) (hl : minV x y ≠ .dead) (ts : Array TypeId) (ty : TypeId) : ∃ z, (Builtin.min_ ts ty #[u, v]).run Pr w = .ok z w ∧ TRep g c (minV x y) z := by
  unfold minV at hl ⊢
  split at hl
  · rename_i k p k' q
    have e1 : u = .int k p := hx
    have e2 : v = .int k' q := hy
    subst e1; subst e2
    exact ⟨.int k (if q < p then q else p), by simp [Builtin.min_, Builtin.min2], rfl⟩
  · rename_i k p k' q
    have e1 : u = .float k p := hx
    have e2 : v = .float k' q := hy
    subst e1; subst e2
    split at hl
    · rename_i hk
      subst hk
      rw [if_pos rfl]
      unfold minF at hl ⊢
      split at hl
      · exact ⟨.float k p, by simp_all [Builtin.min_, Builtin.min2], rfl⟩
      · exact ⟨.float k q, by simp_all [Builtin.min_, Builtin.min2], rfl⟩
      · exact ⟨.float k (if (k.decode p).neg then p else q), by simp_all [Builtin.min_, Builtin.min2], rfl⟩
      · exact absurd rfl hl
    · exact absurd rfl hl
  · exact absurd rfl hl
theorem maxV_ok {x y : HV} {u v : Value} (hx : TRep g c x u) (hy : TRep g c y v) (hl : maxV x y ≠ .dead) (ts : Array TypeId) (ty : TypeId) : ∃ z, (Builtin.max_ ts ty #[u, v]).run Pr w = .ok z w ∧ TRep g c (maxV x y) z := by
  unfold maxV at hl ⊢
  split at hl
  · rename_i k p k' q
    have e1 : u = .int k p := hx
    have e2 : v = .int k' q := hy
    subst e1; subst e2
    exact ⟨.int k (if q > p then q else p), by simp [Builtin.max_, Builtin.max2], rfl⟩
  · rename_i k p k' q
    have e1 : u = .float k p := hx
    have e2 : v = .float k' q := hy
    subst e1; subst e2
    split at hl
    · rename_i hk
      subst hk
      rw [if_pos rfl]
      unfold maxF at hl ⊢
      split at hl
      · exact ⟨.float k q, by simp_all [Builtin.max_, Builtin.max2], rfl⟩
      · exact ⟨.float k p, by simp_all [Builtin.max_, Builtin.max2], rfl⟩
      · exact ⟨.float k (if (k.decode p).neg then q else p), by simp_all [Builtin.max_, Builtin.max2], rfl⟩
      · exact absurd rfl hl
    · exact absurd rfl hl
  · exact absurd rfl hl
theorem layL_ok {cs ds es : List HV} {vs us : List Value} {off : Nat} (hc : CReps g c cs vs) (hd : CReps g c ds us) (h : layL cs off ds = some es) : off + us.length ≤ vs.length ∧ CReps g c es (vs.take off ++ (us ++ vs.drop (off + us.length))) := by
  unfold layL at h
  split at h
  · rename_i hl
    have hl : off + ds.length ≤ cs.length := Nat.le_of_ble_eq_true hl
    simp only [Option.some.injEq] at h; subst h
    refine ⟨by rw [hc.1, hd.1]; exact hl, (hc.take off).append (hd.append ?_)⟩
    rw [hd.1]
    exact hc.drop _
  · cases h
theorem layL_len {cs ds es : List HV} {off : Nat} (h : layL cs off ds = some es) : es.length = cs.length ∧ off + ds.length ≤ cs.length := by
  unfold layL at h
  split at h
  · rename_i hl
    have hl : off + ds.length ≤ cs.length := Nat.le_of_ble_eq_true hl
    simp only [Option.some.injEq] at h; subst h
    refine ⟨?_, hl⟩
    simp; omega
  · cases h
def PReps (g : Gm) (c : Nat) (l : List (Nat × HV)) (m : List (Nat × Value)) : Prop :=
  m.length = l.length ∧ ∀ (i : Nat) (x : Nat × HV) (y : Nat × Value), l[i]? = some x → m[i]? = some y → x.1 = y.1 ∧ TRep g c x.2 y.2
theorem fillL_ok {place : Nat → Option (Nat × Nat)} {l : List (Nat × HV)} {m : List (Nat × Value)} {cells cs : List HV} {vs : List Value} (hl : PReps g c l m) (hc : CReps g c cells vs) (h : fillL place cells l = some cs) :
    ∃ us : List Value, Instr.fill place vs.toArray m = some us.toArray ∧ CReps g c cs us ∧ us.length = vs.length := by
  induction l generalizing m cells vs with
  | nil =>
    have : m = [] := List.eq_nil_of_length_eq_zero hl.1
    subst this
    simp only [fillL, Option.some.injEq] at h; subst h
    exact ⟨vs, rfl, hc, rfl⟩
  | cons x r ih =>
    obtain ⟨i, a⟩ := x
    cases m with
    | nil => exact absurd hl.1 (by simp)
    | cons y m' =>
      obtain ⟨i', v⟩ := y
      obtain ⟨e1, hv⟩ := hl.2 0 _ _ rfl rfl
      simp only at e1 hv
      subst e1
      have hl' : PReps g c r m' := ⟨by simpa using hl.1, fun j x y hx hy => hl.2 (j + 1) x y (by simpa using hx) (by simpa using hy)⟩
      simp only [fillL] at h
      split at h
      · cases h
      · rename_i off size hp
        split at h
        · rename_i hsz
          split at h
          · rename_i cells' hla
            have hcr := hv.cells hsz.2
            obtain ⟨hle, hcr'⟩ := layL_ok hc hcr hla
            have hvs : v.cells.size = size := by
              have := hcr.1
              simp only [Array.length_toList] at this
              rw [this, hsz.1]
            obtain ⟨us, hfill, hus, hul⟩ := ih hl' hcr' h
            refine ⟨us, ?_, hus, ?_⟩
            · simp only [Instr.fill, hp]
              have hno : ¬ ((v.cells.size ≠ size || decide (off + v.cells.size > vs.toArray.size)) = true) := by
                simp [hvs]
                simp at hle
                omega
              have hf := foldl_lay off v.cells.toList vs hle
              have hz : v.cells.zipIdx.foldl (fun (cs : Array Value) (x : Value × Nat) => cs.setIfInBounds (off + x.2) x.1) vs.toArray = (v.cells.toList.zipIdx).foldl (fun (cs : Array Value) (x : Value × Nat) => cs.setIfInBounds (off + x.2) x.1) vs.toArray := by
                rw [← Array.foldl_toList]
                simp
              simp only [ne_eq] at hno ⊢
              rw [if_neg (by simpa using hno)]
              have : (fun (cs : Array Value) (x : Value × Nat) => match x with | (c, j) => cs.setIfInBounds (off + j) c) = fun (cs : Array Value) (x : Value × Nat) => cs.setIfInBounds (off + x.2) x.1 := by
                funext cs x; rfl
              rw [this, hz, hf]
              exact hfill
            · rw [hul]
              simp only [List.length_append, List.length_take, List.length_drop]
              omega
          · cases h
        · cases h
theorem zeroT_some {t : TypeId} (h : zeroT Pr t ≠ .dead) : ∃ (i : TypeInfo) (v : Value), Pr.info? t = some i ∧ i.zero = some v ∧ zeroT Pr t = constV v := by
  unfold zeroT at h ⊢
  cases hi : Pr.info? t with
  | none => rw [hi] at h; exact absurd rfl h
  | some i =>
    cases hz : i.zero with
    | none => rw [hi] at h; simp [hz] at h
    | some v => exact ⟨i, v, rfl, hz, by simp [hz]⟩
theorem placesT_eq {fs : List Field} {l : List (Nat × Nat)} (h : placesT Pr fs = some l) : fs.mapM (fun f => (Pr.info? f.type).map fun i => (f.offset, i.size)) = some l := by
  induction fs generalizing l with
  | nil => simp [placesT] at h; subst h; rfl
  | cons f r ih =>
    simp only [placesT] at h
    split at h
    · rename_i n l' hn hl
      simp only [Option.some.injEq] at h; subst h
      obtain ⟨i, hi, rfl⟩ := Option.map_eq_some_iff.1 hn
      simp [List.mapM_cons, hi, ih hl]
    · cases h
theorem PReps.zip {ps : List (Nat × Operand)} {xs : List HV} {ev : Operand → Value} (h : TReps g c xs (ps.map fun p => ev p.2)) : PReps g c ((ps.map (·.1)).zip xs) (ps.map fun p => (p.1, ev p.2)) := by
  have hl : ps.length = xs.length := by simpa using h.1
  refine ⟨by simp [hl], fun i x y hx hy => ?_⟩
  rw [List.getElem?_zip_eq_some] at hx
  obtain ⟨h1, h2⟩ := hx
  simp only [List.getElem?_map, Option.map_eq_some_iff] at h1 hy
  obtain ⟨p, hp, e⟩ := h1
  obtain ⟨p', hp', rfl⟩ := hy
  rw [hp] at hp'
  simp only [Option.some.injEq] at hp'; subst hp'
  exact ⟨e.symm, h.2 i x.2 _ h2 (by simp [hp])⟩
theorem buildF_ok {t : TypeId} {ps : List (Nat × Operand)} {f : List HV → HV} (h : buildF Pr t (ps.map (·.1)) = .f f) {xs : List HV} {ev : Operand → Value} (hx : TReps g c xs (ps.map fun p => ev p.2)) (hl : f xs ≠ .dead) :
    ∃ u, (Instr.build t (ps.map fun p => (p.1, ev p.2)).toArray).run Pr w = .ok u w ∧ TRep g c (f xs) u := by
  have hp := PReps.zip hx
  unfold buildF at h
  split at h
  · rename_i z fields hz hu
    split at h
    · rename_i places hpl
      injection h with h; subst h
      obtain ⟨i, v, hi, hzv, he⟩ := zeroT_some (Pr := Pr) (t := t) (by rw [hz]; simp)
      rw [hz] at he
      have hcc := (constV_cells (g := g) (c := c) (v := v) (by rw [← he]; simp)).1
      rw [← he] at hcc
      simp only [aggOf] at hl ⊢
      split at hl
      · rename_i cs hf
        obtain ⟨us, hfill, hus, _⟩ := fillL_ok hp hcc hf
        refine ⟨.agg us.toArray, ?_, _, rfl, hus⟩
        apply run_build
        simp only [Program.built, hi, hu, hzv, placesT_eq hpl]
        simpa using hfill
      · exact absurd rfl hl
    · cases h
  · rename_i z n e hz hu
    split at h
    · rename_i k hk
      injection h with h; subst h
      obtain ⟨i, v, hi, hzv, he⟩ := zeroT_some (Pr := Pr) (t := t) (by rw [hz]; simp)
      rw [hz] at he
      have hcc := (constV_cells (g := g) (c := c) (v := v) (by rw [← he]; simp)).1
      rw [← he] at hcc
      simp only [aggOf] at hl ⊢
      split at hl
      · rename_i cs hf
        obtain ⟨us, hfill, hus, _⟩ := fillL_ok hp hcc hf
        obtain ⟨ie, hie, rfl⟩ := Option.map_eq_some_iff.1 hk
        refine ⟨.agg us.toArray, ?_, _, rfl, hus⟩
        apply run_build
        simp only [Program.built, hi, hu, hzv, hie]
        simpa using hfill
      · exact absurd rfl hl
    · cases h
  · cases h
end
end
end Go.FM
end

section
namespace Go.FM
noncomputable section
variable [Env]
open Go.AbsM (flat foldl_lay flat_replicate madeCells_flat)
def hp (D : Nat) (h : HT) : Nat → HO := fun k => if k < 4 ^ D then HT.get D k h else .no
def Kp (g : Gm) (h : Nat → HO) (w : World) : Prop := ∀ b o, Env.keep b = some o → w.heap[b]? = some o ∧ ¬ Owns g h b
theorem Kp.post {g g' : Gm} {h h' : Nat → HO} {c c' : Nat} {w w' : World} (k : Kp g h w) (p : Post g h c w g' h' c' w') : Kp g' h' w' := fun b o hb => by
  obtain ⟨h1, h2⟩ := k b o hb
  have hlt : b < w.heap.size := (Array.getElem?_eq_some_iff.1 h1).1
  exact ⟨by rw [p.fr b hlt h2]; exact h1, fun ho => (p.ow b ho).elim (fun h => by omega) h2⟩
theorem Kp.ext {g : Gm} {h : Nat → HO} {w w' : World} (k : Kp g h w) (hx : Ext w w') : Kp g h w' := fun b o hb => by
  obtain ⟨h1, h2⟩ := k b o hb
  exact ⟨by rw [hx.heap b (Array.getElem?_eq_some_iff.1 h1).1]; exact h1, h2⟩
structure HOk (D : Nat) (g : Gm) (h : HT) (c : Nat) (w : World) : Prop where
  deep : HT.deep D h
  le : c ≤ 4 ^ D
  inv : HInv g (hp D h) c w
  kp : Kp g (hp D h) w
theorem hp_lt {D : Nat} {h : HT} {k : Nat} (hk : k < 4 ^ D) : hp D h k = HT.get D k h := if_pos hk
theorem hp_set {D : Nat} {h : HT} {j : Nat} {o : HO} (hd : HT.deep D h) (hj : j < 4 ^ D) : hp D (HT.set D j o h) = upd (hp D h) j o := by
  funext k
  show (if k < 4 ^ D then HT.get D k (HT.set D j o h) else .no) = if k = j then o else (if k < 4 ^ D then HT.get D k h else .no)
  by_cases hk : k < 4 ^ D
  · simp only [hk, if_true]
    rw [get_set D k j o h hd hk hj]
  · simp only [hk, if_false]
    rw [if_neg (by omega)]
theorem hp_unpre {D : Nat} {h : HT} {pre c : Nat} (hd : HT.deep D h) (hp0 : pre = 0 ∨ pre ≤ 4 ^ D) : hp D (unpre D pre h) = unp pre (hp D h) ∧ HT.deep D (unpre D pre h) := by
  cases pre with
  | zero => exact ⟨rfl, hd⟩
  | succ k =>
    have hk : k < 4 ^ D := by rcases hp0 with h | h <;> omega
    exact ⟨hp_set hd hk, deep_set D k .no h hd⟩
section
variable {Pr : Program} {D : Nat} {w w' : World} {g : Gm} {h : HT} {c : Nat}
theorem HOk.body (hi : HOk D g h c w) {k : Nat} (hk : k < c) {b : HB} (hb : (HT.get D k h).body = b) (hn : b ≠ .no) : BOk g c (g k) b w := by
  have e := hp_lt (D := D) (h := h) (k := k) (Nat.lt_of_lt_of_le hk hi.le)
  cases ho : HT.get D k h with
  | no => rw [ho] at hb; exact absurd hb.symm hn
  | own pre b' =>
    rw [ho] at hb e
    have : b' = b := hb
    subst this
    exact hi.inv.own k pre b' e
  | sh b' =>
    rw [ho] at hb e
    have : b' = b := hb
    subst this
    exact hi.inv.sh k b' e
theorem bytes_ones (n d : Nat) : ∀ u, u ∈ (bytesOf n d).map (fun b => Value.int .u8 b.toNat) → u.oneCell' = true := by
  intro u hu
  obtain ⟨b, _, rfl⟩ := List.mem_map.1 hu
  rfl
theorem CReps.ones {cs : List HV} {us : List Value} (hc : CReps g c cs us) : ∀ u, u ∈ us → u.oneCell' = true := by
  intro u hu
  obtain ⟨i, hi, rfl⟩ := List.getElem_of_mem hu
  exact (hc.2 i (cs[i]'(by rw [← hc.1]; exact hi)) us[i] (by simp [← hc.1, hi]) (by simp [hi])).2
theorem BRep.ones {b : HB} {us : List Value} (hb : BRep g c b us) : ∀ u, u ∈ us → u.oneCell' = true := by
  cases b with
  | no => exact hb.elim
  | cells cs => exact CReps.ones hb
  | byt n d => rw [hb.2]; exact bytes_ones n d
  | map es cl => exact hb.elim
theorem BRep.len {b : HB} {us : List Value} (hb : BRep g c b us) : us.length = sizeO b := by
  cases b with
  | no => exact hb.elim
  | cells cs => exact hb.1
  | byt n d => rw [hb.2]; simp [sizeO, bytesOf_length]
  | map es cl => exact hb.elim
theorem BOk.cells {a : At} {b : HB} (hb : BOk g c a b w) (hm : isMap b = false := by rfl) : ∃ us : List Value, us.length = a.len ∧ BRep g c b us ∧ a.len = sizeO b ∧ ∀ (j : Nat) (u : Value), us[j]? = some u → w.cell? ⟨a.b, a.o + j, none⟩ = some u := by
  obtain ⟨vs, t, h1, h2, h3, h4⟩ := hb.plain hm
  have hl : (a.row vs).length = a.len := by simp [At.row]; omega
  refine ⟨a.row vs, hl, h4, by rw [← hl]; exact h4.len, fun j u hu => ?_⟩
  simp only [At.row, List.getElem?_take] at hu
  split at hu
  · rw [List.getElem?_drop] at hu
    rw [cell_of_row w a.b (a.o + j) vs.toArray t (0, 0) h1]
    simpa using hu
  · cases hu
theorem loadVar_ok {t : TypeId} {n off : Nat} {bl : Bool} {cs : List HV} {us : List Value} {b o : Nat} (hn : sizeT Pr t = some n) (ha : aggT Pr t = some bl) (hc : CReps g c cs us) (hm : ∀ (j : Nat) (u : Value), us[j]? = some u → w.cell? ⟨b, o + j, none⟩ = some u) (hl : partV bl n off cs ≠ .dead) :
    ∃ v, (loadVar t ⟨b, o + off, none⟩).run Pr w = .ok v w ∧ VRep g c (partV bl n off cs) v := by
  cases bl with
  | false =>
    have e : partV false n off cs = lget off cs := rfl
    rw [e] at hl ⊢
    obtain ⟨u, hu, h1, h2⟩ := hc.get (lget_some hl)
    refine ⟨u, ?_, VRep.of_cell h1⟩
    have := hm off u hu
    simp [loadVar, aggT_run ha, this]
  | true =>
    have e : partV true n off cs = if Nat.ble (Nat.add off n) cs.length then .agg ((cs.drop off).take n) else .dead := rfl
    rw [e] at hl ⊢
    by_cases hb : Nat.ble (Nat.add off n) cs.length = true
    · rw [if_pos hb]
      have hle : off + n ≤ cs.length := Nat.le_of_ble_eq_true hb
      refine ⟨.agg ((us.drop off).take n).toArray, ?_, _, rfl, (hc.drop off).take n⟩
      have hlen : ((us.drop off).take n).length = n := by simp [hc.1]; omega
      have hld := run_loadCells_list (P := Pr) w ⟨b, o + off, none⟩ ((us.drop off).take n) (fun j v hj => by
        rw [Addr.add_lit]
        rw [List.getElem?_take] at hj
        split at hj
        · rw [List.getElem?_drop] at hj
          rw [Nat.add_assoc]
          exact hm _ v hj
        · cases hj)
      rw [hlen] at hld
      simp [loadVar, aggT_run ha, sizeT_run hn, hld]
    · rw [if_neg hb] at hl; exact absurd rfl hl
theorem load_ok {t : TypeId} {n : Nat} {bl : Bool} (hn : sizeT Pr t = some n) (ha : aggT Pr t = some bl) (hi : HOk D g h c w) {x : HV} {v : Value} (hx : TRep g c x v) (hl : load D bl n h x ≠ .dead) :
    (∃ A, v = .pointer (some A) ∧ ∃ u, (loadVar t A).run Pr w = .ok u w ∧ VRep g c (load D bl n h x) u) := by
  unfold load at hl ⊢
  cases x <;> try exact absurd rfl hl
  rename_i k off
  obtain ⟨hk, e1⟩ := hx
  subst e1
  refine ⟨_, rfl, ?_⟩
  simp only at hl ⊢
  cases hb : (HT.get D k h).body with
  | no => rw [hb] at hl; exact absurd rfl hl
  | map es cl => rw [hb] at hl; exact absurd rfl hl
  | cells cs =>
    rw [hb] at hl
    have hl : partV bl n off cs ≠ .dead := hl
    obtain ⟨us, h1, h2, h3, h4⟩ := (hi.body hk.1 hb (by simp)).cells
    exact loadVar_ok hn ha h2 h4 hl
  | byt m d =>
    rw [hb] at hl
    cases bl with
    | true => exact absurd rfl hl
    | false =>
      have e : loadO false n off (.byt m d) = (Nat.blt off m).casesOn .dead (byteV (bAt d off)) := rfl
      rw [e] at hl ⊢
      cases hlt : Nat.blt off m with
      | false => rw [hlt] at hl; exact absurd rfl hl
      | true =>
        have hlt' : off < m := Nat.le_of_ble_eq_true hlt
        obtain ⟨us, h1, ⟨h2, h2'⟩, h3, h4⟩ := (hi.body hk.1 hb (by simp)).cells
        have hu : us[off]? = some (.int .u8 (bAt d off : Nat)) := by
          rw [h2', List.getElem?_map, bytesOf_get m d off hlt']
          simp [toNat_ofNat _ (bAt_lt d off)]
        refine ⟨.int .u8 (bAt d off : Nat), ?_, rfl⟩
        have := h4 off _ hu
        simp [loadVar, aggT_run ha, addrOf, this]
theorem toStr_ok (hi : HOk D g h c w) {x : HV} {v : Value} (hx : TRep g c x v) (hl : toStr D h x ≠ .dead) : ∃ u, (Conv.bytesToString v).run Pr w = .ok u w ∧ VRep g c (toStr D h x) u := by
  unfold toStr at hl ⊢
  cases x <;> try exact absurd rfl hl
  · have e1 : v = .slice none 0 0 := hx
    subst e1
    exact ⟨.string .empty, by simp [Conv.bytesToString], by decide, rfl⟩
  · rename_i k o n es cl
    obtain ⟨hk, A, m, e1, hnm, hmm, hes, hlen, hbs, hfull, hcl, hA⟩ := hx
    subst e1
    simp only at hl ⊢
    cases hb : (HT.get D k h).body with
    | no => rw [hb] at hl; exact absurd rfl hl
    | map es cl => rw [hb] at hl; exact absurd rfl hl
    | cells cs => rw [hb] at hl; exact absurd rfl hl
    | byt q d =>
      rw [hb] at hl
      simp only at hl ⊢
      by_cases hq : Nat.ble (Nat.add o n) q = true
      · rw [if_pos hq]
        have hq' : o + n ≤ q := Nat.le_of_ble_eq_true hq
        obtain ⟨us, h1, ⟨h2, h2'⟩, h3, h4⟩ := (hi.body hk.1 hb (by simp)).cells
        refine ⟨strOf n (bCut d o n), ?_, bCut_lt _ _ _, rfl⟩
        have hcut := bytesOf_cut q d o n hq'
        let ns : List Int := (bytesOf n (bCut d o n)).map fun b => (b.toNat : Int)
        have hnl : ns.length = n := by simp [ns, bytesOf_length]
        have hload : (loadCells A n).run Pr w = .ok (ns.map (Value.int .u8)).toArray w := by
          by_cases hn0 : n = 0
          · subst hn0
            have : ns = [] := List.eq_nil_of_length_eq_zero hnl
            rw [this]
            simp [loadCells, loadCellsFrom]
          · rw [hA (by omega)]
            have := run_loadCells_list (P := Pr) w (addrOf g k o) (ns.map (Value.int .u8)) (fun j v hv => by
              simp only [addrOf]
              rw [Addr.add_lit, Nat.add_assoc]
              refine h4 (o + j) v ?_
              rw [h2', List.getElem?_map]
              have hjn : j < n := by
                have := (List.getElem?_eq_some_iff.1 hv).1
                simpa [hnl] using this
              simp only [ns, List.map_map, List.getElem?_map] at hv
              rw [hcut, List.getElem?_take, if_pos hjn, List.getElem?_drop] at hv
              exact hv)
            rw [List.length_map, hnl] at this
            exact this
        have hr := run_bytesToString w A n m ns hload
        rw [hr]
        congr 2
        have hf := Go.AbsM.foldl_push_bytes ns []
        simp only [List.nil_append] at hf
        have he : ns.map (fun n => UInt8.ofNat n.toNat) = bytesOf n (bCut d o n) := by
          simp only [ns, List.map_map]
          conv => rhs; rw [← List.map_id (bytesOf n (bCut d o n))]
          apply List.map_congr_left
          intro b _
          simp
        rw [he] at hf
        exact hf
      · rw [if_neg hq] at hl; exact absurd rfl hl
end
end
end Go.FM
end

section
namespace Go.FM
noncomputable section
variable [Env]
open Go.AbsM (flat foldl_lay flat_replicate madeCells_flat)
def Eff (D : Nat) (g : Gm) (h : HT) (c : Nat) (w : World) (r : Result Value) (v : HV) (h' : HT) (c' : Nat) : Prop :=
  ∃ z w' g', r = .ok z w' ∧ HOk D g' h' c' w' ∧ Post g (hp D h) c w g' (hp D h') c' w' ∧ TRep g' c' v z
section
variable {Pr : Program} {D : Nat} {w w' : World} {g : Gm} {h h' : HT} {c c' : Nat} {v : HV}
theorem Eff.same {z : Value} {r : Result Value} (hi : HOk D g h c w) (hr : r = .ok z w) (hv : TRep g c v z) : Eff D g h c w r v h c := ⟨z, w, g, hr, hi, Post.refl hi.inv, hv⟩
theorem newO_some {pre : Nat} {b : HB} {x : HV} (hn : newO D pre b x h c = .ok v h' c') : c < 4 ^ D ∧ b ≠ .no ∧ v = x ∧ h' = HT.set D c (.own pre b) h ∧ c' = c + 1 := by
  unfold newO at hn
  cases hb : Nat.blt c (Nat.pow 4 D) with
  | false => rw [hb] at hn; cases hn
  | true =>
    rw [hb] at hn
    have hlt : c < 4 ^ D := Nat.le_of_ble_eq_true hb
    cases b with
    | no => cases hn
    | cells cs => cases hn; exact ⟨hlt, by simp, rfl, rfl, rfl⟩
    | byt n d => cases hn; exact ⟨hlt, by simp, rfl, rfl, rfl⟩
    | map es cl => cases hn; exact ⟨hlt, by simp, rfl, rfl, rfl⟩
theorem new_eff {b : HB} {x : HV} {z : Value} {r : Result Value} {a : At} (hi : HOk D g h c w) (hx : Ext w w') (ha : w.heap.size ≤ a.b) (hb : BOk (g.new c a) (c + 1) a b w') (hn : newO D 0 b x h c = .ok v h' c') (hr : r = .ok z w') (hv : TRep (g.new c a) (c + 1) x z) :
    Eff D g h c w r v h' c' := by
  obtain ⟨h1, _, rfl, rfl, rfl⟩ := newO_some hn
  have hs := hp_set (o := .own 0 b) hi.deep h1
  have hp0 := Post.new hi.inv hx ha hb
  rw [← hs] at hp0
  exact ⟨z, w', g.new c a, hr, ⟨deep_set _ _ _ _ hi.deep, h1, hp0.inv, hi.kp.post hp0⟩, hp0, hv⟩
theorem gnew_self (g : Gm) (c : Nat) (a : At) : g.new c a c = a := by simp [Gm.new]
theorem nm_new (g : Gm) (c : Nat) (a : At) (h : a.o + a.len ≤ a.bs) : Nm (g.new c a) (c + 1) c := ⟨Nat.lt_succ_self c, by rw [gnew_self]; exact h⟩
theorem agree_new (g : Gm) (c : Nat) (a : At) : Agree c g (g.new c a) := fun k hk => by simp only [Gm.new, if_neg (show ¬ k = c by omega)]
theorem BOk.fresh {us : List Value} {e : TypeId} {b : HB} {g' : Gm} {c1 : Nat} (hb : BRep g' c1 b us) : BOk g' c1 ⟨w.heap.size, 0, us.length, us.length⟩ b (w.alloc (.cells us.toArray e)) :=
  .inl ⟨us, e, heap_alloc_new w _, rfl, ⟨rfl, by simp⟩, by simpa [At.row] using hb⟩
theorem newVar_run {t : TypeId} {v : Value} : (newVar t v).run Pr w = .ok ⟨w.heap.size, 0, none⟩ (w.alloc (.cells v.cells t)) := rfl
theorem alloc_ok {e : TypeId} {f : HT → Nat → List HV → CR} (hf : allocF Pr D e = .f f) (hi : HOk D g h c w) (hr : f h c [] = .ok v h' c') :
    Eff D g h c w ((Instr.alloc e true (.tuple #[])).run Pr w) v h' c' := by
  unfold allocF at hf
  split at hf
  · cases hf
  · rename_i z hz
    cases hall : (zeroT Pr e).cells.all HV.isCell with
    | false => rw [hall] at hf; cases hf
    | true =>
      rw [hall] at hf
      injection hf with hf; subst hf
      obtain ⟨i, zv, hii, hzv, he⟩ := zeroT_some (Pr := Pr) (t := e) (fun e => hz e)
      have hcc := (constV_cells (g := g.new c ⟨w.heap.size, 0, zv.cells.toList.length, zv.cells.toList.length⟩) (c := c + 1) (v := zv) (by rw [← he]; exact fun e => hz e)).1
      rw [← he] at hcc
      have hb := BOk.fresh (w := w) (e := e) (b := .cells (zeroT Pr e).cells) hcc
      refine new_eff hi (Ext.alloc w _) (Nat.le_refl _) hb hr ?_ (⟨nm_new g c _ (by simp), rfl⟩ : TRep _ (c + 1) (.ptr c 0) (.pointer (some (addrOf (g.new c ⟨w.heap.size, 0, zv.cells.toList.length, zv.cells.toList.length⟩) c 0))))
      simp only [addrOf, gnew_self]
      simp [Instr.alloc, zeroValue, typeInfo, hii, hzv, newVar_run]
theorem box_ok {e : TypeId} {f : HT → Nat → List HV → CR} (hf : boxF Pr D e = .f f) (hi : HOk D g h c w) {x : HV} {u : Value} (hx : TRep g c x u) (hr : f h c [x] = .ok v h' c') :
    Eff D g h c w ((Instr.box e u).run Pr w) v h' c' := by
  unfold boxF at hf
  split at hf
  · rename_i n hn
    injection hf with hf; subst hf
    simp only at hr
    split at hr
    · rename_i hc
      have hcc := (hx.cells hc.2).mono (agree_new g c ⟨w.heap.size, 0, u.cells.toList.length, u.cells.toList.length⟩) (Nat.le_succ c)
      have hb := BOk.fresh (w := w) (e := e) (b := .cells x.cells) hcc
      refine new_eff hi (Ext.alloc w _) (Nat.le_refl _) hb hr ?_ (⟨nm_new g c _ (by simp), rfl⟩ : TRep _ (c + 1) (.ptr c 0) (.pointer (some (addrOf (g.new c ⟨w.heap.size, 0, u.cells.toList.length, u.cells.toList.length⟩) c 0))))
      simp only [addrOf, gnew_self]
      simp [Instr.box, newVar_run]
    · cases hr
  · cases hf
theorem slc_fresh {g : Gm} {n es m : Nat} {B : Nat} (hes : 0 < es) (hnm : n ≤ m) (hm : m ≤ maxLen) : TRep (g.new c ⟨B, 0, n * es, m * es⟩) (c + 1) (.slc c 0 n es false) (.slice (some ⟨B, 0, none⟩) n m) := by
  refine ⟨nm_new g c _ (by simpa using Nat.mul_le_mul_right es hnm), ⟨B, 0, none⟩, m, rfl, hnm, hm, hes, ?_, ?_, (fun _ => ?_), (fun h => by cases h), fun _ => ?_⟩
  · rw [gnew_self]; simp
  · rw [gnew_self]; simp
  · rw [gnew_self]
    show n * es ≤ 0 + m * es
    have := Nat.mul_le_mul_right es hnm
    omega
  · simp [addrOf, gnew_self]
theorem u8Of_some {x : HV} {b : Nat} (hb : u8Of x = some b) : x = .int .u8 (b : Int) ∧ b < 256 := by
  unfold u8Of at hb
  split at hb
  · rename_i k n
    split at hb
    · rename_i hc
      simp only [Bool.and_eq_true] at hc
      simp only [Option.some.injEq] at hb; subst hb
      have := ikEq_eq hc.1
      subst this
      exact ⟨rfl, Nat.le_of_ble_eq_true hc.2⟩
    · cases hb
  · cases hb
theorem bytesL_ok {cs : List HV} {us : List Value} {d : Nat} (hd : bytesL cs = some d) (hc : CReps g c cs us) : d < 256 ^ cs.length ∧ us = (bytesOf cs.length d).map fun b => Value.int .u8 b.toNat := by
  induction cs generalizing us d with
  | nil =>
    simp only [bytesL, Option.some.injEq] at hd; subst hd
    have : us = [] := List.eq_nil_of_length_eq_zero hc.1
    subst this
    exact ⟨by simp, rfl⟩
  | cons x r ih =>
    simp only [bytesL] at hd
    split at hd
    · rename_i b d' hb hd'
      simp only [Option.some.injEq] at hd; subst hd
      cases us with
      | nil => exact absurd hc.1 (by simp)
      | cons u us =>
        obtain ⟨e1, hb256⟩ := u8Of_some hb
        have hu := (hc.2 0 x u rfl rfl).1
        rw [e1] at hu
        have hu : u = .int .u8 (b : Int) := hu
        obtain ⟨h1, h2⟩ := ih hd' ⟨by simpa using hc.1, fun i x u hx hu => hc.2 (i + 1) x u (by simpa using hx) (by simpa using hu)⟩
        show b + 256 * d' < 256 ^ (r.length + 1) ∧ _
        refine ⟨by rw [Nat.pow_succ']; omega, ?_⟩
        rw [List.length_cons, bytesOf_succ, List.map_cons]
        have e2 : Nat.add b (Nat.mul 256 d') = b + 256 * d' := rfl
        rw [e2, show (b + 256 * d') % 256 = b by omega, show (b + 256 * d') / 256 = d' by omega, toNat_ofNat b hb256, ← h2, hu]
    · cases hd
theorem objOf_ok {u8 : Bool} {cs : List HV} {us : List Value} (hc : CReps g c cs us) (hn : objOf u8 cs ≠ .no) : BRep g c (objOf u8 cs) us := by
  cases u8 with
  | false =>
    have e : objOf false cs = if cs.all HV.isCell then .cells cs else .no := rfl
    rw [e] at hn ⊢
    by_cases hall : cs.all HV.isCell = true
    · rw [if_pos hall]; exact hc
    · rw [if_neg hall] at hn; exact absurd rfl hn
  | true =>
    have e : objOf true cs = (match bytesL cs with | some d => .byt cs.length d | none => .no) := rfl
    rw [e] at hn ⊢
    cases hd : bytesL cs with
    | none => rw [hd] at hn; exact absurd rfl hn
    | some d => exact bytesL_ok hd hc
theorem CReps.replicate {cs : List HV} {vs : List Value} (hc : CReps g c cs vs) (n : Nat) : CReps g c (List.replicate n cs).flatten (List.replicate n vs).flatten := by
  induction n with
  | zero => exact ⟨rfl, fun i x u hx => by simp at hx⟩
  | succ n ih => simp only [List.replicate_succ, List.flatten_cons]; exact hc.append ih
theorem bytesOf_zeros (n : Nat) : bytesOf n 0 = List.replicate n 0 := by
  induction n with
  | zero => rfl
  | succ n ih => rw [bytesOf_succ, Nat.zero_div, ih]; rfl
theorem repO_ok {u8 : Bool} {l : Nat} {cs : List HV} {vs : List Value} (hc : CReps g c cs vs) (hn : repO u8 l cs ≠ .no) : BRep g c (repO u8 l cs) (List.replicate l vs).flatten := by
  cases u8 with
  | false =>
    have e : repO false l cs = (cs.all HV.isCell).casesOn .no (.cells (List.replicate l cs).flatten) := rfl
    rw [e] at hn ⊢
    cases hall : cs.all HV.isCell with
    | false => rw [hall] at hn; exact absurd rfl hn
    | true => exact hc.replicate l
  | true =>
    have e : repO true l cs = (zero8 cs).casesOn .no (.byt l 0) := rfl
    rw [e] at hn ⊢
    cases hz : zero8 cs with
    | false => rw [hz] at hn; exact absurd rfl hn
    | true =>
      unfold zero8 at hz
      split at hz
      · rename_i x
        split at hz
        · rename_i hx
          obtain ⟨e1, _⟩ := u8Of_some hx
          obtain ⟨u, hu, h1, _⟩ := hc.get (i := 0) (x := x) rfl
          rw [e1] at h1
          have h1 : u = .int .u8 ((0 : Nat) : Int) := h1
          have hvs : vs = [u] := by
            cases vs with
            | nil => cases hu
            | cons a r =>
              have : r = [] := List.eq_nil_of_length_eq_zero (by have := hc.1; simpa using this)
              subst this
              simp at hu; subst hu; rfl
          subst hvs
          refine ⟨pow256_pos l, ?_⟩
          rw [bytesOf_zeros, h1]
          simp [List.flatten_replicate_singleton]
        · cases hz
      · cases hz
theorem elemT_some {t e : TypeId} (he : elemT Pr t = some e) : Pr.underlying t = some (.slice e) := by
  unfold elemT at he
  split at he
  · simp only [Option.some.injEq] at he; subst he; assumption
  · cases he
theorem makeSlice_ok {t : TypeId} {f : HT → Nat → List HV → CR} (hf : makeSliceF Pr D t = .f f) (hi : HOk D g h c w) {x y : HV} {u1 u2 : Value} (hx : TRep g c x u1) (hy : TRep g c y u2) (hr : f h c [x, y] = .ok v h' c') :
    Eff D g h c w ((Instr.makeSlice t u1 u2).run Pr w) v h' c' := by
  unfold makeSliceF at hf
  split at hf
  · rename_i e he
    have hu := elemT_some he
    split at hf
    · rename_i n by_ hn hby
      split at hf
      · cases hf
      · rename_i hno
        injection hf with hf; subst hf
        simp only at hr
        split at hr
        · rename_i l co hl hco
          obtain ⟨k1, rfl⟩ := natOf_some hl
          obtain ⟨k2, rfl⟩ := natOf_some hco
          have e1 : u1 = .int k1 (l : Int) := hx
          have e2 : u2 = .int k2 (co : Int) := hy
          subst e1; subst e2
          split at hr
          · rename_i hc
            simp only [Bool.and_eq_true] at hc
            obtain ⟨⟨hc1, hc2⟩, hc3⟩ := hc
            have hc1 : l ≤ co := Nat.le_of_ble_eq_true hc1
            have hc2 : co ≤ 9223372036854775807 := Nat.le_of_ble_eq_true hc2
            have hc3 : by_ * co ≤ 281474976710656 := Nat.le_of_ble_eq_true hc3
            have hn0 : n ≠ 0 := fun e => hno (.inl e)
            have hzl : (zeroT Pr e).cells.length = n := Decidable.byContradiction fun e => hno (.inr e)
            have hzd : zeroT Pr e ≠ .dead := fun hd => by
              obtain ⟨_, hbno, _⟩ := newO_some hr
              rw [hd] at hbno
              cases hq : isU8 Pr e with
              | false => rw [hq] at hbno; exact hbno rfl
              | true => rw [hq] at hbno; exact hbno rfl
            obtain ⟨i, zv, hii, hzv, hez⟩ := zeroT_some hzd
            obtain ⟨i1, hi1, rfl⟩ := Option.map_eq_some_iff.1 hn
            rw [hii] at hi1; cases hi1
            obtain ⟨i2, hi2, rfl⟩ := Option.map_eq_some_iff.1 hby
            rw [hii] at hi2; cases hi2
            have hrun := run_make (P := Pr) w t e i zv hu hii hzv k1 k2 l co (by omega) (by omega) (by rw [← Int.natCast_mul]; exact Int.ofNat_le.2 hc3) (by omega)
            simp only [Int.toNat_natCast] at hrun
            have hcc := (constV_cells (g := g.new c ⟨w.heap.size, 0, l * i.size, co * i.size⟩) (c := c + 1) (v := zv) (by rw [← hez]; exact hzd)).1
            rw [← hez] at hcc
            have hzs : zv.cells.size = i.size := by
              have := hcc.1
              simp only [Array.length_toList] at this
              rw [this, hzl]
            obtain ⟨_, hbno, _⟩ := newO_some hr
            have hb0 := repO_ok (l := l) hcc hbno
            have hml : (madeCells zv.cells (co * i.size)).toList = flat (List.replicate co zv) := madeCells_flat hzs (by omega)
            have hfl : ∀ q, (flat (List.replicate q zv)).length = q * i.size := fun q => by
              rw [flat_replicate]
              simp [hzs]
            have hb : BOk (g.new c ⟨w.heap.size, 0, l * i.size, co * i.size⟩) (c + 1) ⟨w.heap.size, 0, l * i.size, co * i.size⟩ (repO (isU8 Pr e) l (zeroT Pr e).cells) (w.alloc (.cells (madeCells zv.cells (co * i.size)) e)) := by
              refine .inl ⟨(madeCells zv.cells (co * i.size)).toList, e, by rw [Array.toArray_toList]; exact heap_alloc_new w _, by rw [hml, hfl], ?_, ?_⟩
              · refine ⟨rfl, ?_⟩
                show 0 + l * i.size ≤ co * i.size
                have := Nat.mul_le_mul_right i.size hc1
                omega
              · have e3 : (At.mk w.heap.size 0 (l * i.size) (co * i.size)).row (madeCells zv.cells (co * i.size)).toList = (List.replicate l zv.cells.toList).flatten := by
                  simp only [At.row, List.drop_zero]
                  rw [hml, ← flat_replicate]
                  have : List.replicate co zv = List.replicate l zv ++ List.replicate (co - l) zv := by
                    rw [List.replicate_append_replicate]; congr 1; omega
                  rw [this, Go.AbsM.flat_append, List.take_append_of_le_length (by rw [hfl]; exact Nat.le_refl _), List.take_of_length_le (by rw [hfl]; exact Nat.le_refl _)]
                rw [e3]; exact hb0
            exact new_eff hi (Ext.alloc w _) (Nat.le_refl _) hb hr hrun (slc_fresh (by omega) hc1 (by simp only [maxLen]; omega))
          · cases hr
        · cases hr
    · cases hf
  · cases hf
theorem fill_length {place : Nat → Option (Nat × Nat)} {l : List (Nat × HV)} {cells cs : List HV} (hf : fillL place cells l = some cs) : cs.length = cells.length := by
  induction l generalizing cells with
  | nil => simp only [fillL, Option.some.injEq] at hf; subst hf; rfl
  | cons x r ih =>
    obtain ⟨i, a⟩ := x
    simp only [fillL] at hf
    split at hf
    · cases hf
    · split at hf
      · split at hf
        · rename_i cells' hl
          rw [ih hf, (layL_len hl).1]
        · cases hf
      · cases hf
theorem buildSlice_ok {t : TypeId} {len : Nat} {ps : List (Nat × Operand)} {f : HT → Nat → List HV → CR} (hf : buildSliceF Pr D t len (ps.map (·.1)) = .f f) (hi : HOk D g h c w) {xs : List HV} {ev : Operand → Value} (hx : TReps g c xs (ps.map fun p => ev p.2)) (hr : f h c xs = .ok v h' c') :
    Eff D g h c w ((Instr.buildSlice t len (ps.map fun p => (p.1, ev p.2)).toArray).run Pr w) v h' c' := by
  have hp := PReps.zip hx
  unfold buildSliceF at hf
  split at hf
  · rename_i e he
    have hu := elemT_some he
    split at hf
    · cases hf
    · rename_i n hn hne
      split at hf
      · cases hf
      · rename_i hno
        injection hf with hf; subst hf
        simp only at hr
        split at hr
        · rename_i cs hfl
          have hne : zeroT Pr e ≠ .dead := fun e => hne e
          have hn0 : n ≠ 0 := fun e => hno (.inl e)
          have hsmall : ¬ len * n > 16777216 := fun e => hno (.inr (.inl e))
          have hzl : (zeroT Pr e).cells.length = n := Decidable.byContradiction fun e => hno (.inr (.inr e))
          obtain ⟨_, hbno, _⟩ := newO_some hr
          have hcsl : cs.length = len * n := by
            rw [fill_length hfl]; simp [hzl]
          obtain ⟨i, zv, hii, hzv, hez⟩ := zeroT_some hne
          obtain ⟨i1, hi1, rfl⟩ := Option.map_eq_some_iff.1 hn
          rw [hii] at hi1; cases hi1
          have hcc := (constV_cells (g := g) (c := c) (v := zv) (by rw [← hez]; exact hne)).1
          rw [← hez] at hcc
          have hzs : zv.cells.size = i.size := by
            have := hcc.1
            simp only [Array.length_toList] at this
            rw [this, hzl]
          have hbase : CReps g c ((List.replicate len (zeroT Pr e).cells).flatten) (flat (List.replicate len zv)) := by
            rw [flat_replicate]
            exact hcc.replicate len
          obtain ⟨us, hfill, hus, hul⟩ := fillL_ok hp hbase hfl
          have hmc := madeCells_flat (n := len) hzs (by omega)
          have hul2 : us.length = len * i.size := by rw [hus.1, hcsl]
          have hrun : (Instr.buildSlice t len (ps.map fun p => (p.1, ev p.2)).toArray).run Pr w = .ok (.slice (some ⟨w.heap.size, 0, none⟩) len len) (w.alloc (.cells us.toArray e)) := by
            by_cases h0 : len = 0
            · subst h0
              have hm0 : us = [] := List.eq_nil_of_length_eq_zero (by rw [hul2]; simp)
              subst hm0
              have hzero : flat (List.replicate 0 zv) = [] := rfl
              rw [hzero] at hfill
              simp [Instr.buildSlice, run_underlying hu, sizeOf, typeInfo, hii, newRow, Array.range_zero', hfill]
            · refine run_buildSlice w t e len _ us.toArray i zv hu hii hzv (by simpa using hsmall) (Nat.mul_ne_zero h0 hn0) ?_
              have e2 : (Array.range (len * i.size)).map (zv.cells[· % zv.cells.size]!) = (flat (List.replicate len zv)).toArray := by
                apply Array.ext'; rw [hmc]
              rw [e2]
              exact hfill
          have hb := BOk.fresh (w := w) (e := e) (g' := g.new c ⟨w.heap.size, 0, us.length, us.length⟩) (c1 := c + 1) (us := us) (objOf_ok (u8 := isU8 Pr e) (hus.mono (agree_new g c _) (Nat.le_succ c)) hbno)
          rw [hul2] at hb
          have hlm : len ≤ maxLen := by
            have h1 : len ≤ len * i.size := Nat.le_mul_of_pos_right _ (by omega)
            have : maxLen = 9223372036854775807 := rfl
            omega
          exact new_eff hi (Ext.alloc w _) (Nat.le_refl _) hb hr hrun (slc_fresh (by omega) (Nat.le_refl _) hlm)
        · cases hr
    · cases hf
  · cases hf
end
end
end Go.FM
end

section
namespace Go.FM
noncomputable section
variable [Env]
open Go.AbsM (flat foldl_lay flat_replicate madeCells_flat)
section
variable {Pr : Program} {D : Nat} {w w' : World} {g : Gm} {h h' : HT} {c c' : Nat} {v : HV}
theorem list_lay {α : Type} (vs vals : List α) (o L off : Nat) (h1 : o + L ≤ vs.length) (h2 : off + vals.length ≤ L) :
    ((vs.take (o + off) ++ vals ++ vs.drop (o + off + vals.length)).drop o).take L = ((vs.drop o).take L).take off ++ (vals ++ ((vs.drop o).take L).drop (off + vals.length)) := by
  apply List.ext_getElem?
  intro i
  rw [List.getElem?_take, List.getElem?_drop]
  by_cases hi : i < L
  · rw [if_pos hi]
    by_cases h3 : i < off
    · rw [List.append_assoc, List.getElem?_append_left (by simp; omega), List.getElem?_take, if_pos (by omega), List.getElem?_append_left (by simp; omega), List.getElem?_take, if_pos h3, List.getElem?_take, if_pos hi, List.getElem?_drop]
    · have e1 : (((vs.drop o).take L).take off).length = off := by simp; omega
      have e2 : (vs.take (o + off)).length = o + off := by simp; omega
      rw [List.append_assoc, List.getElem?_append_right (l₁ := vs.take (o + off)) (by omega), List.getElem?_append_right (l₁ := ((vs.drop o).take L).take off) (by omega), e1, e2]
      by_cases h4 : i < off + vals.length
      · rw [List.getElem?_append_left (by omega), List.getElem?_append_left (by omega)]
        congr 1; omega
      · rw [List.getElem?_append_right (by omega), List.getElem?_append_right (by omega), List.getElem?_drop, List.getElem?_drop, List.getElem?_take, if_pos (by omega), List.getElem?_drop]
        congr 1; omega
  · rw [if_neg hi]
    symm
    apply List.getElem?_eq_none
    simp only [List.length_append, List.length_take, List.length_drop]
    omega
theorem list_keep {α : Type} (vs vals : List α) (o L p : Nat) (h1 : o + L ≤ p) (h2 : p + vals.length ≤ vs.length) :
    ((vs.take p ++ vals ++ vs.drop (p + vals.length)).drop o).take L = (vs.drop o).take L := by
  apply List.ext_getElem?
  intro i
  rw [List.getElem?_take, List.getElem?_drop, List.getElem?_take, List.getElem?_drop]
  by_cases hi : i < L
  · rw [if_pos hi, if_pos hi, List.append_assoc, List.getElem?_append_left (by simp; omega), List.getElem?_take, if_pos (by omega)]
  · rw [if_neg hi, if_neg hi]
theorem store_run {vs : List Value} {t : TypeId} {B p : Nat} {vals : List Value} (hh : w.heap[B]? = some (.cells vs.toArray t (0, 0))) (hone : ∀ u, u ∈ vals → u.oneCell' = true) (hle : p + vals.length ≤ vs.length) :
    ∃ w', (storeCells ⟨B, p, none⟩ vals).run Pr w = .ok () w' ∧ Chg B w w' ∧ w'.heap[B]? = some (.cells (vs.take p ++ vals ++ vs.drop (p + vals.length)).toArray t (0, 0)) := by
  have := run_storeCells_at Pr B p t vals 0 vs.toArray w hh (by simpa using hle) hone
  refine ⟨_, this, Chg.setRow w B _, ?_⟩
  have h2 := setRow_heap w B vs.toArray (vs.take p ++ vals ++ vs.drop (p + vals.length)).toArray t (0, 0) hh
  simpa using h2
theorem write_run {a : At} {b b' : HB} {vals : List Value} {off : Nat} (hm : isMap b = false) (hb : BOk g c a b w) (hone : ∀ u, u ∈ vals → u.oneCell' = true) (hle : off + vals.length ≤ a.len)
    (hnew : ∀ us, us.length = a.len → BRep g c b us → BRep g c b' (us.take off ++ (vals ++ us.drop (off + vals.length)))) :
    ∃ w', (storeCells ⟨a.b, a.o + off, none⟩ vals).run Pr w = .ok () w' ∧ Chg a.b w w' ∧ BOk g c a b' w' := by
  obtain ⟨vs, t, h1, h2, h3, h4⟩ := hb.plain hm
  obtain ⟨w', q1, q2, q3⟩ := store_run (Pr := Pr) (p := a.o + off) h1 hone (by omega)
  have hl : (a.row vs).length = a.len := by simp [At.row]; omega
  refine ⟨w', q1, q2, .inl ⟨_, t, q3, ?_, h3, ?_⟩⟩
  · simp only [List.length_append, List.length_take, List.length_drop]; omega
  · have := list_lay vs vals a.o a.len off (by omega) hle
    simp only [At.row] at hl h4 ⊢
    rw [this]
    exact hnew _ hl h4
theorem putO_some {k : Nat} {f : HB → HB} {x : HV} (hr : putO D k f x h c = .ok v h' c') : ∃ pre b, HT.get D k h = .own pre b ∧ f b ≠ .no ∧ v = x ∧ c' = c ∧ h' = HT.set D k (.own 0 (f b)) (unpre D pre h) := by
  unfold putO at hr
  cases ho : HT.get D k h with
  | no => rw [ho] at hr; cases hr
  | sh b => rw [ho] at hr; cases hr
  | own pre b =>
    rw [ho] at hr
    simp only at hr
    cases hb : f b with
    | no => rw [hb] at hr; cases hr
    | cells cs => rw [hb] at hr; cases hr; exact ⟨pre, b, rfl, by rw [hb]; simp, rfl, rfl, by rw [hb]⟩
    | byt n d => rw [hb] at hr; cases hr; exact ⟨pre, b, rfl, by rw [hb]; simp, rfl, rfl, by rw [hb]⟩
    | map es cl => rw [hb] at hr; cases hr
theorem put_eff {k : Nat} {f : HB → HB} {x : HV} (hi : HOk D g h c w) (hk : k < c) (hr : putO D k f x h c = .ok v h' c') {r : Result Value} {z : Value}
    (hrun : ∀ pre b, HT.get D k h = .own pre b → f b ≠ .no → BOk g c (g k) b w → ∃ w', r = .ok z w' ∧ Chg (g k).b w w' ∧ BOk g c (g k) (f b) w') (hv : TRep g c x z) : Eff D g h c w r v h' c' := by
  obtain ⟨pre, b, ho, hn, rfl, rfl, rfl⟩ := putO_some hr
  have hk4 : k < 4 ^ D := Nat.lt_of_lt_of_le hk hi.le
  have ho' : hp D h k = .own pre b := by rw [hp_lt hk4]; exact ho
  obtain ⟨w', q1, q2, q3⟩ := hrun pre b ho hn (hi.inv.own k pre b ho')
  have hpre : pre = 0 ∨ pre ≤ 4 ^ D := .inr (Nat.le_trans (hi.inv.pre k pre b ho') hi.le)
  obtain ⟨e1, e2⟩ := hp_unpre (D := D) (h := h) (pre := pre) (c := c') hi.deep hpre
  have hs := hp_set (o := .own 0 (f b)) e2 hk4
  have hps := Post.set hi.inv ho' q2 q3
  rw [e1] at hs
  rw [← hs] at hps
  exact ⟨z, w', g, q1, ⟨deep_set _ _ _ _ e2, hi.le, hps.inv, hi.kp.post hps⟩, hps, hv⟩
def SRep (g : Gm) (c es : Nat) (s : Src) (us : List Value) : Prop := match s with
  | .byt n d => es = 1 ∧ d < 256 ^ n ∧ us = (bytesOf n d).map fun b => Value.int .u8 b.toNat
  | .cells n cs => us.length = n * es ∧ CReps g c cs us
  | .no => False
theorem SRep.len {es : Nat} {s : Src} {us : List Value} (hs : SRep g c es s us) : us.length = s.len * es := by
  cases s with
  | byt n d => obtain ⟨rfl, _, rfl⟩ := hs; simp [Src.len, bytesOf_length]
  | cells n cs => exact hs.1
  | no => exact hs.elim
theorem SRep.ones {es : Nat} {s : Src} {us : List Value} (hs : SRep g c es s us) : ∀ u, u ∈ us → u.oneCell' = true := by
  cases s with
  | byt n d => obtain ⟨_, _, rfl⟩ := hs; exact bytes_ones n d
  | cells n cs => exact CReps.ones hs.2
  | no => exact hs.elim
theorem SRep.obj {es : Nat} {s : Src} {us : List Value} {u8 : Bool} (hs : SRep g c es s us) (hn : s.obj u8 ≠ .no) : BRep g c (s.obj u8) us := by
  cases s with
  | byt n d =>
    cases u8 with
    | false => exact absurd rfl hn
    | true => exact ⟨hs.2.1, hs.2.2⟩
  | cells n cs =>
    cases u8 with
    | false => exact hs.2
    | true =>
      have e : Src.obj true (.cells n cs) = (Nat.beq n 0).casesOn .no (.byt 0 0) := rfl
      rw [e] at hn ⊢
      cases hb : Nat.beq n 0 with
      | false => rw [hb] at hn; exact absurd rfl hn
      | true =>
        have := Nat.eq_of_beq_eq_true hb; subst this
        have hl := hs.1
        rw [Nat.zero_mul] at hl
        exact ⟨by simp, by rw [List.eq_nil_of_length_eq_zero hl]; rfl⟩
  | no => exact hs.elim
theorem SRep.cut {es m : Nat} {s : Src} {us : List Value} (hs : SRep g c es s us) (hm : m ≤ s.len) : SRep g c es (cutSrc es m s) (us.take (m * es)) := by
  cases s with
  | byt n d =>
    obtain ⟨rfl, h1, rfl⟩ := hs
    refine ⟨rfl, bCut_lt _ _ _, ?_⟩
    rw [bytesOf_cut n d 0 m (by simpa [Src.len] using hm), List.drop_zero, Nat.mul_one, List.map_take]
  | cells n cs =>
    refine ⟨?_, hs.2.take _⟩
    have := hs.1
    have hm : m ≤ n := hm
    have := Nat.mul_le_mul_right es hm
    simp; omega
  | no => exact hs.elim
theorem firstCells_some {es m : Nat} {A : Addr} {vs : List Value} (hl : vs.length = m * es) (hc : ∀ j u, vs[j]? = some u → w.cell? (A.add j) = some u) {n c0 : Nat} : (Builtin.firstCells es m (.slice (some A) n c0)).run Pr w = .ok vs.toArray w := by
  have := run_loadCells_list (P := Pr) w A vs hc
  rw [hl] at this
  simpa [Builtin.firstCells] using this
theorem src_ok {es : Nat} {x : HV} {u : Value} (hi : HOk D g h c w) (hx : TRep g c x u) (hn : srcOf D es h x ≠ .no) :
    (∀ w', (Builtin.lenOf u).run Pr w' = .ok (srcOf D es h x).len w') ∧ ∃ us, SRep g c es (srcOf D es h x) us ∧ ∀ w', Ext w w' → ∀ m, m ≤ (srcOf D es h x).len → (Builtin.firstCells es m u).run Pr w' = .ok (us.take (m * es)).toArray w' := by
  unfold srcOf at hn ⊢
  cases x <;> try exact absurd rfl hn
  · rename_i n d
    obtain ⟨hd, e1⟩ : d < 256 ^ n ∧ u = strOf n d := hx
    subst e1
    simp only at hn ⊢
    cases hb : Nat.beq es 1 with
    | false => rw [hb] at hn; exact absurd rfl hn
    | true =>
      have := Nat.eq_of_beq_eq_true hb; subst this
      have hsz : (⟨(bytesOf n d).toArray⟩ : ByteArray).size = n := by simp [ByteArray.size, bytesOf_length]
      refine ⟨fun w' => by simp only [strOf]; simp [Builtin.lenOf, hsz, Src.len], _, ⟨rfl, hd, rfl⟩, fun w' _ m hm => ?_⟩
      have hm : m ≤ n := hm
      simp only [strOf]
      simp only [Builtin.firstCells, Sem.run_pure]
      congr 1
      apply Array.ext'
      simp [ByteArray.data_extract, List.extract_eq_take_drop]
  · have e1 : u = .slice none 0 0 := hx
    subst e1
    exact ⟨fun w' => by simp [Builtin.lenOf, Src.len], [], ⟨by simp, rfl, fun i x u hx => by simp at hx⟩, fun w' _ m hm => by simp [Builtin.firstCells]⟩
  · rename_i k o n es' cl
    obtain ⟨hk, A, q, e1, hnm, hmm, hes, hlen, hbs, hfull, hcl, hA⟩ := hx
    subst e1
    simp only at hn ⊢
    cases hbe : Nat.beq es es' with
    | false => rw [hbe] at hn; exact absurd rfl hn
    | true =>
      have := Nat.eq_of_beq_eq_true hbe; subst this
      rw [hbe] at hn
      simp only at hn ⊢
      have rd : ∀ (us : List Value), us.length = (g k).len → (∀ (j : Nat) (u : Value), us[j]? = some u → w.cell? ⟨(g k).b, (g k).o + j, none⟩ = some u) → (g k).b < w.heap.size →
          ∀ w', Ext w w' → ∀ m, m ≤ n → (Builtin.firstCells es m (.slice (some A) n q)).run Pr w' = .ok ((((us.drop o).take (n * es)).take (m * es)).toArray) w' := by
        intro us hul hcell hB w' hw' m hm
        by_cases hm0 : m = 0
        · subst hm0
          simp [Builtin.firstCells, loadCells, loadCellsFrom]
        · have hAe := hA (by omega)
          subst hAe
          have hme : m * es ≤ n * es := Nat.mul_le_mul_right es hm
          refine firstCells_some (by simp; omega) fun j u hj => ?_
          simp only [addrOf]
          rw [Addr.add_lit, Nat.add_assoc]
          rw [List.getElem?_take] at hj
          split at hj
          · rw [List.getElem?_take] at hj
            split at hj
            · rw [List.getElem?_drop] at hj
              have := hcell (o + j) u hj
              rw [← this]
              exact World.cell?_of_block (w := w) (a := ⟨(g k).b, (g k).o + (o + j), none⟩) (hw'.heap _ hB)
            · cases hj
          · cases hj
      cases hb : (HT.get D k h).body with
      | no => rw [hb] at hn; exact absurd rfl hn
      | map es cl => rw [hb] at hn; exact absurd rfl hn
      | cells cs =>
        rw [hb] at hn
        simp only at hn ⊢
        by_cases hle : Nat.ble (Nat.add o (Nat.mul n es)) cs.length = true
        · rw [if_pos hle]
          obtain ⟨us, h1, h2, h3, h4⟩ := (hi.body hk.1 hb (by simp)).cells
          have hle : o + n * es ≤ cs.length := Nat.le_of_ble_eq_true hle
          refine ⟨fun w' => by simp [Builtin.lenOf, Src.len], (us.drop o).take (n * es), ⟨?_, (CReps.drop h2 o).take _⟩, rd us h1 h4 (hi.body hk.1 hb (by simp)).lt⟩
          have : cs.length = us.length := h2.1.symm
          simp; omega
        · rw [if_neg hle] at hn; exact absurd rfl hn
      | byt mm d =>
        rw [hb] at hn
        simp only at hn ⊢
        by_cases hle : (Nat.ble (Nat.add o n) mm && Nat.beq es 1) = true
        · rw [if_pos hle]
          simp only [Bool.and_eq_true] at hle
          have hes1 := Nat.eq_of_beq_eq_true hle.2
          subst hes1
          have hle1 : o + n ≤ mm := Nat.le_of_ble_eq_true hle.1
          obtain ⟨us, h1, ⟨h2, h2'⟩, h3, h4⟩ := (hi.body hk.1 hb (by simp)).cells
          refine ⟨fun w' => by simp [Builtin.lenOf, Src.len], (us.drop o).take (n * 1), ⟨rfl, bCut_lt _ _ _, ?_⟩, rd us h1 h4 (hi.body hk.1 hb (by simp)).lt⟩
          rw [bytesOf_cut mm d o n hle1, h2', List.map_take, List.map_drop, Nat.mul_one]
        · rw [if_neg hle] at hn; exact absurd rfl hn
theorem overO_ok {o : Nat} {y x : HB} {us vs : List Value} (hx : BRep g c x us) (hy : BRep g c y vs) (hn : overO o y x ≠ .no) : o + vs.length ≤ us.length ∧ BRep g c (overO o y x) (us.take o ++ (vs ++ us.drop (o + vs.length))) := by
  cases x with
  | no => exact hx.elim
  | map es cl => exact hx.elim
  | cells cs =>
    cases y with
    | no => exact hy.elim
    | map es cl => exact hy.elim
    | byt m e => exact absurd rfl hn
    | cells ds =>
      have e : overO o (.cells ds) (.cells cs) = (match layL cs o ds with | some cs => .cells cs | none => .no) := rfl
      rw [e] at hn ⊢
      cases hl : layL cs o ds with
      | none => rw [hl] at hn; exact absurd rfl hn
      | some es => exact layL_ok hx hy hl
  | byt n d =>
    cases y with
    | no => exact hy.elim
    | map es cl => exact hy.elim
    | cells ds => exact absurd rfl hn
    | byt m e =>
      have e' : overO o (.byt m e) (.byt n d) = if Nat.ble (Nat.add o m) n then .byt n (bLay d o m e) else .no := rfl
      rw [e'] at hn ⊢
      by_cases hle : Nat.ble (Nat.add o m) n = true
      · rw [if_pos hle]
        have hle1 : o + m ≤ n := Nat.le_of_ble_eq_true hle
        obtain ⟨hd, rfl⟩ := hx
        obtain ⟨he, rfl⟩ := hy
        obtain ⟨q1, q2⟩ := bytesOf_lay n d o m e hle1 hd he
        refine ⟨by simpa [bytesOf_length] using hle1, q1, ?_⟩
        rw [q2]
        simp [bytesOf_length]
      · rw [if_neg hle] at hn; exact absurd rfl hn
theorem overO_plain {o : Nat} {y x : HB} (h : overO o y x ≠ .no) : isMap x = false := by
  cases x with
  | map es cl => exfalso; cases y <;> exact h rfl
  | _ => rfl
theorem joinO_plain {o n : Nat} {y x : HB} (h : joinO o n x y ≠ .no) : isMap x = false := by
  cases x with
  | map es cl => exfalso; cases y <;> exact h rfl
  | _ => rfl
theorem joinO_ok {o n : Nat} {x y : HB} {us vs : List Value} (hx : BRep g c x us) (hy : BRep g c y vs) (hn : joinO o n x y ≠ .no) : o + n ≤ us.length ∧ BRep g c (joinO o n x y) ((us.drop o).take n ++ vs) := by
  cases x with
  | no => exact hx.elim
  | map es cl => exact hx.elim
  | cells cs =>
    cases y with
    | no => exact hy.elim
    | map es cl => exact hy.elim
    | byt m e => exact absurd rfl hn
    | cells ds =>
      have e : joinO o n (.cells cs) (.cells ds) = if Nat.ble (Nat.add o n) cs.length then .cells ((cs.drop o).take n ++ ds) else .no := rfl
      rw [e] at hn ⊢
      by_cases hle : Nat.ble (Nat.add o n) cs.length = true
      · rw [if_pos hle]
        have hle1 : o + n ≤ cs.length := Nat.le_of_ble_eq_true hle
        exact ⟨by rw [hx.1]; exact hle1, ((CReps.drop hx o).take n).append hy⟩
      · rw [if_neg hle] at hn; exact absurd rfl hn
  | byt m d =>
    cases y with
    | no => exact hy.elim
    | map es cl => exact hy.elim
    | cells ds => exact absurd rfl hn
    | byt m' e =>
      have e' : joinO o n (.byt m d) (.byt m' e) = if Nat.ble (Nat.add o n) m then .byt (Nat.add n m') (Nat.add (bCut d o n) (Nat.mul e (p8 n))) else .no := rfl
      rw [e'] at hn ⊢
      by_cases hle : Nat.ble (Nat.add o n) m = true
      · rw [if_pos hle]
        have hle1 : o + n ≤ m := Nat.le_of_ble_eq_true hle
        obtain ⟨hd, rfl⟩ := hx
        obtain ⟨he, rfl⟩ := hy
        refine ⟨by simpa [bytesOf_length] using hle1, append_lt (bCut_lt d o n) he, ?_⟩
        show _ = (bytesOf (n + m') (bCut d o n + e * 256 ^ n)).map _
        rw [bytesOf_append n m' _ e (bCut_lt d o n), bytesOf_cut m d o n hle1]
        simp
      · rw [if_neg hle] at hn; exact absurd rfl hn
end
end
end Go.FM
end

section
namespace Go.FM
noncomputable section
variable [Env]
open Go.AbsM (flat foldl_lay flat_replicate madeCells_flat)
section
variable {Pr : Program} {D : Nat} {w w' : World} {g : Gm} {h h' : HT} {c c' : Nat} {v : HV}
theorem store_ok {t : TypeId} {f : HT → Nat → HV → HV → CR} (hf : storeF Pr D t = .f f) (hi : HOk D g h c w) {x y : HV} {u z : Value} (hx : TRep g c x u) (hy : TRep g c y z) (hr : f h c x y = .ok v h' c') :
    ∃ w' g', (Instr.storeAt t u z).run Pr w = .ok () w' ∧ HOk D g' h' c' w' ∧ Post g (hp D h) c w g' (hp D h') c' w' ∧ v = .und := by
  unfold storeF at hf
  split at hf
  · rename_i n hn
    injection hf with hf; subst hf
    unfold store at hr
    cases x <;> try cases hr
    rename_i k off
    simp only at hr
    obtain ⟨hk, e1⟩ := hx
    subst e1
    have e2 := (putO_some hr).choose_spec.choose_spec.2.2.1
    have key : Eff D g h c w (((Instr.storeAt t (.pointer (some (addrOf g k off))) z).run Pr w).andThen fun _ w' => .ok undef w') v h' c' := by
      refine put_eff hi hk.1 hr (fun pre b ho hno hb => ?_) (show TRep g c .und undef from rfl)
      have q : ∀ vals : List Value, vals = z.cells.toList → z.cells.size = n → (∃ w', (storeCells ⟨(g k).b, (g k).o + off, none⟩ vals).run Pr w = .ok () w' ∧ Chg (g k).b w w' ∧ BOk g c (g k) (storeO n off y b) w') →
          ∃ w', (((Instr.storeAt t (.pointer (some (addrOf g k off))) z).run Pr w).andThen fun _ w' => .ok undef w') = .ok undef w' ∧ Chg (g k).b w w' ∧ BOk g c (g k) (storeO n off y b) w' := by
        rintro vals rfl hzs ⟨w', h1, h2, h3⟩
        refine ⟨w', ?_, h2, h3⟩
        have hsv := Go.AbsM.storeVar_run (P := Pr) (w := w) (t := t) (n := n) (ad := addrOf g k off) (v := z) hn hzs
        have : (Instr.storeAt t (.pointer (some (addrOf g k off))) z).run Pr w = .ok () w' := by
          simp only [Instr.storeAt, Instr.sureAddr, Sem.run_bind, Sem.run_pure, Result.andThen_ok, hsv]
          exact h1
        rw [this]; rfl
      cases b with
      | no => exact absurd rfl hno
      | cells cs =>
        have e : storeO n off y (.cells cs) = if y.cells.length = n ∧ y.cells.all HV.isCell then match layL cs off y.cells with | some ds => .cells ds | none => .no else .no := rfl
        rw [e] at hno ⊢
        by_cases hc : y.cells.length = n ∧ y.cells.all HV.isCell
        · rw [if_pos hc] at hno ⊢
          have hcr := hy.cells hc.2
          have hzs : z.cells.size = n := by
            have := hcr.1
            simp only [Array.length_toList] at this
            rw [this, hc.1]
          cases hl : layL cs off y.cells with
          | none => rw [hl] at hno; exact absurd rfl hno
          | some ds =>
            have e3 : storeO n off y (.cells cs) = .cells ds := by rw [e, if_pos hc, hl]
            have := q _ rfl hzs
            rw [e3] at this
            refine this (write_run rfl hb hcr.ones ?_ fun us hul hus => (layL_ok hus hcr hl).2)
            obtain ⟨us, h1, h2, h3, _⟩ := hb.cells
            have := (layL_len hl).2
            rw [hcr.1, h3]; exact this
        · rw [if_neg hc] at hno; exact absurd rfl hno
      | map es cl => exact absurd rfl hno
      | byt m d =>
        have e : storeO n off y (.byt m d) = match u8Of y with | some b => if Nat.blt off m && Nat.beq n 1 then .byt m (bLay d off 1 b) else .no | none => .no := rfl
        rw [e] at hno ⊢
        cases hb8 : u8Of y with
        | none => rw [hb8] at hno; exact absurd rfl hno
        | some b8 =>
          rw [hb8] at hno
          simp only at hno ⊢
          by_cases hc : (Nat.blt off m && Nat.beq n 1) = true
          · rw [if_pos hc]
            obtain ⟨e4, hlt8⟩ := u8Of_some hb8
            rw [e4] at hy
            have hz : z = .int .u8 (b8 : Int) := hy
            have hc' := hc
            simp only [Bool.and_eq_true] at hc'
            have hn1 := Nat.eq_of_beq_eq_true hc'.2
            have hoff : off < m := Nat.le_of_ble_eq_true hc'.1
            have e3 : storeO n off y (.byt m d) = .byt m (bLay d off 1 b8) := by rw [e, hb8]; simp only; rw [if_pos hc]
            have hzc : z.cells = #[z] := by rw [hz]; rfl
            have := q [z] (by rw [hzc]) (by rw [hzc, hn1]; rfl)
            rw [e3] at this
            obtain ⟨us0, h1, h2, h3, _⟩ := hb.cells
            refine this (write_run rfl hb (by intro u hu; simp at hu; subst hu; rw [hz]; rfl) (by rw [h3]; exact hoff) fun us hul hus => ?_)
            obtain ⟨hd, rfl⟩ := hus
            obtain ⟨q1, q2⟩ := bytesOf_lay m d off 1 b8 (by omega) hd (by simpa using hlt8)
            refine ⟨q1, ?_⟩
            rw [q2]
            have hb1 : bytesOf 1 b8 = [UInt8.ofNat b8] := by rw [bytesOf_succ, bytesOf_zero, Nat.mod_eq_of_lt hlt8]
            rw [hb1, hz]
            simp [toNat_ofNat b8 hlt8, ← List.map_take, ← List.map_drop]
          · rw [if_neg hc] at hno; exact absurd rfl hno
    obtain ⟨zz, w', g', h1, h2, h3, h4⟩ := key
    cases hrr : (Instr.storeAt t (.pointer (some (addrOf g k off))) z).run Pr w with
    | ok a w1 =>
      rw [hrr] at h1
      simp only [Result.andThen_ok, Result.ok.injEq] at h1
      obtain ⟨rfl, rfl⟩ := h1
      exact ⟨w1, g', rfl, h2, h3, e2⟩
    | halt a w1 => rw [hrr] at h1; cases h1
  · cases hf
theorem copy_ok {t ty : TypeId} {rest : List TypeId} {f : HT → Nat → HV → HV → CR} (hf : copyF Pr D t = .f f) (hi : HOk D g h c w) {x y : HV} {u z : Value} (hx : TRep g c x u) (hy : TRep g c y z) (hr : f h c x y = .ok v h' c') :
    Eff D g h c w ((Builtin.copy_ (t :: rest).toArray ty #[u, z]).run Pr w) v h' c' := by
  unfold copyF at hf
  split at hf
  · rename_i e he
    have hu := elemT_some he
    split at hf
    · rename_i es hes
      injection hf with hf; subst hf
      unfold copy at hr
      have hsn : srcOf D es h y ≠ .no := fun e => by rw [e] at hr; cases hr
      obtain ⟨hlen, us, hsr, hfirst⟩ := src_ok hi hy hsn
      have hf0 : (Builtin.firstCells es 0 z).run Pr w = .ok #[] w := by simpa using hfirst w (Ext.refl w) 0 (Nat.zero_le _)
      have zero : ∀ {A : Option Addr} {n m : Nat}, u = .slice A n m → min (srcOf D es h y).len n = 0 → (Builtin.copy_ (t :: rest).toArray ty #[u, z]).run Pr w = .ok (.int .i64 0) w := by
        rintro A n m rfl h0
        exact Go.AbsM.copy_zero hu hes (hlen w) h0 hf0
      have hr2 : (match x with
        | .nils => CR.ok (.int .i64 (.ofNat 0)) h c
        | .slc k o n es' _ =>
          let m := Nat.min (srcOf D es h y).len n
          if Nat.beq m 0 then .ok (.int .i64 (.ofNat 0)) h c else
          if Nat.beq es es' then putO D k (overO o ((cutSrc es m (srcOf D es h y)).obj (isU8 Pr e))) (.int .i64 (.ofNat m)) h c else .x 14
        | _ => .x 14) = .ok v h' c' := by
        cases hq : srcOf D es h y with
        | no => exact absurd hq hsn
        | byt n d => rw [hq] at hr; exact hr
        | cells n cs => rw [hq] at hr; exact hr
      clear hr
      cases x <;> try cases hr2
      · have e1 : u = .slice none 0 0 := hx
        exact Eff.same hi (zero e1 (by simp)) rfl
      · rename_i k o n es' cl
        obtain ⟨hk, A, m, e1, hnm, hmm, hes', hl2, hbs, hfull, hcl, hA⟩ := hx
        simp only at hr2
        have hmin : Nat.min (srcOf D es h y).len n = min (srcOf D es h y).len n := rfl
        rw [hmin] at hr2
        by_cases h0 : Nat.beq (min (srcOf D es h y).len n) 0 = true
        · rw [if_pos h0] at hr2
          cases hr2
          exact Eff.same hi (zero e1 (Nat.eq_of_beq_eq_true h0)) rfl
        · rw [if_neg h0] at hr2
          have h0' : min (srcOf D es h y).len n ≠ 0 := fun e => h0 (by rw [e]; rfl)
          by_cases hbe : Nat.beq es es' = true
          · rw [if_pos hbe] at hr2
            have := Nat.eq_of_beq_eq_true hbe; subst this
            have hml : min (srcOf D es h y).len n ≤ (srcOf D es h y).len := Nat.min_le_left _ _
            have hmn : min (srcOf D es h y).len n ≤ n := Nat.min_le_right _ _
            generalize hM : min (srcOf D es h y).len n = M at *
            have hcut := hsr.cut hml
            refine put_eff hi hk.1 hr2 (fun pre b ho hno hb => ?_) (rfl : TRep g c (.int .i64 (M : Nat)) (.int .i64 (M : Nat)))
            have hobn : (cutSrc es M (srcOf D es h y)).obj (isU8 Pr e) ≠ .no := fun e => by
              rw [e] at hno
              cases b <;> exact hno rfl
            have hbr := hcut.obj hobn
            obtain ⟨us0, h1, h2, h3, _⟩ := hb.cells (overO_plain hno)
            have hov := overO_ok h2 hbr hno
            obtain ⟨w', q1, q2, q3⟩ := write_run (Pr := Pr) (b' := overO o ((cutSrc es M (srcOf D es h y)).obj (isU8 Pr e)) b) (overO_plain hno) hb hcut.ones (by rw [← h1]; exact hov.1) (fun us' hul hus => (overO_ok hus hbr hno).2)
            refine ⟨w', ?_, q2, q3⟩
            subst e1
            rw [hA (by omega)]
            have hfm := hfirst w (Ext.refl w) M hml
            have hmin2 : Nat.min (srcOf D es h y).len n = M := hM
            simp [Builtin.copy_, run_underlying hu, hlen w, sizeT_run hes, hmin2, hfm, addrOf, q1, goInt]
          · rw [if_neg hbe] at hr2; cases hr2
    · cases hf
  · cases hf
theorem clear_ok {t ty : TypeId} {rest : List TypeId} {f : HT → Nat → HV → HV → CR} (hf : clearF Pr D t = .f f) (hi : HOk D g h c w) {x y : HV} {u : Value} (hx : TRep g c x u) (hr : f h c x y = .ok v h' c') :
    Eff D g h c w ((Builtin.clear_ (t :: rest).toArray ty #[u]).run Pr w) v h' c' := by
  unfold clearF at hf
  split at hf
  · rename_i e he
    have hu := elemT_some he
    split at hf
    · rename_i es hes
      split at hf
      · cases hf
      · rename_i hno
        have hes0 : es ≠ 0 := fun e => hno (.inl e)
        have hzl : (zeroT Pr e).cells.length = es := Decidable.byContradiction fun e => hno (.inr e)
        injection hf with hf; subst hf
        unfold clearE at hr
        cases x <;> try cases hr
        · have e1 : u = .slice none 0 0 := hx
          subst e1
          exact Eff.same hi (z := undef) (by simp [Builtin.clear_, run_underlying hu, undef]) rfl
        · rename_i k o n es' cl
          obtain ⟨hk, A, m, e1, hnm, hmm, hes', hl2, hbs, hfull, hcl, hA⟩ := hx
          subst e1
          simp only at hr
          by_cases h0 : Nat.beq n 0 = true
          · rw [if_pos h0] at hr
            cases hr
            have := Nat.eq_of_beq_eq_true h0; subst this
            exact Eff.same hi (z := undef) (by simp [Builtin.clear_, run_underlying hu, undef]) rfl
          · rw [if_neg h0] at hr
            have h0' : n ≠ 0 := fun e => h0 (by rw [e]; rfl)
            refine put_eff hi hk.1 hr (fun pre b ho hno hb => ?_) (rfl : TRep g c .und undef)
            have hobn : repO (isU8 Pr e) n (zeroT Pr e).cells ≠ .no := fun e => by
              rw [e] at hno
              cases b <;> exact hno rfl
            have hzd : zeroT Pr e ≠ .dead := fun hd => by
              rw [hd] at hobn
              cases hq : isU8 Pr e with
              | false => rw [hq] at hobn; exact hobn rfl
              | true => rw [hq] at hobn; exact hobn rfl
            obtain ⟨i, zv, hii, hzv, hez⟩ := zeroT_some hzd
            have hcc := (constV_cells (g := g) (c := c) (v := zv) (by rw [← hez]; exact hzd)).1
            rw [← hez] at hcc
            have hbr := repO_ok (l := n) hcc hobn
            obtain ⟨us0, h1, h2, h3, _⟩ := hb.cells (overO_plain hno)
            have hov := overO_ok h2 hbr hno
            obtain ⟨w', q1, q2, q3⟩ := write_run (Pr := Pr) (b' := overO o (repO (isU8 Pr e) n (zeroT Pr e).cells) b) (overO_plain hno) hb hbr.ones (by rw [← h1]; exact hov.1) (fun us' hul hus => (overO_ok hus hbr hno).2)
            refine ⟨w', ?_, q2, q3⟩
            rw [hA (by omega)]
            have hzr : (zeroValue e).run Pr w = .ok zv w := by simp [zeroValue, typeInfo, hii, hzv]
            have hzp : 0 < zv.cells.size := by
              have h5 := hcc.1
              simp only [Array.length_toList] at h5
              rw [h5, hzl]
              omega
            have hzf : (Builtin.zeroCells zv.cells n).toList = (List.replicate n zv.cells.toList).flatten := by
              rw [Go.AbsM.zeroCells_flat hzp, flat_replicate]
            obtain ⟨n', rfl⟩ : ∃ n', n = n' + 1 := ⟨n - 1, by omega⟩
            simp [Builtin.clear_, run_underlying hu, hzr, hzf, addrOf, q1, undef]
    · cases hf
  · cases hf
theorem appendF_inv {t t2 : TypeId} {f : HT → Nat → HV → HV → CR} (hf : appendF Pr D t t2 = .f f) : Go.AbsM.SrcT Pr t2 ∧ ∃ e i zv, Pr.underlying t = some (.slice e) ∧ Pr.info? e = some i ∧ i.zero = some zv ∧ i.size ≠ 0 ∧ i.bytes ≠ 0 ∧ zv.cells.size = i.size ∧ f = append D (isU8 Pr e) i.size i.bytes := by
  have core : Go.AbsM.SrcT Pr t2 → (match elemT Pr t with
    | some e => match sizeT Pr e, bytesT Pr e, zeroT Pr e with
      | some es, some by_, z => if es = 0 ∨ by_ = 0 ∨ z.cells.length ≠ es ∨ z.cells.all HV.isCell = false then E2.no else .f (append D (isU8 Pr e) es by_)
      | _, _, _ => .no
    | none => .no) = .f f → Go.AbsM.SrcT Pr t2 ∧ ∃ e i zv, Pr.underlying t = some (.slice e) ∧ Pr.info? e = some i ∧ i.zero = some zv ∧ i.size ≠ 0 ∧ i.bytes ≠ 0 ∧ zv.cells.size = i.size ∧ f = append D (isU8 Pr e) i.size i.bytes := by
    intro hs hf
    refine ⟨hs, ?_⟩
    split at hf
    · rename_i e he
      split at hf
      · rename_i es by_ hes hby
        split at hf
        · cases hf
        · rename_i hno
          injection hf with hf; subst hf
          have h1 : es ≠ 0 := fun e => hno (.inl e)
          have h2 : by_ ≠ 0 := fun e => hno (.inr (.inl e))
          have h3 : (zeroT Pr e).cells.length = es := Decidable.byContradiction fun e => hno (.inr (.inr (.inl e)))
          have h4 : (zeroT Pr e).cells.all HV.isCell = true := by
            cases hq : (zeroT Pr e).cells.all HV.isCell with
            | true => rfl
            | false => exact absurd (.inr (.inr (.inr hq))) hno
          have hzd : zeroT Pr e ≠ .dead := fun hd => by rw [hd] at h4; cases h4
          obtain ⟨i, zv, hii, hzv, hez⟩ := zeroT_some hzd
          obtain ⟨i1, hi1, rfl⟩ := Option.map_eq_some_iff.1 hes
          rw [hii] at hi1; cases hi1
          obtain ⟨i2, hi2, rfl⟩ := Option.map_eq_some_iff.1 hby
          rw [hii] at hi2; cases hi2
          have hcc := (constV_cells (g := fun _ => ⟨0, 0, 0, 0⟩) (c := 0) (v := zv) (by rw [← hez]; exact hzd)).1
          rw [← hez] at hcc
          have hzs : zv.cells.size = i.size := by
            have := hcc.1
            simp only [Array.length_toList] at this
            rw [this, h3]
          exact ⟨e, i, zv, elemT_some he, hii, hzv, h1, h2, hzs, rfl⟩
      · cases hf
    · cases hf
  unfold appendF at hf
  split at hf
  · rename_i e2 h2; exact core (.inl ⟨_, h2⟩) hf
  · rename_i h2; exact core (.inr h2) hf
  · cases hf
theorem Chg.of_ext {B : Nat} (hx : Ext w w') : Chg B w w' := ⟨hx.os, hx.tape, hx.out, hx.sz, fun b hb _ => hx.heap b hb⟩
theorem list_join {α : Type} (vs us : List α) (q a : Nat) (h1 : q + a + us.length ≤ vs.length) :
    ((vs.take (q + a) ++ us ++ vs.drop (q + a + us.length)).drop q).take (a + us.length) = (vs.drop q).take a ++ us := by
  apply List.ext_getElem?
  intro j
  rw [List.getElem?_take, List.getElem?_drop, List.append_assoc]
  by_cases h2 : j < a
  · rw [if_pos (by omega), List.getElem?_append_left (by simp; omega), List.getElem?_take, if_pos (by omega), List.getElem?_append_left (by simp; omega), List.getElem?_take, if_pos h2, List.getElem?_drop]
  · have e1 : (vs.take (q + a)).length = q + a := by simp; omega
    have e2 : ((vs.drop q).take a).length = a := by simp; omega
    rw [List.getElem?_append_right (l₁ := vs.take (q + a)) (by omega), List.getElem?_append_right (l₁ := (vs.drop q).take a) (by omega), e1, e2]
    by_cases h3 : j < a + us.length
    · rw [if_pos h3, List.getElem?_append_left (by omega)]
      congr 1; omega
    · rw [if_neg h3]
      symm
      exact List.getElem?_eq_none (by omega)
theorem append_ok {t t2 ty : TypeId} {f : HT → Nat → HV → HV → CR} (hf : appendF Pr D t t2 = .f f) (hi : HOk D g h c w) {x y : HV} {u z : Value} (hx : TRep g c x u) (hy : TRep g c y z) (hr : f h c x y = .ok v h' c') :
    Eff D g h c w ((Builtin.append_ #[t, t2] ty #[u, z]).run Pr w) v h' c' := by
  obtain ⟨hst, e, i, zv, hu, hii, hzv, hes0, hby0, hzs, rfl⟩ := appendF_inv hf
  unfold append at hr
  simp only at hr
  have hsn : srcOf D i.size h y ≠ .no := fun e => by rw [e] at hr; cases hr
  obtain ⟨hlen, us, hsr, hfirst⟩ := src_ok (Pr := Pr) hi hy hsn
  generalize hs : srcOf D i.size h y = s at *
  have hus : us.length = s.len * i.size := hsr.len
  have hfull : us.take (s.len * i.size) = us := List.take_of_length_le (by omega)
  have hf0 : ∀ w', Ext w w' → (Builtin.firstCells i.size s.len z).run Pr w' = .ok us.toArray w' := fun w' hw' => by
    have := hfirst w' hw' s.len (Nat.le_refl _)
    rw [hfull] at this; exact this
  have hobn : s.obj (isU8 Pr e) ≠ .no := fun e => by rw [e] at hr; cases hr
  have hbr := hsr.obj hobn
  have hr2 : (match x with
    | .nils => if Nat.beq s.len 0 then CR.ok .nils h c else if Nat.ble (Nat.mul s.len i.bytes) 140737488355328 then newO D 0 (s.obj (isU8 Pr e)) (.slc c 0 s.len i.size false) h c else .x 9
    | .slc k o n es' cl => if Nat.beq s.len 0 then .ok (.slc k o n es' cl) h c else
      if Nat.beq i.size es' && Nat.ble (Nat.mul (Nat.add n s.len) i.bytes) 140737488355328 then
      match HT.get D k h with
      | .own pre x =>
        if cl then newO D 0 (joinO o (Nat.mul n i.size) x (s.obj (isU8 Pr e))) (.slc c 0 (Nat.add n s.len) i.size false) h c
        else if Nat.beq (Nat.add o (Nat.mul n i.size)) (sizeO x) && Nat.beq o 0 then newO D (Nat.succ k) (joinO o (Nat.mul n i.size) x (s.obj (isU8 Pr e))) (.slc c 0 (Nat.add n s.len) i.size false) (HT.set D k (.sh x) (unpre D pre h)) c
        else if Nat.ble (Nat.add (Nat.add o (Nat.mul n i.size)) (Nat.mul s.len i.size)) (sizeO x) then putO D k (overO (Nat.add o (Nat.mul n i.size)) (s.obj (isU8 Pr e))) (.slc k o (Nat.add n s.len) i.size false) h c
        else .x 11
      | .sh x => if cl then newO D 0 (joinO o (Nat.mul n i.size) x (s.obj (isU8 Pr e))) (.slc c 0 (Nat.add n s.len) i.size false) h c else .x 18
      | .no => .x 11
      else .x 11
    | _ => .x 12) = .ok v h' c' := by
    cases hq : s.obj (isU8 Pr e) with
    | no => exact absurd hq hobn
    | cells cs => rw [hq] at hr; exact hr
    | byt n d => rw [hq] at hr; exact hr
    | map es cl => rw [hq] at hr; exact hr
  clear hr
  have hby : 0 < i.bytes := by omega
  have fresh : ∀ {A : Option Addr} {n m pre : Nat} {olds : List Value} {b : HB}, u = .slice A n m → (Builtin.firstCells i.size n (.slice A n m)).run Pr w.drew = .ok olds.toArray w.drew → olds.length = n * i.size → m < n + s.len → (n + s.len) * i.bytes ≤ 140737488355328 →
      ∃ w' cap, (Builtin.append_ #[t, t2] ty #[u, z]).run Pr w = .ok (.slice (some ⟨w.heap.size, 0, none⟩) (n + s.len) cap) w' ∧ Ext w w' ∧ n + s.len ≤ cap ∧ cap ≤ maxLen ∧
        ∀ {g' : Gm} {c1 : Nat} {b : HB}, BRep g' c1 b (olds ++ us) → BOk g' c1 ⟨w.heap.size, 0, (n + s.len) * i.size, cap * i.size⟩ b w' := by
    rintro A n m pre olds b rfl hfo hol hgr hb
    have hrun := Go.AbsM.append_run_grow (ty := ty) (n := n) (c := m) hu hst hii hzv (hlen w) (hf0 _ (Ext.drew w)) hfo hgr hb hby
    have hge := grownCap_ge w (n + s.len) m e
    have hnm := Go.AbsM.grown_bound (c := m) (e := e) hb hby
    have hgm := grownCap_le_maxLen w (n + s.len) m e hnm
    refine ⟨_, _, hrun, (Ext.drew w).trans (Ext.alloc w.drew _), hge, hgm, fun {g' c1 b} hbb => ?_⟩
    have hzc : (Builtin.zeroCells zv.cells (grownCap w (n + s.len) m e - (n + s.len))).size = (grownCap w (n + s.len) m e - (n + s.len)) * i.size := by
      simp [Builtin.zeroCells, hzs]
    have hall : (olds ++ us ++ (Builtin.zeroCells zv.cells (grownCap w (n + s.len) m e - (n + s.len))).toList).length = grownCap w (n + s.len) m e * i.size := by
      simp only [List.length_append, Array.length_toList, hzc, hol, hus, ← Nat.add_mul]
      congr 1; omega
    refine .inl ⟨olds ++ us ++ (Builtin.zeroCells zv.cells (grownCap w (n + s.len) m e - (n + s.len))).toList, e, ?_, hall, ?_, ?_⟩
    · have := heap_alloc_new w.drew (.cells (olds.toArray ++ us.toArray ++ Builtin.zeroCells zv.cells (grownCap w (n + s.len) m e - (n + s.len))) e)
      have e1 : (olds ++ us ++ (Builtin.zeroCells zv.cells (grownCap w (n + s.len) m e - (n + s.len))).toList).toArray = olds.toArray ++ us.toArray ++ Builtin.zeroCells zv.cells (grownCap w (n + s.len) m e - (n + s.len)) := by
        apply Array.ext'; simp
      rw [e1]; exact this
    · refine ⟨rfl, ?_⟩
      show 0 + (n + s.len) * i.size ≤ _
      have := Nat.mul_le_mul_right i.size hge
      simp only
      omega
    · have hl2 : (olds ++ us).length = (n + s.len) * i.size := by rw [List.length_append, hol, hus, Nat.add_mul]
      simp only [At.row, List.drop_zero]
      rw [List.take_append_of_le_length (by rw [hl2]; exact Nat.le_refl _), List.take_of_length_le (by rw [hl2]; exact Nat.le_refl _)]
      exact hbb
  have hm48 : ∀ q : Nat, Nat.ble (Nat.mul q i.bytes) 140737488355328 = true → q * i.bytes ≤ 140737488355328 := fun q hq => Nat.le_of_ble_eq_true hq
  have us0 : s.len = 0 → us = [] := fun h0 => List.eq_nil_of_length_eq_zero (by rw [hus, h0, Nat.zero_mul])
  cases x <;> try cases hr2
  ·
    have e1 : u = .slice none 0 0 := hx
    simp only at hr2
    by_cases h0 : Nat.beq s.len 0 = true
    · rw [if_pos h0] at hr2
      cases hr2
      have h0' := Nat.eq_of_beq_eq_true h0
      subst e1
      have := Go.AbsM.append_run_room (P := Pr) (A := none) (ty := ty) (n := 0) (c := 0) hu hst hii (hlen w) (hf0 w (Ext.refl w)) (by omega)
      rw [h0'] at this
      exact Eff.same hi (z := .slice none 0 0) (by simpa using this) rfl
    · rw [if_neg h0] at hr2
      have h0' : s.len ≠ 0 := fun e => h0 (by rw [e]; rfl)
      split at hr2
      · rename_i hb
        have hb' := hm48 _ hb
        obtain ⟨w', cap, hrun, hext, hc1, hc2, hbk⟩ := fresh (n := 0) (m := 0) (pre := 0) (olds := []) (b := .no) e1 (by simp [Builtin.firstCells]) (by simp) (by omega) (by rw [Nat.zero_add]; exact hb')
        simp only [Nat.zero_add] at hrun hc1
        have hbr' := BRep.mono (g' := g.new c ⟨w.heap.size, 0, s.len * i.size, cap * i.size⟩) (c' := c + 1) hbr (agree_new g c _) (Nat.le_succ c)
        have hbok := hbk (g' := g.new c ⟨w.heap.size, 0, s.len * i.size, cap * i.size⟩) (c1 := c + 1) (b := s.obj (isU8 Pr e)) (by simpa using hbr')
        simp only [Nat.zero_add] at hbok
        exact new_eff hi hext (Nat.le_refl _) hbok hr2 hrun (slc_fresh (by omega) hc1 hc2)
      · cases hr2
  · rename_i k o n es' cl
    have hx0 := hx
    obtain ⟨hk, A, m, e1, hnm, hmm, hes', hl2, hbs, hfl, hcl, hA⟩ := hx
    simp only at hr2
    have hk4 : k < 4 ^ D := Nat.lt_of_lt_of_le hk.1 hi.le
    by_cases h0 : Nat.beq s.len 0 = true
    · rw [if_pos h0] at hr2
      cases hr2
      have h0' := Nat.eq_of_beq_eq_true h0
      have := Go.AbsM.append_run_room (P := Pr) (A := some A) (ty := ty) (n := n) (c := m) hu hst hii (hlen w) (hf0 w (Ext.refl w)) (by omega)
      rw [us0 h0', h0'] at this
      refine Eff.same hi (z := .slice (some A) n m) ?_ (by rw [← e1]; exact hx0)
      rw [e1]
      simpa [storeCells] using this
    · rw [if_neg h0] at hr2
      have h0' : s.len ≠ 0 := fun e => h0 (by rw [e]; rfl)
      split at hr2
      case isFalse => cases hr2
      rename_i hcond
      simp only [Bool.and_eq_true] at hcond
      have hee := Nat.eq_of_beq_eq_true hcond.1
      subst hee
      have hb48 : (n + s.len) * i.bytes ≤ 140737488355328 := hm48 _ hcond.2
      have olds : ∀ {b : HB}, isMap b = false → BOk g c (g k) b w → ∃ us0 : List Value, us0.length = (g k).len ∧ BRep g c b us0 ∧ (g k).len = sizeO b ∧ (Builtin.firstCells i.size n (.slice (some A) n m)).run Pr w.drew = .ok (((us0.drop o).take (n * i.size)).toArray) w.drew := by
        intro b hm hb
        obtain ⟨us0, q1, q2, q3, q4⟩ := hb.cells hm
        refine ⟨us0, q1, q2, q3, ?_⟩
        by_cases hn0 : n = 0
        · subst hn0
          simp [Builtin.firstCells, loadCells, loadCellsFrom]
        · rw [hA (by omega)]
          refine firstCells_some (by simp; omega) fun j u hj => ?_
          simp only [addrOf]
          rw [Addr.add_lit, Nat.add_assoc]
          rw [List.getElem?_take] at hj
          split at hj
          · rw [List.getElem?_drop] at hj
            exact q4 (o + j) u hj
          · cases hj
      have whole : ∀ {b : HB}, BOk g c (g k) b w → cl = true → newO D 0 (joinO o (Nat.mul n i.size) b (s.obj (isU8 Pr e))) (.slc c 0 (Nat.add n s.len) i.size false) h c = .ok v h' c' → Eff D g h c w ((Builtin.append_ #[t, t2] ty #[u, z]).run Pr w) v h' c' := by
        intro b hb hc hnew
        obtain ⟨_, hbno, _⟩ := newO_some hnew
        obtain ⟨us0, q1, q2, q3, q4⟩ := olds (joinO_plain hbno) hb
        have hmn := hcl hc
        obtain ⟨j1, j2⟩ := joinO_ok q2 hbr hbno
        have hol : ((us0.drop o).take (n * i.size)).length = n * i.size := by simp; omega
        obtain ⟨w', cap, hrun, hext, hc1, hc2, hbk⟩ := fresh (pre := 0) (b := .no) e1 q4 hol (by omega) hb48
        have j3 := BRep.mono (g' := g.new c ⟨w.heap.size, 0, (n + s.len) * i.size, cap * i.size⟩) (c' := c + 1) j2 (agree_new g c _) (Nat.le_succ c)
        exact new_eff hi hext (Nat.le_refl _) (hbk j3) hnew hrun (slc_fresh (by omega) hc1 hc2)
      split at hr2
      ·
        rename_i pre b ho
        have ho' : hp D h k = .own pre b := by rw [hp_lt hk4]; exact ho
        have hbo := hi.inv.own k pre b ho'
        split at hr2
        · rename_i hc; exact whole hbo hc hr2
        · rename_i hc
          have hcf : cl = false := by cases cl with | true => exact absurd rfl hc | false => rfl
          have hfl := hfl hcf
          have hm : isMap b = false := by
            cases hmb : isMap b with
            | false => rfl
            | true =>
              exfalso
              split at hr2
              · obtain ⟨_, hbno, _⟩ := newO_some hr2
                rw [joinO_plain hbno] at hmb; cases hmb
              · split at hr2
                · obtain ⟨pre', b', hob, hno, _⟩ := putO_some hr2
                  rw [ho] at hob
                  simp only [HO.own.injEq] at hob
                  obtain ⟨_, rfl⟩ := hob
                  rw [overO_plain hno] at hmb; cases hmb
                · cases hr2
          obtain ⟨us0, q1, q2, q3, q4⟩ := olds hm hbo
          split at hr2
          ·
            rename_i hend
            simp only [Bool.and_eq_true] at hend
            have ho0 : o = 0 := Nat.eq_of_beq_eq_true hend.2
            have hend : o + n * i.size = sizeO b := Nat.eq_of_beq_eq_true hend.1
            obtain ⟨c1, hbno, rfl, rfl, rfl⟩ := newO_some hr2
            obtain ⟨j1, j2⟩ := joinO_ok q2 hbr hbno
            have hpre : pre = 0 ∨ pre ≤ 4 ^ D := .inr (Nat.le_trans (hi.inv.pre k pre b ho') hi.le)
            obtain ⟨p1, p2⟩ := hp_unpre (D := D) (h := h) (pre := pre) (c := c) hi.deep hpre
            have p3 := hp_set (o := .sh b) p2 hk4
            have p4 := deep_set D k (.sh b) _ p2
            have p5 := hp_set (o := .own (Nat.succ k) (joinO o (Nat.mul n i.size) b (s.obj (isU8 Pr e)))) p4 c1
            have p6 := deep_set D c (.own (Nat.succ k) (joinO o (Nat.mul n i.size) b (s.obj (isU8 Pr e)))) _ p4
            have close : ∀ {w' : World} {a : At} {zz : Value}, (Builtin.append_ #[t, t2] ty #[u, z]).run Pr w = .ok zz w' → Chg (g k).b w w' → (a.b = (g k).b ∨ w.heap.size ≤ a.b) → BOk g c (g k) b w' → BOk (g.new c a) (c + 1) a (joinO o (Nat.mul n i.size) b (s.obj (isU8 Pr e))) w' → TRep (g.new c a) (c + 1) (.slc c 0 (n + s.len) i.size false) zz →
                Eff D g h c w ((Builtin.append_ #[t, t2] ty #[u, z]).run Pr w) (.slc c 0 (Nat.add n s.len) i.size false) (HT.set D c (.own (Nat.succ k) (joinO o (Nat.mul n i.size) b (s.obj (isU8 Pr e)))) (HT.set D k (.sh b) (unpre D pre h))) (c + 1) := by
              intro w' a zz r1 r2 r3 r4 r5 r6
              have hps := Post.grow hi.inv ho' r2 r3 r4 r5
              rw [p3, p1] at p5
              rw [← p5] at hps
              exact ⟨zz, w', _, r1, ⟨p6, c1, hps.inv, hi.kp.post hps⟩, hps, r6⟩
            have j3 := fun a => BRep.mono (g' := g.new c a) (c' := c + 1) j2 (agree_new g c _) (Nat.le_succ c)
            by_cases hroom : n + s.len ≤ m
            ·
              have hAe := hA (by omega)
              subst hAe
              obtain ⟨vs, tt, b1, b2, b3, b4⟩ := hbo.plain hm
              have hmes : (n + s.len) * i.size ≤ m * i.size := Nat.mul_le_mul_right _ hroom
              rw [Nat.add_mul] at hmes
              have hend2 : o + n * i.size = (g k).len := by rw [hend, q3]
              obtain ⟨w', s1, s2, s3⟩ := store_run (Pr := Pr) (p := (g k).o + (o + n * i.size)) b1 hsr.ones (by omega)
              have hrun := Go.AbsM.append_run_room (P := Pr) (A := some (addrOf g k o)) (ty := ty) (n := n) (c := m) hu hst hii (hlen w) (hf0 w (Ext.refl w)) hroom
              simp only [addr_add] at hrun
              have s1' : (storeCells (addrOf g k (o + n * i.size)) us.toArray.toList).run Pr w = .ok () w' := by simpa [addrOf] using s1
              rw [s1'] at hrun
              simp only [Result.andThen_ok] at hrun
              rw [← e1] at hrun
              have hlr : ((vs.take ((g k).o + (o + n * i.size)) ++ us ++ vs.drop ((g k).o + (o + n * i.size) + us.length))).length = (g k).bs := by
                simp only [List.length_append, List.length_take, List.length_drop]; omega
              refine close (a := ⟨(g k).b, (g k).o + o, (n + s.len) * i.size, (g k).bs⟩) hrun s2 (.inl rfl) (.inl ⟨_, tt, s3, hlr, b3, ?_⟩) (.inl ⟨_, tt, s3, hlr, ?_, ?_⟩) ?_
              · have := list_keep vs us (g k).o (g k).len ((g k).o + (o + n * i.size)) (by omega) (by omega)
                simp only [At.row] at b4 ⊢
                rw [this]; exact b4
              · refine ⟨by show (g k).o + o = 0; omega, ?_⟩
                show (g k).o + o + (n + s.len) * i.size ≤ (g k).bs
                rw [Nat.add_mul]; omega
              · have j4 := (joinO_ok b4 hbr hbno).2
                have e5 : (At.mk (g k).b ((g k).o + o) ((n + s.len) * i.size) (g k).bs).row (vs.take ((g k).o + (o + n * i.size)) ++ us ++ vs.drop ((g k).o + (o + n * i.size) + us.length)) = (((g k).row vs).drop o).take (Nat.mul n i.size) ++ us := by
                  have h6 := list_join vs us ((g k).o + o) (n * i.size) (by omega)
                  have e6 : (n + s.len) * i.size = n * i.size + us.length := by rw [Nat.add_mul, hus]
                  have e7 : (g k).o + (o + n * i.size) = (g k).o + o + n * i.size := by omega
                  simp only [At.row]
                  rw [e6, e7, h6]
                  congr 1
                  apply List.ext_getElem?
                  intro j
                  show _ = ((((vs.drop (g k).o).take (g k).len).drop o).take (n * i.size))[j]?
                  rw [List.getElem?_take, List.getElem?_take, List.getElem?_drop, List.getElem?_drop, List.getElem?_take, List.getElem?_drop]
                  by_cases hj : j < n * i.size
                  · rw [if_pos hj, if_pos hj, if_pos (by omega)]
                    congr 1; omega
                  · rw [if_neg hj, if_neg hj]
                rw [e5]
                exact BRep.mono j4 (agree_new g c _) (Nat.le_succ c)
              · refine ⟨nm_new g c _ (by have h1 : (n + s.len) * i.size ≤ m * i.size := Nat.mul_le_mul_right _ hroom; show (g k).o + o + (n + s.len) * i.size ≤ (g k).bs; omega), _, m, rfl, hroom, hmm, hes', ?_, ?_, (fun _ => ?_), (fun hc => by cases hc), fun _ => ?_⟩
                · rw [gnew_self]; simp
                · rw [gnew_self]; show (g k).o + o + 0 + m * i.size ≤ (g k).bs; omega
                · rw [gnew_self]; show (n + s.len) * i.size ≤ 0 + m * i.size; rw [Nat.add_mul]; omega
                · simp [addrOf, gnew_self]
            ·
              have hol : ((us0.drop o).take (n * i.size)).length = n * i.size := by simp; omega
              obtain ⟨w', cap, hrun, hext, hc1, hc2, hbk⟩ := fresh (pre := 0) (b := .no) e1 q4 hol (by omega) hb48
              exact close hrun (Chg.of_ext hext) (.inr (Nat.le_refl _)) (hbo.mono (fun _ _ => rfl) (Nat.le_refl _) (hext.heap _ hbo.lt)) (hbk (j3 _)) (slc_fresh (by omega) hc1 hc2)
          · split at hr2
            ·
              rename_i hne hin
              have hin : o + n * i.size + s.len * i.size ≤ sizeO b := Nat.le_of_ble_eq_true hin
              have hroom : n + s.len ≤ m := by
                have h1 : (n + s.len) * i.size ≤ m * i.size := by rw [Nat.add_mul]; omega
                exact Nat.le_of_mul_le_mul_right h1 hes'
              have hAe := hA (by omega)
              subst hAe
              refine put_eff (z := .slice (some (addrOf g k o)) (n + s.len) m) hi hk.1 hr2 (fun pre' b' hob hno hb => ?_) ?_
              · rw [ho] at hob
                simp only [HO.own.injEq] at hob
                obtain ⟨_, rfl⟩ := hob
                have hov := overO_ok q2 hbr hno
                obtain ⟨w', r1, r2, r3⟩ := write_run (Pr := Pr) (b' := overO (Nat.add o (Nat.mul n i.size)) (s.obj (isU8 Pr e)) b) (overO_plain hno) hb hsr.ones (by rw [← q1]; exact hov.1) (fun us' hul hus => (overO_ok hus hbr hno).2)
                refine ⟨w', ?_, r2, r3⟩
                have hrun := Go.AbsM.append_run_room (P := Pr) (A := some (addrOf g k o)) (ty := ty) (n := n) (c := m) hu hst hii (hlen w) (hf0 w (Ext.refl w)) hroom
                simp only [addr_add] at hrun
                have s1' : (storeCells (addrOf g k (o + n * i.size)) us.toArray.toList).run Pr w = .ok () w' := by simpa [addrOf] using r1
                rw [s1'] at hrun
                simp only [Result.andThen_ok] at hrun
                rw [← e1] at hrun
                exact hrun
              · refine ⟨hk, _, m, rfl, hroom, hmm, hes', ?_, hbs, (fun _ => hfl), (fun hc => by cases hc), fun _ => rfl⟩
                show o + (n + s.len) * i.size ≤ (g k).len
                rw [Nat.add_mul, q3]; omega
            · cases hr2
      ·
        rename_i b ho
        have ho' : hp D h k = .sh b := by rw [hp_lt hk4]; exact ho
        split at hr2
        · rename_i hc; exact whole (hi.inv.sh k b ho') hc hr2
        · cases hr2
      · cases hr2
end
end
end Go.FM
end

section
namespace Go.FM
noncomputable section
variable [Env]
theorem forceN_eq {α : Type} (n : Nat) (k : Nat → α) : forceN n k = k n := by cases n <;> rfl
theorem forceI_eq {α : Type} (n : Int) (k : Int → α) : forceI n k = k n := by
  cases n with
  | ofNat m => show forceN m (fun m => k (.ofNat m)) = _; rw [forceN_eq]
  | negSucc m => show forceN m (fun m => k (.negSucc m)) = _; rw [forceN_eq]
theorem forceB_eq {α : Type} (b : Bool) (k : Bool → α) : forceB b k = k b := by cases b <;> rfl
theorem forceV_eq {v : HV} (x : R) (k : HV → R) (h : v ≠ .dead) : forceV v x k = k v := by
  cases v with
  | dead => exact absurd rfl h
  | int i n => show forceI n (fun n => k (.int i n)) = _; rw [forceI_eq]
  | mp n => show forceN n (fun n => k (.mp n)) = _; rw [forceN_eq]
  | bool b => show forceB b (fun b => k (.bool b)) = _; rw [forceB_eq]
  | str n d => show forceN n (fun n => forceN d fun d => k (.str n d)) = _; rw [forceN_eq, forceN_eq]
  | ptr n d => show forceN n (fun n => forceN d fun d => k (.ptr n d)) = _; rw [forceN_eq, forceN_eq]
  | slc a o n e cl => show forceN a (fun a => forceN o fun o => forceN n fun n => forceN e fun e => forceB cl fun cl => k (.slc a o n e cl)) = _; rw [forceN_eq, forceN_eq, forceN_eq, forceN_eq, forceB_eq]
  | _ => rfl
theorem forceF_eq {α : Type} (f : F) (k : F → α) : forceF f k = k f := by cases f; rfl
def putT (st : P) (v : HV) (t : L) : L := match st with
  | .skip => t
  | _ => v :: t
def putF (st : P) (v : HV) (f : F) : F := match st with
  | .var u => u v f
  | _ => f
theorem put_eq (st : P) (v : HV) (k : K) (t : L) (s : S) : put st v k t s = k (putT st v t) ⟨putF st v s.f, s.h, s.c⟩ := by
  cases st with
  | skip => rfl
  | loc => rfl
  | var u => cases s; exact forceF_eq _ _
theorem fin_some {why : Nat} {st : P} {v : HV} {k : K} {t : L} {s : S} (h : ∀ w, fin why st v k t s ≠ .x w) : v ≠ .dead ∧ fin why st v k t s = k (putT st v t) ⟨putF st v s.f, s.h, s.c⟩ := by
  have hd : v ≠ .dead := fun e => by subst e; exact h why rfl
  refine ⟨hd, ?_⟩
  unfold fin
  rw [forceV_eq _ _ hd, put_eq]
theorem finC_some {st : P} {r : CR} {k : K} {t : L} {s : S} (h : ∀ w, finC st r k t s ≠ .x w) : ∃ v h' c', r = .ok v h' c' ∧ v ≠ .dead ∧ finC st r k t s = k (putT st v t) ⟨putF st v s.f, h', c'⟩ := by
  cases r with
  | x w => exact absurd rfl (h w)
  | ok v h' c' =>
    have e : finC st (.ok v h' c') k t s = forceN c' fun c => forceV v (.x 40) fun v => put st v k t ⟨s.f, h', c⟩ := rfl
    rw [e, forceN_eq] at h
    have hd : v ≠ .dead := fun e => by subst e; exact h 40 rfl
    refine ⟨v, h', c', rfl, hd, ?_⟩
    rw [e, forceN_eq, forceV_eq _ _ hd, put_eq]
theorem evs_eq (gs : List G) (t : L) (f : F) : evs gs t f = gs.map fun g => g.ev t f := by
  induction gs with
  | nil => rfl
  | cons g r ih =>
    show g.ev t f :: evs r t f = _
    rw [ih]; rfl
structure SRel (nt gl : Nat) (reg : List Nat) (g : Gm) (c : Nat) (t : L) (f : F) (a : Act) : Prop where
  size : a.tmps.size = nt
  vars : ∀ x, Nat.testBit gl x = true → TRep g c (fget (rank gl x) f) (a.tmps.getD x undef)
  locs : ∀ x j, idx x reg = some j → TRep g c (lget j t) (a.tmps.getD x undef)
  defers : a.defers = []
def GlOk (nt gl : Nat) : Prop := rank gl nt ≤ 256 ∧ ∀ x, Nat.testBit gl x = true → x < nt
section
variable {Pr : Program} {D : Nat} {w w' : World} {g g' : Gm} {c c' : Nat} {nt gl : Nat} {reg : List Nat} {t : L} {f : F} {s : S} {a : Act}
theorem SRel.mono (hs : SRel nt gl reg g c t f a) (ha : Agree c g g') (hc : c ≤ c') : SRel nt gl reg g' c' t f a :=
  ⟨hs.size, fun x hx => (hs.vars x hx).mono ha hc, fun x j hx => (hs.locs x j hx).mono ha hc, hs.defers⟩
theorem SRel.nil (hs : SRel nt gl reg g c t f a) (t' : L) : SRel nt gl [] g c t' f a :=
  ⟨hs.size, hs.vars, fun x j hx => by simp [idx] at hx, hs.defers⟩
theorem put_tmps (a : Act) (d : Nat) (v : Value) (x : Nat) : (a.put (some d) v).tmps.getD x undef = if x = d ∧ d < a.tmps.size then v else a.tmps.getD x undef := by
  simp only [Act.put, Array.getD_eq_getD_getElem?, Array.getElem?_setIfInBounds]
  by_cases h : d = x
  · subst h
    by_cases hd : d < a.tmps.size
    · simp [hd]
    · simp [hd]
  · simp [h, Ne.symm h]
theorem put_size (a : Act) (d : Option Nat) (v : Value) : (a.put d v).tmps.size = a.tmps.size := by
  cases d <;> simp [Act.put]
theorem idx_cons (x y : Nat) (r : List Nat) : idx x (y :: r) = if y = x then some 0 else (idx x r).map (· + 1) := by
  have e : idx x (y :: r) = (Nat.beq y x).casesOn (match idx x r with | some j => some (j + 1) | none => none) (some 0) := rfl
  rw [e]
  by_cases h : y = x
  · subst h; rw [Nat.beq_refl, if_pos rfl]
  · have : Nat.beq y x = false := by
      cases hb : Nat.beq y x with
      | false => rfl
      | true => exact absurd (Nat.eq_of_beq_eq_true hb) h
    rw [this, if_neg h]
    cases idx x r <;> rfl
theorem SRel.put (hg : GlOk nt gl) (hs : SRel nt gl reg g c t f a) {d : Option Nat} (hd : dstOk nt d = true) {v : HV} {u : Value} (hv : TRep g c v u) :
    SRel nt gl (regOf d reg) g c (putT (dstP gl d) v t) (putF (dstP gl d) v f) (a.put d u) := by
  cases d with
  | none => exact hs
  | some d =>
    have hdn : d < nt := Nat.le_of_ble_eq_true hd
    have hlocs : ∀ x j, idx x (d :: reg) = some j → TRep g c (lget j (v :: t)) ((a.put (some d) u).tmps.getD x undef) := by
      intro x j hx
      rw [idx_cons] at hx
      rw [put_tmps]
      by_cases h : d = x
      · subst h
        rw [if_pos rfl] at hx
        simp only [Option.some.injEq] at hx; subst hx
        rw [if_pos ⟨rfl, by rw [hs.size]; exact hdn⟩]
        exact hv
      · rw [if_neg h] at hx
        obtain ⟨j', hj, rfl⟩ := Option.map_eq_some_iff.1 hx
        rw [if_neg fun e => h e.1.symm]
        exact hs.locs x j' hj
    have other : ∀ x, x ≠ d → (a.put (some d) u).tmps.getD x undef = a.tmps.getD x undef := fun x hx => by rw [put_tmps, if_neg fun e => hx e.1]
    have self : (a.put (some d) u).tmps.getD d undef = u := by rw [put_tmps, if_pos ⟨rfl, by rw [hs.size]; exact hdn⟩]
    cases hb : Nat.testBit gl d with
    | false =>
      have e : dstP gl (some d) = .loc := by
        show (Nat.testBit gl d).casesOn (motive := fun _ => P) .loc (pVar (rank gl d)) = .loc
        rw [hb]
      rw [e]
      refine ⟨by rw [put_size]; exact hs.size, fun x hx => ?_, hlocs, hs.defers⟩
      rw [other x fun e => by subst e; rw [hb] at hx; cases hx]
      exact hs.vars x hx
    | true =>
      obtain ⟨q, hq, hqv⟩ := pVar_eq (rank gl d)
      have e : dstP gl (some d) = .var q := by
        show (Nat.testBit gl d).casesOn (motive := fun _ => P) .loc (pVar (rank gl d)) = .var q
        rw [hb]; exact hq
      rw [e]
      refine ⟨by rw [put_size]; exact hs.size, fun x hx => ?_, hlocs, hs.defers⟩
      show TRep g c (fget (rank gl x) (q v f)) _
      have r1 : rank gl x < 256 := Nat.lt_of_lt_of_le (rank_lt gl (hg.2 x hx) hx) hg.1
      have r2 : rank gl d < 256 := Nat.lt_of_lt_of_le (rank_lt gl hdn hb) hg.1
      rw [hqv, fget_fset r1 r2]
      by_cases h : x = d
      · subst h
        rw [if_pos rfl, self]; exact hv
      · rw [if_neg fun e => h (rank_inj gl hx hb e), other x h]
        exact hs.vars x hx
theorem opnd_ok (hs : SRel nt gl reg g c t f a) (o : Operand) : TRep g c ((opnd gl reg o).ev t f) (a.eval o) := by
  cases o with
  | tmp x =>
    show TRep g c ((opnd gl reg (.tmp x)).ev t f) (a.tmps.getD x undef)
    unfold opnd
    simp only
    cases h : idx x reg with
    | some j => exact hs.locs x j h
    | none =>
      cases hb : Nat.testBit gl x with
      | false => exact trivial
      | true =>
        show TRep g c ((gVar (rank gl x)).ev t f) _
        rw [gVar_ev]
        exact hs.vars x hb
  | const v => exact TRep.of_val (constV_ok v)
  | func fn => exact ⟨fun p hp => by simp at hp, by simp [Act.eval]⟩
  | global n => exact trivial
theorem opnds_ok {ρ : Operand → Value} {l : List Operand} (hs : ∀ x, x ∈ l → TRep g c ((opnd gl reg x).ev t f) (ρ x)) : TReps g c (evs (opnds gl reg l) t f) (l.map ρ) := by
  rw [evs_eq]
  refine ⟨by simp [opnds], fun i x u hx hu => ?_⟩
  simp only [opnds, List.getElem?_map, Option.map_eq_some_iff] at hx hu
  obtain ⟨y, ⟨o, ho, rfl⟩, rfl⟩ := hx
  obtain ⟨o', ho', rfl⟩ := hu
  rw [ho] at ho'
  simp only [Option.some.injEq] at ho'; subst ho'
  exact hs o (List.mem_of_getElem? ho)
theorem optG_ok {ρ : Operand → Value} {o : Option Operand} (hs : ∀ x, o = some x → TRep g c ((opnd gl reg x).ev t f) (ρ x)) : LoRep g c (o.map ρ) ((optG gl reg o).ev t f) := by
  cases o with
  | none => rfl
  | some o => exact hs o rfl
theorem hiG_ok {ρ : Operand → Value} {o : Option Operand} (hs : ∀ x, o = some x → TRep g c ((opnd gl reg x).ev t f) (ρ x)) : HiRep g c o.isSome (o.map ρ) ((optG gl reg o).ev t f) := by
  cases o with
  | none => rfl
  | some o => exact ⟨rfl, hs o rfl⟩
def Opr (gl : Nat) (reg : List Nat) (g : Gm) (c : Nat) (t : L) (f : F) (ρ : Operand → Value) (op : Op) : Prop := ∀ x, x ∈ op.operands → TRep g c ((opnd gl reg x).ev t f) (ρ x)
theorem Opr.get {ρ : Operand → Value} {op op' : Op} (hs : Opr gl reg g c t f ρ op) (ho : op = op') {x : Operand} (hx : x ∈ op'.operands) : TRep g c ((opnd gl reg x).ev t f) (ρ x) := hs x (by rw [ho]; exact hx)
theorem SRel.opr (hs : SRel nt gl reg g c t f a) (op : Op) : Opr gl reg g c t f a.eval op := fun x _ => opnd_ok hs x
def CallT (Pr : Program) (D : Nat) (fn : FuncId) (args : List HV) (h : HT) (c : Nat) (v : HV) (h' : HT) (c' : Nat) : Prop :=
  ∀ (w : World) (g : Gm) (vs : List Value), HOk D g h c w → TReps g c args vs → Calls Pr fn vs.toArray w fun e w' => ∃ u g', e = .returned u ∧ HOk D g' h' c' w' ∧ Post g (hp D h) c w g' (hp D h') c' w' ∧ TRep g' c' v u
def Body (Pr : Program) (fn : FuncId) : Prop := ∃ f cd, Pr.funcs[fn]? = some f ∧ f.body = some cd ∧ (f.name == "runtime.NumGoroutine") = false
def ClOk (Pr : Program) (D : Nat) (cl : Cl) : Prop := ∀ fn args h c v h' c', cl fn args h c = .ok v h' c' → v ≠ .dead → Body Pr fn ∧ CallT Pr D fn args h c v h' c'
def OpW (Pr : Program) (D gl : Nat) (reg : List Nat) (o : Oper) (t : L) (f : F) (h : HT) (c : Nat) (v : HV) (h' : HT) (c' : Nat) : Prop :=
  ∀ (a : Act) (w : World) (g : Gm), Opr gl reg g c t f a.eval o.op → HOk D g h c w → ∀ (next : Act → World → Prop) (Q : Exit → Act → World → Prop),
    (∀ u w' g', HOk D g' h' c' w' → Post g (hp D h) c w g' (hp D h') c' w' → TRep g' c' v u → next (a.put o.dst u) w') → o.wp Pr a w next Q
variable {cl : Cl} {o : Oper} {h h' : HT}
theorem OpW.pure {v : HV} (hok : ∀ (a : Act) (w : World) (g : Gm), Opr gl reg g c t f a.eval o.op → HOk D g h c w → ∃ u, (execOp a.eval o).run Pr w = .ok (.value u) w ∧ TRep g c v u) :
    OpW Pr D gl reg o t f h c v h c := by
  intro a w g hs hi next Q hn
  obtain ⟨u, hr, hv⟩ := hok a w g hs hi
  unfold Oper.wp; rw [hr]
  exact hn _ _ g hi (Post.refl hi.inv) hv
theorem OpW.eff {v : HV} (hok : ∀ (a : Act) (w : World) (g : Gm), Opr gl reg g c t f a.eval o.op → HOk D g h c w → ∃ r : Result Value, Eff D g h c w r v h' c' ∧ ∀ u w', r = .ok u w' → (execOp a.eval o).run Pr w = .ok (.value u) w') :
    OpW Pr D gl reg o t f h c v h' c' := by
  intro a w g hs hi next Q hn
  obtain ⟨r, ⟨u, w', g', h1, h2, h3, h4⟩, h5⟩ := hok a w g hs hi
  unfold Oper.wp; rw [h5 u w' h1]
  exact hn _ _ g' h2 h3 h4
theorem call_run {cc : Call} {fn : FuncId} {cap : Array Value} (ho : o.op = .call cc) (hc : ∃ x, cc.callee = .value x ∧ a.eval x = .func (.func fn) #[] cap) (hf : Body Pr fn) :
    (execOp a.eval o).run Pr w = .ok (.enter fn (cc.args.map a.eval ++ cap)) w := by
  obtain ⟨f1, cd, h1, h2, h3⟩ := hf
  have hp : ∀ as, (callFunc fn as).run Pr w = .ok (.enter fn as) w := fun as => by
    simp only [callFunc, Sem.run_bind, run_program, Result.andThen_ok, h1, h3, h2]
    rfl
  obtain ⟨x, hc, hx⟩ := hc
  simp [execOp, ho, Go.resolve, hc, hx, Deferred.ofValue, invoke, hp]
theorem call_wp {cc : Call} {fn : FuncId} {args : List HV} {v : HV} (ho : o.op = .call cc) (hb : Body Pr fn) (hct : CallT Pr D fn args h c v h' c')
    (hargs : ∀ (a : Act) (g : Gm), Opr gl reg g c t f a.eval o.op → ∃ cap vs, (∃ x, cc.callee = .value x ∧ a.eval x = .func (.func fn) #[] cap) ∧ cc.args.map a.eval ++ cap = vs.toArray ∧ TReps g c args vs) :
    OpW Pr D gl reg o t f h c v h' c' := by
  intro a w g hs hi next Q hn
  obtain ⟨cap, vs, h1, h2, h3⟩ := hargs a g hs
  unfold Oper.wp
  rw [call_run ho h1 hb, h2]
  exact Calls.mono (hct w g vs hi h3) fun e w' ⟨u, g', he, q1, q2, q3⟩ => by
    subst he
    exact hn _ _ g' q1 q2 q3
end
end
end Go.FM
end

section
namespace Go.FM
noncomputable section
variable [Env]
section
variable {Pr : Program} {D : Nat} {w w' : World} {g g' : Gm} {c c' : Nat} {nt gl : Nat} {reg : List Nat} {t : L} {s : S} {a : Act} {cl : Cl} {o : Oper} {k : K}
theorem pickV_ok {x y z : HV} {u v q : Value} (hx : TRep g c x u) (hy : TRep g c y v) (hz : TRep g c z q) (hl : pickV x y z ≠ .dead) : ∃ b, u = .bool b ∧ TRep g c (pickV x y z) (if b then v else q) := by
  cases x <;> try exact absurd rfl hl
  rename_i b
  have e : u = .bool b := hx
  refine ⟨b, e, ?_⟩
  cases b
  · exact hz
  · exact hy
theorem extractV_ok {x : HV} {v : Value} {i : Nat} (hx : TRep g c x v) (hl : extractV i x ≠ .dead) : ∃ u, (Instr.extract v i).run Pr w = .ok u w ∧ TRep g c (extractV i x) u := by
  cases x <;> try exact absurd rfl hl
  rename_i as
  obtain ⟨vs, rfl, h2, h3⟩ := hx
  have h1 := lget_some (show lget i as ≠ .dead from hl)
  have hi : i < vs.length := by rw [h2]; exact (List.getElem?_eq_some_iff.1 h1).1
  have hv : vs[i]? = some vs[i] := List.getElem?_eq_getElem hi
  refine ⟨vs[i], ?_, TRep.of_val (h3 i _ _ h1 hv)⟩
  simp [Instr.extract, hi]
theorem realV_ok {x : HV} {v : Value} (hx : TRep g c x v) (hl : realV x ≠ .dead) (ts : Array TypeId) (ty : TypeId) : ∃ u, (Builtin.real_ ts ty #[v]).run Pr w = .ok u w ∧ TRep g c (realV x) u := by
  cases x <;> try exact absurd rfl hl
  rename_i k a b
  have e : v = .complex k a b := hx
  subst e
  exact ⟨.float k a, rfl, rfl⟩
theorem imagV_ok {x : HV} {v : Value} (hx : TRep g c x v) (hl : imagV x ≠ .dead) (ts : Array TypeId) (ty : TypeId) : ∃ u, (Builtin.imag_ ts ty #[v]).run Pr w = .ok u w ∧ TRep g c (imagV x) u := by
  cases x <;> try exact absurd rfl hl
  rename_i k a b
  have e : v = .complex k a b := hx
  subst e
  exact ⟨.float k b, rfl, rfl⟩
theorem cpxOf_ok {x y : HV} {v u : Value} (hx : TRep g c x v) (hy : TRep g c y u) (hl : cpxOf x y ≠ .dead) (ts : Array TypeId) (ty : TypeId) : ∃ z, (Builtin.complex_ ts ty #[v, u]).run Pr w = .ok z w ∧ TRep g c (cpxOf x y) z := by
  unfold cpxOf at hl ⊢
  split at hl
  · rename_i k a k' b
    split at hl
    · rename_i hk
      subst hk
      have e : v = .float k a := hx
      have e' : u = .float k b := hy
      subst e e'
      refine ⟨.complex k a b, ?_, ?_⟩
      · show (if k = k then pure (.complex k a b) else Go.stuck "complex: parts of different kinds" : Sem Value).run Pr w = _
        rw [if_pos rfl]; rfl
      · rw [if_pos rfl]; exact rfl
    · exact absurd rfl hl
  · exact absurd rfl hl
theorem makeFnF_ok {f : FuncId} {xs : List HV} {vs : List Value} (hx : TReps g c xs vs) (hl : makeFnF f xs ≠ .dead) : TRep g c (makeFnF f xs) (.func (.func f) #[] vs.toArray) := by
  have hall : allPtr xs = true := by
    cases h : allPtr xs with
    | true => rfl
    | false =>
      have : makeFnF f xs = .dead := by
        show (allPtr xs).casesOn (motive := fun _ => HV) .dead (makeFn f xs) = .dead
        rw [h]
      exact absurd this hl
  have e : makeFnF f xs = makeFn f xs := by
    show (allPtr xs).casesOn (motive := fun _ => HV) .dead (makeFn f xs) = _
    rw [hall]
  rw [e]
  clear e hl
  have key : ∀ (xs : List HV) (vs : List Value), TReps g c xs vs → allPtr xs = true → (∀ p : Nat × Nat, p ∈ xs.map (fun v => match v with | .ptr k o => (k, o) | _ => (0, 0)) → Nm g c p.1) ∧ vs = (xs.map (fun v => match v with | .ptr k o => (k, o) | _ => (0, 0))).map fun p : Nat × Nat => Value.pointer (some (addrOf g p.1 p.2)) := by
    intro xs
    induction xs with
    | nil =>
      intro vs hv _
      have : vs = [] := List.length_eq_zero_iff.1 hv.1
      subst this
      exact ⟨fun p hp => by simp at hp, rfl⟩
    | cons x r ih =>
      intro vs hv ha
      cases vs with
      | nil => exact absurd hv.1 (by simp)
      | cons u us =>
        have hr : TReps g c r us := ⟨by simpa using hv.1, fun i x' u' h1 h2 => hv.2 (i + 1) x' u' (by simpa using h1) (by simpa using h2)⟩
        have h0 := hv.2 0 x u rfl rfl
        simp only [allPtr, List.all_cons, Bool.and_eq_true] at ha
        obtain ⟨q1, q2⟩ := ih us hr ha.2
        cases x <;> try cases ha.1
        rename_i k o
        obtain ⟨hk, e⟩ : Nm g c k ∧ u = .pointer (some (addrOf g k o)) := h0
        refine ⟨fun p hp => ?_, ?_⟩
        · simp only [List.map_cons, List.mem_cons] at hp
          rcases hp with rfl | hp
          · exact hk
          · exact q1 p hp
        · simp only [List.map_cons]
          rw [← q2, e]
  obtain ⟨q1, q2⟩ := key xs vs hx hall
  exact ⟨q1, congrArg (fun l => Value.func (.func f) #[] l.toArray) q2⟩
theorem loadF_inv {ty : TypeId} {f : HT → HV → HV} (h : loadF Pr D ty = .f f) : ∃ n b, sizeT Pr ty = some n ∧ aggT Pr ty = some b ∧ f = load D b n := by
  unfold loadF at h
  split at h
  · rename_i n b h1 h2
    injection h with h
    exact ⟨n, b, h1, h2, h.symm⟩
  · cases h
theorem loadF_not {ty : TypeId} {f : HV → HV} (h : loadF Pr D ty = .p f) : False := by
  unfold loadF at h
  split at h <;> cases h
def light (o : FOp) : Bool := match kdF o with
  | .pure => true
  | .read => true
  | _ => false
def OpV (Pr : Program) (D gl : Nat) (reg : List Nat) (o : Oper) (t : L) (f : F) (h : HT) (c : Nat) (v : HV) : Prop :=
  ∀ (a : Act) (w : World) (g : Gm), Opr gl reg g c t f a.eval o.op → HOk D g h c w → ∃ u, (execOp a.eval o).run Pr w = .ok (.value u) w ∧ TRep g c v u
def Good (Pr : Program) (D gl : Nat) (reg : List Nat) (cl : Cl) (o : Oper) (t : L) (s : S) (k : K) (fo : FOp) : Prop :=
  ∃ v h' c', v ≠ .dead ∧ exec cl fo k t s = k (putT (dstP gl o.dst) v t) ⟨putF (dstP gl o.dst) v s.f, h', c'⟩ ∧ OpW Pr D gl reg o t s.f s.h s.c v h' c' ∧ (light fo = true → v = valO fo t s.f s.h ∧ h' = s.h ∧ c' = s.c ∧ OpV Pr D gl reg o t s.f s.h s.c v)
theorem good_pure {fo : FOp} {why : Nat} (he : exec cl fo k t s = fin why (dstP gl o.dst) (valO fo t s.f s.h) k t s) (h : ∀ w, exec cl fo k t s ≠ .x w)
    (hok : valO fo t s.f s.h ≠ .dead → ∀ (a : Act) (w : World) (g : Gm), Opr gl reg g s.c t s.f a.eval o.op → HOk D g s.h s.c w → ∃ u, (execOp a.eval o).run Pr w = .ok (.value u) w ∧ TRep g s.c (valO fo t s.f s.h) u) :
    Good Pr D gl reg cl o t s k fo := by
  rw [he] at h
  obtain ⟨h1, h2⟩ := fin_some h
  exact ⟨_, s.h, s.c, h1, he.trans h2, OpW.pure (hok h1), fun _ => ⟨rfl, rfl, rfl, hok h1⟩⟩
theorem good_eff {fo : FOp} {r : CR} (he : exec cl fo k t s = finC (dstP gl o.dst) r k t s) (hl : light fo = false) (h : ∀ w, exec cl fo k t s ≠ .x w)
    (hok : ∀ v h' c', r = .ok v h' c' → ∀ (a : Act) (w : World) (g : Gm), Opr gl reg g s.c t s.f a.eval o.op → HOk D g s.h s.c w → ∃ r : Result Value, Eff D g s.h s.c w r v h' c' ∧ ∀ u w', r = .ok u w' → (execOp a.eval o).run Pr w = .ok (.value u) w') :
    Good Pr D gl reg cl o t s k fo := by
  rw [he] at h
  obtain ⟨v, h', c', hr, hd', h2⟩ := finC_some h
  exact ⟨v, h', c', hd', he.trans h2, OpW.eff (hok v h' c' hr), fun e => by rw [hl] at e; cases e⟩
theorem v_run {x : Sem Value} {u : Value} {w w' : World} (h : x.run Pr w = .ok u w') : (do pure (Next.value (← x)) : Sem Next).run Pr w = .ok (.value u) w' := by
  simp [h]
theorem convF_ok {src dst : TypeId} {x : HV} {v : Value} {h : HT} (hi : HOk D g h c w) (hx : TRep g c x v) :
    (∀ f, convF Pr D src dst = .p f → f x ≠ .dead → ∃ u, (convert src dst v).run Pr w = .ok u w ∧ TRep g c (f x) u) ∧
    (∀ f, convF Pr D src dst = .f f → f h x ≠ .dead → ∃ u, (convert src dst v).run Pr w = .ok u w ∧ TRep g c (f h x) u) := by
  unfold convF
  split
  · rename_i d0 k h0 h1
    exact ⟨fun f hf hl => by injection hf with hf; subst hf; exact toInt_ok h0 h1 hx hl, fun f hf => by cases hf⟩
  · rename_i d0 k h0 h1
    exact ⟨fun f hf hl => by injection hf with hf; subst hf; exact toFlt_ok h0 h1 hx hl, fun f hf => by cases hf⟩
  · rename_i h0 h1
    exact ⟨fun f hf hl => by injection hf with hf; subst hf; exact idStr_ok h0 h1 hx hl, fun f hf => by cases hf⟩
  · rename_i e h0 h1
    split
    · rename_i he
      refine ⟨fun f hf => by (first | cases hf | (split at hf <;> cases hf)), fun f hf hl => ?_⟩
      injection hf with hf; subst hf
      obtain ⟨u, h2, h3⟩ := toStr_ok (Pr := Pr) hi hx hl
      refine ⟨u, ?_, TRep.of_val h3⟩
      have hu : Pr.underlying e = some (.int .u8) := by
        unfold isU8 at he
        split at he
        · assumption
        · cases he
      unfold toStr at hl
      cases x <;> try exact absurd rfl hl
      · have e1 : v = .slice none 0 0 := hx
        subst e1
        simp [convert, run_underlying h0, run_underlying h1, run_underlying hu, h2]
      · obtain ⟨_, A, m, e1, _⟩ := hx
        subst e1
        simp [convert, run_underlying h0, run_underlying h1, run_underlying hu, h2]
    · exact ⟨fun f hf => (by cases hf), fun f hf => (by cases hf)⟩
  · exact ⟨fun f hf => (by cases hf), fun f hf => (by cases hf)⟩
end
end
end Go.FM
end
