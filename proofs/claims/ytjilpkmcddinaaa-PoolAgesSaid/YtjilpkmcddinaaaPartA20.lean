/-
  Texts of a proof over the translated program: proved evaluators and walks, part 20 of 20.
-/
import Derived.Test.YtjilpkmcddinaaaPartA19
import Derived.ArgAppend
import Derived.Below
import Derived.Carry
import Derived.Deep.RegionHeld3
import Derived.Deep.RegionLawGrows
import Derived.Deep.RegionWith
import Derived.Great.BuildSlice
import Derived.Ground.GgzProg
import Derived.Ground.SlgmProg
import Derived.Handy
import Derived.IntWalk
import Derived.Laws.BitsLemmas
import Derived.Laws.BytesArg
import Derived.Laws.CopyOwn
import Derived.Laws.CopyRow
import Derived.Laws.IdiomStrings
import Derived.Laws.MakeOwn
import Derived.Laws.Rows
import Derived.Lib.Hide
import Derived.Lib.OwnBridge
import Derived.Lib.SlKeysI
import Derived.LoopTactic
import Derived.MapKept
import Derived.Maps.Ext
import Derived.Maps.Own
import Derived.Maps.OwnSet
import Derived.Maps.RangeWalk
import Derived.Maps.Views
import Derived.Orders
import Derived.OwnWalk
import Derived.Scope
import Derived.ScopeJumps
import Derived.Shelf.SlIterI.Nil
import Derived.Shelf.SlIterI.Sorted
import Derived.Shelf.Slices.Delete
import Derived.Shelf.SortM.Plain
import Derived.Shelf.SortM.SortNone
import Derived.Test.YtjilpkmcddinaaaProg
import Derived.WalkKit
import Derived.WalkMore
import Derived.WalkSpells
set_option linter.unusedVariables false
set_option linter.unusedSimpArgs false
set_option linter.unusedSectionVars false
set_option linter.unnecessarySimpa false
section
set_option maxRecDepth 100000
namespace Go.Proofs.Ytjilpkmcddinaaa
open Go.RowKit Go.Maps
def arrOf (S : List Fr) : Array Value := ((List.range 20).map fun j => i64v (pinsOf S j)).toArray
theorem arr_at (S : List Fr) {j : Nat} (h : j < 20) : (arrOf S)[j]? = some (.int .i64 (pinsOf S j : Int)) := by
  unfold arrOf
  rw [List.getElem?_toArray, List.getElem?_map, List.getElem?_range h]
  rfl
theorem arr_set {S T : List Fr} {a y : Nat} (ha : pinsOf T a = y) (h : ∀ j, j ≠ a → pinsOf T j = pinsOf S j) : (arrOf S).setIfInBounds a (.int .i64 (y : Int)) = arrOf T := by
  apply Array.ext_getElem?
  intro j
  rw [Array.getElem?_setIfInBounds]
  have hs : (arrOf S).size = 20 := by simp [arrOf]
  by_cases hj : j < 20
  · rw [arr_at T hj]
    by_cases e : a = j
    · subst e
      rw [if_pos rfl, if_pos (by omega), ha]
    · rw [if_neg e, arr_at S hj, h j (fun q => e q.symm)]
  · have h1 : (arrOf T)[j]? = none := Array.getElem?_eq_none (by simp [arrOf]; omega)
    have h2 : (arrOf S)[j]? = none := Array.getElem?_eq_none (by omega)
    rw [h1]
    split
    · split
      · omega
      · rfl
    · exact h2
end Go.Proofs.Ytjilpkmcddinaaa
end

section
set_option maxRecDepth 100000
namespace Go.Proofs.Ytjilpkmcddinaaa
open Go.RowKit Go.Maps
structure HoldI (Dv : Nat → Nat → World → Prop) (w wr : World) (n kk pb mb b1 b2 xb i : Nat) (S : List Fr) (now : Nat) : Prop where
  pool : PoolI wr pb mb n kk now S
  lens : ∀ f ∈ S, 1 ≤ f.ts.length ∧ f.ts.length ≤ kk
  dv : Dv b1 b2 wr
  n1 : ¬ Own pb mb S b1
  n2 : ¬ Own pb mb S b2
  nx : ¬ Own pb mb S xb
  x1 : xb ≠ b1
  x2 : xb ≠ b2
  arr : wr.heap[xb]? = some (.cells (arrOf S) 55 (0, 0))
  low : ∀ q, Own pb mb S q → w.heap.size ≤ q
  lx : w.heap.size ≤ xb
  l1 : w.heap.size ≤ b1
  l2 : w.heap.size ≤ b2
  now' : now ≤ i
  pin' : ∀ f ∈ S, f.pins ≤ i
  bel : Below w.heap.size w wr
theorem HoldI.step {Dv : Nat → Nat → World → Prop} (hd : Dev Dv) {w wr w' : World} {n kk pb mb b1 b2 xb i : Nat} {S S' : List Fr} {now now' : Nat} (h : HoldI Dv w wr n kk pb mb b1 b2 xb i S now)
    (hp : PoolI w' pb mb n kk now' S') (hl : ∀ f ∈ S', 1 ≤ f.ts.length ∧ f.ts.length ≤ kk) (hdv : Dv b1 b2 w') (hc : Chg wr w' (fun q => Own pb mb S q ∨ q = b1 ∨ q = b2 ∨ q = xb)) (ho : ∀ q, Own pb mb S' q → Own pb mb S q ∨ wr.heap.size ≤ q)
    (ha : w'.heap[xb]? = some (.cells (arrOf S') 55 (0, 0))) (hn : now' ≤ i + 1) (hpn : ∀ f ∈ S', f.pins ≤ i + 1) : HoldI Dv w w' n kk pb mb b1 b2 xb (i + 1) S' now' := by
  have hlt := hd.lt _ _ _ h.dv
  have hx : xb < wr.heap.size := (Array.getElem?_eq_some_iff.1 h.arr).1
  have hsz := h.bel.size
  refine ⟨hp, hl, hdv, fun q => ?_, fun q => ?_, fun q => ?_, h.x1, h.x2, ha, fun q hq => ?_, h.lx, h.l1, h.l2, hn, hpn, ?_⟩
  · rcases ho _ q with q | q
    · exact h.n1 q
    · omega
  · rcases ho _ q with q | q
    · exact h.n2 q
    · omega
  · rcases ho _ q with q | q
    · exact h.nx q
    · omega
  · rcases ho _ hq with q | q
    · exact h.low _ q
    · omega
  · refine h.bel.trans ⟨hc.os, hc.tape, hc.output, hc.size, fun q hq => hc.block q (by omega) ?_⟩
    rintro (e | e | e | e)
    · have := h.low _ e
      omega
    · have := h.l1
      omega
    · have := h.l2
      omega
    · have := h.lx
      omega
theorem HoldI.arrW {Dv : Nat → Nat → World → Prop} {w wr w' : World} {n kk pb mb b1 b2 xb i : Nat} {S : List Fr} {now : Nat} (h : HoldI Dv w wr n kk pb mb b1 b2 xb i S now) (hc : Chg wr w' (fun q => Own pb mb S q ∨ q = b1 ∨ q = b2)) : w'.heap[xb]? = some (.cells (arrOf S) 55 (0, 0)) := by
  refine (hc.block xb (Array.getElem?_eq_some_iff.1 h.arr).1 ?_).trans h.arr
  rintro (e | e | e)
  · exact h.nx e
  · exact h.x1 e
  · exact h.x2 e
theorem HoldI.below {Dv : Nat → Nat → World → Prop} (hd : Dev Dv) {w wr w' : World} {n kk pb mb b1 b2 xb i : Nat} {S : List Fr} {now : Nat} (h : HoldI Dv w wr n kk pb mb b1 b2 xb i S now) (hb : Below wr.heap.size wr w') : HoldI Dv w w' n kk pb mb b1 b2 xb i S now where
  pool := h.pool.below hb
  lens := h.lens
  dv := hd.below h.dv hb
  n1 := h.n1
  n2 := h.n2
  nx := h.nx
  x1 := h.x1
  x2 := h.x2
  arr := (hb.block xb (Array.getElem?_eq_some_iff.1 h.arr).1).trans h.arr
  low := h.low
  lx := h.lx
  l1 := h.l1
  l2 := h.l2
  now' := h.now'
  pin' := h.pin'
  bel := h.bel.trans (hb.mono h.bel.size)
theorem HoldI.pinned {Dv : Nat → Nat → World → Prop} (hd : Dev Dv) {w wr W : World} {n kk pb mb b1 b2 xb i a : Nat} {S S' : List Fr} {now now' : Nat} (h : HoldI Dv w wr n kk pb mb b1 b2 xb i S now)
    (hp : PoolI W pb mb n kk now' S') (hl : ∀ f ∈ S', 1 ≤ f.ts.length ∧ f.ts.length ≤ kk) (hdv : Dv b1 b2 W) (hc : Chg wr W (fun q => Own pb mb S q ∨ q = b1 ∨ q = b2)) (ho : ∀ q, Own pb mb S' q → Own pb mb S q ∨ wr.heap.size ≤ q)
    (hn : now' ≤ i + 1) (hpn : ∀ f ∈ S', f.pins ≤ i + 1) (ha : pinsOf S' a = pinsOf S a + 1) (hoth : ∀ j, j ≠ a → pinsOf S' j = pinsOf S j) (o : Obj) : HoldI Dv w ((W.alloc o).setCell ⟨xb, a, none⟩ (.int .i64 ((pinsOf S a : Int) + 1))) n kk pb mb b1 b2 xb (i + 1) S' now' := by
  have hx : xb < wr.heap.size := (Array.getElem?_eq_some_iff.1 h.arr).1
  have harr := h.arrW hc
  have harr2 : (W.alloc o).heap[xb]? = some (.cells (arrOf S) 55 (0, 0)) := (Below.heap_alloc W o xb (Nat.lt_of_lt_of_le hx hc.size)).trans harr
  have hc2 : Chg W ((W.alloc o).setCell ⟨xb, a, none⟩ (.int .i64 ((pinsOf S a : Int) + 1))) (· = xb) := (Chg.alloc W o _).trans (Chg.setCell _ _ _)
  have hnx : ¬ Own pb mb S' xb := fun q => by
    rcases ho _ q with q | q
    · exact h.nx q
    · omega
  refine h.step hd (hp.stay fun q hq => hc2.block q (hp.lt q hq) (fun e => hnx (e ▸ hq))) hl (hd.chg hdv hc2 h.x1.symm h.x2.symm) ((hc.mono fun q h => h.imp id (fun h => h.imp id .inl)).trans (hc2.mono fun q e => .inr (.inr (.inr e)))) ho ?_ hn hpn
  rw [← arr_set (S := S) (T := S') (a := a) (y := pinsOf S a + 1) ha hoth]
  exact heap_setCell_same (W.alloc o) xb a _ 55 _ harr2
structure PinG (Dv : Nat → Nat → World → Prop) (w wr W : World) (n kk pb mb b1 b2 xb i a : Nat) (S S' : List Fr) (now' : Nat) (v : Value) : Prop where
  nxt : ∀ o, HoldI Dv w ((W.alloc o).setCell ⟨xb, a, none⟩ (.int .i64 ((pinsOf S a : Int) + 1))) n kk pb mb b1 b2 xb (i + 1) S' now'
  arr : W.heap[xb]? = some (.cells (arrOf S) 55 (0, 0))
  row : ∃ g c, v = .slice (some ⟨g, 0, none⟩) 1 c ∧ W.cell? ⟨g, 0, none⟩ = some (.int .u8 (a : Int))
  cnt : ¬ (cntTo S 20 = n ∧ pinsOf S a = 0)
  lt : pinsOf S a ≤ i
theorem HoldI.up {Dv : Nat → Nat → World → Prop} {w wr : World} {n kk pb mb b1 b2 xb i : Nat} {S : List Fr} {now : Nat} (h : HoldI Dv w wr n kk pb mb b1 b2 xb i S now) : HoldI Dv w wr n kk pb mb b1 b2 xb (i + 1) S now :=
  ⟨h.pool, h.lens, h.dv, h.n1, h.n2, h.nx, h.x1, h.x2, h.arr, h.low, h.lx, h.l1, h.l2, Nat.le_succ_of_le h.now', fun f hf => Nat.le_succ_of_le (h.pin' f hf), h.bel⟩
def intO (v : Value) : Int := match v with | .int _ q => q | _ => 0
end Go.Proofs.Ytjilpkmcddinaaa
end

section
namespace Go.Proofs.Ytjilpkmcddinaaa
structure AgeS (S : List Fr) (order : List Nat) (now : Nat) : Prop where
  ex : ∃ T, S.Perm T ∧ T.map Fr.a = order ∧ T.Pairwise fun f g => f.lst < g.lst
  one : ∀ f ∈ S, f.ts = [f.lst]
  pin0 : ∀ f ∈ S, f.pins = 0
  now' : ∀ f ∈ S, f.lst ≤ now
theorem lst1 {f : Fr} {t : Nat} (h : f.ts = [t]) : f.lst = t := by unfold Fr.lst; rw [h]; rfl
theorem kth1 {f : Fr} {t : Nat} (h : f.ts = [t]) : f.kth 1 = t := by unfold Fr.kth; rw [h]; rfl
theorem AgeS.start : AgeS [] [] 0 := ⟨⟨[], List.Perm.refl _, rfl, List.Pairwise.nil⟩, fun f h => by simp at h, fun f h => by simp at h, fun f h => by simp at h⟩
theorem AgeS.hit {S T0 : List Fr} {order : List Nat} {now : Nat} {f f' : Fr} (h : AgeS S order now) (hap : S.Pairwise fun f g => f.a ≠ g.a) (hp : S.Perm (f :: T0)) (ha : f'.a = f.a) (h0 : f'.pins = 0) (ht : f'.ts = [now + 1]) :
    AgeS (f' :: T0) (order.filter (fun q => decide (q ≠ f.a)) ++ [f.a]) (now + 1) := by
  obtain ⟨T, p1, p2, p3⟩ := h.ex
  have hl := lst1 ht
  have hT0 : ∀ g ∈ T0, g ∈ S := fun g hg => hp.mem_iff.2 (by simp [hg])
  have hap2 := (hp.pairwise_iff (fun {f g} h => Ne.symm h)).1 hap
  have hne := (List.pairwise_cons.1 hap2).1
  have hfil : T0.Perm (T.filter fun g => decide (g.a ≠ f.a)) := by
    have q1 := (p1.symm.trans hp).filter (fun g => decide (g.a ≠ f.a))
    have q2 : (f :: T0).filter (fun g => decide (g.a ≠ f.a)) = T0 := by
      rw [List.filter_cons, if_neg (by simp)]
      exact List.filter_eq_self.2 (fun g hg => by simpa using (hne g hg).symm)
    rw [q2] at q1
    exact q1.symm
  refine ⟨⟨T.filter (fun g => decide (g.a ≠ f.a)) ++ [f'], ?_, ?_, ?_⟩, ?_, ?_, ?_⟩
  · exact ((List.Perm.cons f' hfil).trans (List.perm_append_singleton f' _).symm)
  · rw [List.map_append, List.map_cons, List.map_nil, ha, ← p2, List.filter_map]
    rfl
  · refine List.pairwise_append.2 ⟨List.Pairwise.sublist List.filter_sublist p3, List.pairwise_singleton _ _, fun g hg q hq => ?_⟩
    simp only [List.mem_singleton] at hq
    subst hq
    have := h.now' g (p1.mem_iff.2 (List.mem_filter.1 hg).1)
    omega
  · intro g hg
    rcases List.mem_cons.1 hg with rfl | hg
    · rw [hl]; exact ht
    · exact h.one g (hT0 g hg)
  · intro g hg
    rcases List.mem_cons.1 hg with rfl | hg
    · exact h0
    · exact h.pin0 g (hT0 g hg)
  · intro g hg
    rcases List.mem_cons.1 hg with rfl | hg
    · omega
    · exact Nat.le_succ_of_le (h.now' g (hT0 g hg))
theorem AgeS.came {n : Nat} {S T0 : List Fr} {order : List Nat} {now : Nat} {f' : Fr} (h : AgeS S order now) (hap : S.Pairwise fun f g => f.a ≠ g.a) (hg : Gone n 1 S T0) (hno : ∀ g ∈ S, g.a ≠ f'.a) (h0 : f'.pins = 0) (ht : f'.ts = [now + 1]) :
    AgeS (f' :: T0) ((if order.length = n then order.tail else order) ++ [f'.a]) (now + 1) := by
  obtain ⟨T, p1, p2, p3⟩ := h.ex
  have hl := lst1 ht
  have hlen : order.length = S.length := by rw [← p2, List.length_map, p1.length_eq]
  obtain ⟨U, hU1, hU2, hU3⟩ : ∃ U, T0.Perm U ∧ U.map Fr.a = (if order.length = n then order.tail else order) ∧ U.Sublist T := by
    rcases hg with ⟨q1, rfl⟩ | ⟨q1, g, p, g0, hmin⟩
    · refine ⟨T, p1, ?_, List.Sublist.refl _⟩
      rw [if_neg (by omega), p2]
    · rw [if_pos (by omega)]
      cases T with
      | nil =>
        have := p1.symm.trans p
        exact absurd (List.nil_perm.1 this) (by simp)
      | cons x r =>
        have hx : x ∈ S := p1.mem_iff.2 (by simp)
        have hgS : g ∈ S := p.mem_iff.2 (by simp)
        have hgx : g = x := by
          rcases List.mem_cons.1 (p1.mem_iff.1 hgS) with e | e
          · exact e
          · have h1 := (List.pairwise_cons.1 p3).1 g e
            have h2 := hmin x hx (h.pin0 x hx)
            unfold elderB at h2
            rw [kth1 (h.one x hx), kth1 (h.one g hgS)] at h2
            rw [if_pos (by omega)] at h2
            simp at h2
            omega
        subst hgx
        refine ⟨r, List.Perm.cons_inv (p.symm.trans p1), ?_, List.sublist_cons_self _ _⟩
        rw [← p2]
        rfl
  have hT0 : ∀ g ∈ T0, g ∈ S := fun g hg' => p1.mem_iff.2 (hU3.subset (hU1.mem_iff.1 hg'))
  refine ⟨⟨U ++ [f'], ?_, ?_, ?_⟩, ?_, ?_, ?_⟩
  · exact ((List.Perm.cons f' hU1).trans (List.perm_append_singleton f' _).symm)
  · rw [List.map_append, hU2]
    rfl
  · refine List.pairwise_append.2 ⟨List.Pairwise.sublist hU3 p3, List.pairwise_singleton _ _, fun g hg' q hq => ?_⟩
    simp only [List.mem_singleton] at hq
    subst hq
    have := h.now' g (p1.mem_iff.2 (hU3.subset hg'))
    omega
  · intro g hg'
    rcases List.mem_cons.1 hg' with rfl | hg'
    · rw [hl]; exact ht
    · exact h.one g (hT0 g hg')
  · intro g hg'
    rcases List.mem_cons.1 hg' with rfl | hg'
    · exact h0
    · exact h.pin0 g (hT0 g hg')
  · intro g hg'
    rcases List.mem_cons.1 hg' with rfl | hg'
    · omega
    · exact Nat.le_succ_of_le (h.now' g (hT0 g hg'))
end Go.Proofs.Ytjilpkmcddinaaa
end

section
set_option maxRecDepth 100000
namespace Go.Proofs.Ytjilpkmcddinaaa
open Go.RowKit Go.Maps
structure AgeI (Dv : Nat → Nat → World → Prop) (w wr : World) (n pb mb b1 b2 i : Nat) (S : List Fr) (order : List Nat) (now : Nat) : Prop where
  pool : PoolI wr pb mb n 1 now S
  age : AgeS S order now
  dv : Dv b1 b2 wr
  n1 : ¬ Own pb mb S b1
  n2 : ¬ Own pb mb S b2
  low : ∀ q, Own pb mb S q → w.heap.size ≤ q
  l1 : w.heap.size ≤ b1
  l2 : w.heap.size ≤ b2
  now' : now ≤ i
  bel : Below w.heap.size w wr
def nextO (n : Nat) (order : List Nat) (a : Nat) : List Nat := (if a ∉ order ∧ (order.filter fun q => decide (q ≠ a)).length = n then (order.filter fun q => decide (q ≠ a)).tail else order.filter fun q => decide (q ≠ a)) ++ [a]
structure AgeP (Dv : Nat → Nat → World → Prop) (wr W : World) (n pb mb b1 b2 a : Nat) (S : List Fr) (order : List Nat) (now : Nat) (f : Fr) (T : List Fr) : Prop where
  pool : PoolI W pb mb n 1 (now + 1) (f :: T)
  fa : f.a = a
  fp : f.pins = 1
  dv : Dv b1 b2 W
  ch : Chg wr W (fun q => Own pb mb S q ∨ q = b1 ∨ q = b2)
  own : ∀ q, Own pb mb (f :: T) q → Own pb mb S q ∨ wr.heap.size ≤ q
  age : AgeS ({ f with pins := 0 } :: T) (nextO n order a) (now + 1)
theorem push1 (t : Nat) : pushT 1 [] t = [t] := rfl
theorem push2 (s t : Nat) : pushT 1 [s] t = [t] := rfl
theorem Try.agePin {Dv : Nat → Nat → World → Prop} (hd : Dev Dv) {w wr : World} {n pb mb b1 b2 i a : Nat} {S : List Fr} {order : List Nat} {now : Nat} (h : AgeI Dv w wr n pb mb b1 b2 i S order now) (ha1 : 2 ≤ a) (ha2 : a < 18) (hi : i ≤ 80) :
    Calls Try.prog 11 #[.pointer (some ⟨pb, 0, none⟩), .pointer (some ⟨b1, 0, none⟩), .agg #[.int .i64 (a : Int), .int .i64 1]] wr fun e W =>
      ∃ (v : Value) (f : Fr) (T : List Fr), e = .returned (.tuple #[v, .bool (decide (a ∈ order)), .int .i64 0]) ∧ AgeP Dv wr W n pb mb b1 b2 a S order now f T := by
  have hap : S.Pairwise fun f g => f.a ≠ g.a := h.pool.apart.imp fun h => h.1
  have hnow := h.now'
  have hf1 := h.pool.f1
  have hmem : ∀ q, q ∈ order ↔ ∃ f ∈ S, f.a = q := fun q => by
    obtain ⟨T, p1, p2, _⟩ := h.age.ex
    rw [← p2, List.mem_map]
    constructor
    · rintro ⟨f, hf, e⟩; exact ⟨f, p1.mem_iff.2 hf, e⟩
    · rintro ⟨f, hf, e⟩; exact ⟨f, p1.mem_iff.1 hf, e⟩
  rcases find_mem' (S := S) (a := a) with ⟨f, hf, hfa, hfp⟩ | ⟨hno, hp0⟩
  · subst hfa
    obtain ⟨T, hper⟩ : ∃ T, S.Perm (f :: T) := by
      obtain ⟨s, t, e⟩ := List.append_of_mem hf
      exact ⟨s ++ t, by rw [e]; exact List.perm_middle⟩
    have hin : f.a ∈ order := (hmem _).2 ⟨f, hf, rfl⟩
    have h0 := h.age.pin0 f hf
    have h1 := h.age.one f hf
    refine (Try.pinHit (h.pool.perm hper) (by rw [h1]; exact Nat.le_refl _) (by omega) (by omega)).mono ?_
    rintro e W ⟨f', v, rfl, hfa', hfp', hft', hp', hrow, hbl, hc⟩
    have hos : ∀ q, Own pb mb (f :: T) q → Own pb mb S q := fun q h => h.perm hper.symm
    rw [h1, push2] at hft'
    refine ⟨v, f', T, by rw [decide_eq_true hin], hp', hfa', by omega, hd.chg h.dv hc (fun q => h.n1 (hos _ q)) (fun q => h.n2 (hos _ q)), hc.mono fun q h => .inl (hos q h), fun q hq => ?_, ?_⟩
    · rcases hq with hq | hq | ⟨g, hg, hq⟩
      · exact .inl (.inl hq)
      · exact .inl (.inr (.inl hq))
      · rcases List.mem_cons.1 hg with rfl | hg
        · rcases hbl q hq with h1 | h1
          · exact .inl (hos q (.inr (.inr ⟨f, by simp, h1⟩)))
          · exact .inr h1
        · exact .inl (hos q (.inr (.inr ⟨g, by simp [hg], hq⟩)))
    · have := h.age.hit (f := f) (f' := { f' with pins := 0 }) hap hper hfa' rfl hft'
      unfold nextO
      rw [if_neg (fun q => q.1 hin)]
      exact this
  · have hnin : a ∉ order := fun q => by
      obtain ⟨f, hf, e⟩ := (hmem a).1 q
      exact hno f hf e
    refine (Try.pinMiss hd h.pool h.dv ha1 ha2 hno (fun f hf => by rw [h.age.one f hf]; exact Nat.le_refl _) h.n1 h.n2 (by omega)).mono ?_
    rintro e W (⟨hfull, hall, rfl, hb⟩ | ⟨f, T, w1, ⟨hfa, hfp, hft, hfr, hdv1, hch, hgone, hp1⟩, f', v, rfl, hfa', hfp', hft', hp', hrow, hbl, hc⟩)
    · exfalso
      cases S with
      | nil => simp at hfull; omega
      | cons x r =>
        have := hall x (by simp)
        have := h.age.pin0 x (by simp)
        omega
    · have hT : ∀ g ∈ T, g ∈ S := fun g hg => by
        rcases hgone with ⟨_, rfl⟩ | ⟨_, q, hper, _⟩
        · exact hg
        · exact hper.mem_iff.2 (by simp [hg])
      have hdl := hd.lt _ _ _ h.dv
      have hos : ∀ q, q < wr.heap.size → Own pb mb (f :: T) q → Own pb mb S q := fun q hq hh => by
        rcases hh with hh | hh | ⟨g, hg, hh⟩
        · exact .inl hh
        · exact .inr (.inl hh)
        · rcases List.mem_cons.1 hg with rfl | hg
          · have := hfr q hh
            omega
          · exact .inr (.inr ⟨g, hT g hg, hh⟩)
      rw [hft, push1] at hft'
      refine ⟨v, f', T, by rw [decide_eq_false hnin], hp', hfa'.trans hfa, by omega, hd.chg hdv1 hc (fun q => h.n1 (hos _ hdl.1 q)) (fun q => h.n2 (hos _ hdl.2 q)), hch.trans' hc (fun q hq hh => .inl (hos q hq hh)), fun q hq => ?_, ?_⟩
      · rcases hq with hq | hq | ⟨g, hg, hq⟩
        · exact .inl (.inl hq)
        · exact .inl (.inr (.inl hq))
        · rcases List.mem_cons.1 hg with rfl | hg
          · rcases hbl q hq with h1 | h1
            · exact .inr (hfr q h1)
            · have := hch.size
              exact .inr (by omega)
          · exact .inl (.inr (.inr ⟨g, hT g hg, hq⟩))
      · have hfil : (order.filter fun q => decide (q ≠ a)) = order := List.filter_eq_self.2 (fun q hq => decide_eq_true (fun e => hnin (by rw [← e]; exact hq)))
        have := h.age.came (f' := { f' with pins := 0 }) hap hgone (fun g hg => by rw [show Fr.a { f' with pins := 0 } = a from hfa'.trans hfa]; exact hno g hg) rfl hft'
        unfold nextO
        rw [hfil]
        rw [show ([Fr.a { f' with pins := 0 }] : List Nat) = [a] from by rw [show Fr.a { f' with pins := 0 } = a from hfa'.trans hfa]] at this
        by_cases hl : order.length = n
        · rw [if_pos ⟨hnin, hl⟩]; rw [if_pos hl] at this; exact this
        · rw [if_neg (fun q => hl q.2)]; rw [if_neg hl] at this; exact this
end Go.Proofs.Ytjilpkmcddinaaa
end

section
set_option maxRecDepth 100000
namespace Go.Proofs.Ytjilpkmcddinaaa
open Go.RowKit Go.Maps
def NI (w : World) (A : Option Addr) (L : List Nat) : Prop := ∀ (j x : Nat), L[j]? = some x → ∃ g, A = some ⟨g, 0, none⟩ ∧ w.cell? ⟨g, j, none⟩ = some (.int .i64 (x : Int))
theorem NI.below {w w' : World} {A : Option Addr} {L : List Nat} (h : NI w A L) (hb : Below w.heap.size w w') : NI w' A L := fun j x hj => by
  obtain ⟨g, e, hc⟩ := h j x hj
  exact ⟨g, e, cellB hc hb⟩
theorem Try.ints {w : World} {A B : Option Addr} {c1 c2 n : Nat} {L : List Nat} (hn : L.length = n) (hn2 : n ≤ 1000) (h1 : NI w A L) (h2 : NI w B L) : Calls Try.prog 19 #[.slice A n c1, .slice B n c2] w fun e w' => e = .returned (.bool true) ∧ Below w.heap.size w w' := by
  have H1 := Lib.hid h1
  have H2 := Lib.hid h2
  have HN := Lib.hid hn
  clear h1 h2 hn
  go_enter Try.func19, Try.ntmps19
  go_wp2_with fail
  go_loopw [5] (fun t5 V => ∃ j : Nat, j ≤ n ∧ t5 = .int .i64 j ∧ Hid (Below w.heap.size w V)) (fun t5 _ => n - (intO t5).toNat)
  case atStart => exact ⟨0, Nat.zero_le _, rfl, Lib.hid (Below.refl _ _)⟩
  case round =>
    rename World => V
    obtain ⟨j, hj, rfl, HB⟩ := hrel
    by_cases hlt : j < n
    · have t1 : decide ((j : Int) < n) = true := decide_eq_true (by omega)
      have t2 : decide (j < n) = true := decide_eq_true hlt
      obtain ⟨x, hx⟩ : ∃ x, L[j]? = some x := ⟨_, List.getElem?_eq_getElem (by rw [HN.out]; exact hlt)⟩
      obtain ⟨g1, e1, k1⟩ := (H1.out.below HB.out) j x hx
      obtain ⟨g2, e2, k2⟩ := (H2.out.below HB.out) j x hx
      subst e1
      subst e2
      clear hx
      have z1 : (j : Int) < n := by omega
      go_upto_region 6 with fail
      refine wp_region_noPanic ?_
      refine wp_region_held_drew (S := (fun W => W.cell? ⟨g1, j, none⟩ = some (.int .i64 (x : Int)) ∧ W.cell? ⟨g2, j, none⟩ = some (.int .i64 (x : Int)))) (by kernel_rfl) ?_ (fun hHeld => ?_)
      · exact ⟨k1, k2⟩
      refine wpAnyH_take (i := 0) (oi := { dst := some 17, op := Op.move (Operand.tmp 0), type := 50, pos := "law.go:37", after := #[], guard := none }) (v := ?_) rfl (by kernel_rfl) (by kernel_rfl) (by kernel_rfl) (fun _ _ _ h => h) (Or.inl ⟨by rfl, ?_⟩) (by assumption) ?_
      rotate_left
      · (intro w hSw; (try dsimp only at hSw); go_simp; try with_reducible rfl)
      try simp only [Act.put, List.setIfInBounds_toArray, List.set_cons_zero, List.set_cons_succ]
      refine wpAnyH_take (i := 1) (oi := { dst := some 18, op := Op.move (Operand.tmp 5), type := 3, pos := "law.go:37", after := #[], guard := none }) (v := ?_) rfl (by kernel_rfl) (by kernel_rfl) (by kernel_rfl) (fun _ _ _ h => h) (Or.inl ⟨by rfl, ?_⟩) (by assumption) ?_
      rotate_left
      · (intro w hSw; (try dsimp only at hSw); go_simp; try with_reducible rfl)
      try simp only [Act.put, List.setIfInBounds_toArray, List.set_cons_zero, List.set_cons_succ]
      refine wpAnyH_take (i := 2) (oi := { dst := some 19, op := Op.indexAddr 50 (Operand.tmp 17) (Operand.tmp 18), type := 0, pos := "law.go:37", after := #[{ on := 0, ground := Ground.data }, { on := 1, ground := Ground.data }], guard := none }) (v := ?_) rfl (by kernel_rfl) (by kernel_rfl) (by kernel_rfl) (fun _ _ _ h => h) (Or.inl ⟨by rfl, ?_⟩) (by assumption) ?_
      rotate_left
      · (intro w hSw; (try dsimp only at hSw); go_simp; try with_reducible rfl)
      try simp only [Act.put, List.setIfInBounds_toArray, List.set_cons_zero, List.set_cons_succ]
      refine wpAnyH_take (i := 3) (oi := { dst := some 20, op := Op.load 3 (Operand.tmp 19), type := 3, pos := "law.go:37", after := #[{ on := 2, ground := Ground.data }], guard := none }) (v := ?_) rfl (by kernel_rfl) (by kernel_rfl) (by kernel_rfl) (fun _ _ _ h => h) (Or.inl ⟨by rfl, ?_⟩) (by assumption) ?_
      rotate_left
      · (intro w hSw; (try dsimp only at hSw); go_simp; try with_reducible rfl)
      try simp only [Act.put, List.setIfInBounds_toArray, List.set_cons_zero, List.set_cons_succ]
      refine wpAnyH_take (i := 4) (oi := { dst := some 21, op := Op.move (Operand.tmp 1), type := 50, pos := "law.go:37", after := #[], guard := none }) (v := ?_) rfl (by kernel_rfl) (by kernel_rfl) (by kernel_rfl) (fun _ _ _ h => h) (Or.inl ⟨by rfl, ?_⟩) (by assumption) ?_
      rotate_left
      · (intro w hSw; (try dsimp only at hSw); go_simp; try with_reducible rfl)
      try simp only [Act.put, List.setIfInBounds_toArray, List.set_cons_zero, List.set_cons_succ]
      refine wpAnyH_take (i := 5) (oi := { dst := some 22, op := Op.move (Operand.tmp 5), type := 3, pos := "law.go:37", after := #[], guard := none }) (v := ?_) rfl (by kernel_rfl) (by kernel_rfl) (by kernel_rfl) (fun _ _ _ h => h) (Or.inl ⟨by rfl, ?_⟩) (by assumption) ?_
      rotate_left
      · (intro w hSw; (try dsimp only at hSw); go_simp; try with_reducible rfl)
      try simp only [Act.put, List.setIfInBounds_toArray, List.set_cons_zero, List.set_cons_succ]
      refine wpAnyH_take (i := 6) (oi := { dst := some 23, op := Op.indexAddr 50 (Operand.tmp 21) (Operand.tmp 22), type := 0, pos := "law.go:37", after := #[{ on := 4, ground := Ground.data }, { on := 5, ground := Ground.data }], guard := none }) (v := ?_) rfl (by kernel_rfl) (by kernel_rfl) (by kernel_rfl) (fun _ _ _ h => h) (Or.inl ⟨by rfl, ?_⟩) (by assumption) ?_
      rotate_left
      · (intro w hSw; (try dsimp only at hSw); go_simp; try with_reducible rfl)
      try simp only [Act.put, List.setIfInBounds_toArray, List.set_cons_zero, List.set_cons_succ]
      refine wpAnyH_take (i := 7) (oi := { dst := some 24, op := Op.load 3 (Operand.tmp 23), type := 3, pos := "law.go:37", after := #[{ on := 6, ground := Ground.data }], guard := none }) (v := ?_) rfl (by kernel_rfl) (by kernel_rfl) (by kernel_rfl) (fun _ _ _ h => h) (Or.inl ⟨by rfl, ?_⟩) (by assumption) ?_
      rotate_left
      · (intro w hSw; (try dsimp only at hSw); go_simp; try with_reducible rfl)
      try simp only [Act.put, List.setIfInBounds_toArray, List.set_cons_zero, List.set_cons_succ]
      refine wpAnyH_take (i := 8) (oi := { dst := some 25, op := Op.binOp BinOp.neq 3 (Operand.tmp 20) (Operand.tmp 24) 3, type := 4, pos := "law.go:37", after := #[{ on := 3, ground := Ground.data }, { on := 7, ground := Ground.data }], guard := none }) (v := ?_) rfl (by kernel_rfl) (by kernel_rfl) (by kernel_rfl) (fun _ _ _ h => h) (Or.inl ⟨by rfl, ?_⟩) (by assumption) ?_
      rotate_left
      · (intro w hSw; (try dsimp only at hSw); go_simp; try with_reducible rfl)
      try simp only [Act.put, List.setIfInBounds_toArray, List.set_cons_zero, List.set_cons_succ]
      refine wpAnyH_done (by kernel_rfl) ?_ _
      refine NoPanic.normal ?_
      clear hHeld
      have HV := Lib.hid HB.out.drew
      go_wp2_with fail
      exact ⟨⟨j + 1, by omega, rfl, HV⟩, by simp [intO]; omega⟩
    · obtain rfl : j = n := by omega
      have t1 : decide ((j : Int) < j) = false := by simp
      have t2 : decide (j < j) = false := by simp
      go_wp2_with fail
      go_ret
      exact ⟨rfl, HB.out⟩
end Go.Proofs.Ytjilpkmcddinaaa
end

section
set_option maxRecDepth 100000
namespace Go.Proofs.Ytjilpkmcddinaaa
open Go.RowKit Go.Maps
def RowN (z : Bool) (w : World) (lo : Nat) (v : Value) (xs : List Nat) : Prop :=
  (v = .slice none 0 0 ∧ xs = []) ∨
  ∃ g off c cur, v = .slice (some ⟨g, off, none⟩) xs.length c ∧ lo ≤ g ∧ w.heap[g]? = some (.cells cur 3 (0, 0)) ∧ xs.length ≤ c ∧ c ≤ maxLen ∧ off + c ≤ cur.size ∧ (z = true → off = 0) ∧ ∀ (j x : Nat), xs[j]? = some x → cur[off + j]? = some (i64v x)
theorem RowN.nil (z : Bool) (w : World) (lo : Nat) : RowN z w lo (.slice none 0 0) [] := .inl ⟨rfl, rfl⟩
theorem RowN.mono {z : Bool} {w : World} {lo lo' : Nat} {v : Value} {xs : List Nat} (h : RowN z w lo v xs) (hl : lo' ≤ lo) : RowN z w lo' v xs := by
  rcases h with h | ⟨g, off, c, cur, h1, h2, h3⟩
  · exact .inl h
  · exact .inr ⟨g, off, c, cur, h1, Nat.le_trans hl h2, h3⟩
theorem RowN.stay {z : Bool} {w w' : World} {lo : Nat} {v : Value} {xs : List Nat} (h : RowN z w lo v xs) (hb : ∀ q, lo ≤ q → q < w.heap.size → w'.heap[q]? = w.heap[q]?) : RowN z w' lo v xs := by
  rcases h with h | ⟨g, off, c, cur, h1, h2, h3, h4⟩
  · exact .inl h
  · exact .inr ⟨g, off, c, cur, h1, h2, (hb g h2 (Array.getElem?_eq_some_iff.1 h3).1).trans h3, h4⟩
theorem RowN.below {z : Bool} {w w' : World} {lo : Nat} {v : Value} {xs : List Nat} (h : RowN z w lo v xs) (hb : Below w.heap.size w w') : RowN z w' lo v xs := h.stay fun q _ hq => hb.block q hq
theorem RowN.of {z : Bool} {w : World} {lo : Nat} {v : Value} {xs : List Nat} (h : w.ownsRow lo 3 1 v xs.length (xs.map i64v)) : RowN z w lo v xs := by
  rcases h.2 with ⟨rfl, h2⟩ | ⟨g, cap, cur, rfl, hlo, hg, hn, hm, hs, ht⟩
  · exact .inl ⟨rfl, List.eq_nil_of_length_eq_zero h2⟩
  · refine .inr ⟨g, 0, cap, cur, rfl, hlo, hg, hn, hm, by omega, fun _ => rfl, fun j x hj => ?_⟩
    have h1 : (xs.map i64v)[j]? = some (i64v x) := by rw [List.getElem?_map, hj]; rfl
    rw [← ht, List.getElem?_take] at h1
    split at h1
    · rw [Nat.zero_add, ← Array.getElem?_toList]; exact h1
    · cases h1
theorem RowN.shape {z : Bool} {w : World} {lo : Nat} {v : Value} {xs : List Nat} (h : RowN z w lo v xs) : ∃ A c, v = .slice A xs.length c ∧ xs.length ≤ c ∧ c ≤ maxLen ∧ ∀ (j x : Nat), xs[j]? = some x → ∃ X, A = some X ∧ w.cell? (X.add j) = some (.int .i64 (x : Int)) := by
  rcases h with ⟨rfl, rfl⟩ | ⟨g, off, c, cur, rfl, h2, h3, h4, h5, h6, hz, h7⟩
  · exact ⟨none, 0, rfl, Nat.le_refl _, Nat.zero_le _, fun j x h => by simp at h⟩
  · refine ⟨_, c, rfl, h4, h5, fun j x hj => ⟨_, rfl, ?_⟩⟩
    rw [Addr.add_lit, cell_of_row w g (off + j) _ 3 _ h3]
    exact h7 j x hj
theorem RowN.shape0 {w : World} {lo : Nat} {v : Value} {xs : List Nat} (h : RowN true w lo v xs) : ∃ A c, v = .slice A xs.length c ∧ NI w A xs := by
  rcases h with ⟨rfl, rfl⟩ | ⟨g, off, c, cur, rfl, h2, h3, h4, h5, h6, hz, h7⟩
  · exact ⟨none, 0, rfl, fun j x h => by simp at h⟩
  · refine ⟨_, c, rfl, fun j x hj => ⟨g, by rw [hz rfl], ?_⟩⟩
    have := h7 j x hj
    rw [hz rfl, Nat.zero_add] at this
    rw [cell_of_row w g j _ 3 _ h3]
    exact this
theorem RowN.app {z : Bool} {w : World} {lo : Nat} {v : Value} {xs : List Nat} (h : RowN z w lo v xs) (hlo : lo ≤ w.heap.size) (hl : xs.length ≤ 100) (nb t : Nat) (hnb : w.cell? ⟨nb, 0, none⟩ = some (i64v t)) (ty : TypeId) :
    ∃ v' w', (Builtin.append_ #[50, 50] ty #[v, .slice (some ⟨nb, 0, none⟩) 1 1]).run Try.prog w = .ok v' w' ∧ RowN z w' lo v' (xs ++ [t]) ∧ Below lo w w' := by
  obtain ⟨i3, hi3, hz0, hz1, hz2⟩ := info_parts Try.info3u
  have hnews : ∀ j u, [i64v t][j]? = some u → w.cell? ((⟨nb, 0, none⟩ : Addr).add j) = some u := by
    intro j u hu
    have : j = 0 := by
      have := (List.getElem?_eq_some_iff.1 hu).1
      simpa using this
    subst this
    simp at hu
    subst hu
    exact hnb
  have hone : ∀ u ∈ [i64v t], u.oneCell' = true := by
    intro u hu
    simp at hu
    subst hu
    rfl
  have hown : ∀ v' w', w'.ownsRow w.heap.size 3 1 v' (xs.length + 1) (xs.map i64v ++ [i64v t]) → RowN z w' lo v' (xs ++ [t]) := fun v' w' ho => (RowN.of (lo := w.heap.size) (by rw [List.length_append, List.map_append]; exact ho)).mono hlo
  rcases h with ⟨rfl, rfl⟩ | ⟨g, off, c, cur, rfl, h2, h3, h4, h5, h6, hz, h7⟩
  · obtain ⟨v', w', hrun, r1, r2, _⟩ := run_append_own (P := Try.prog) w w.heap.size 50 ty 3 i3 (.int .i64 0) 1 8 Try.underlying50 hi3 hz0 hz1 hz2 rfl (by decide) (.slice none 0 0) 0 [] (World.ownsRow_nil w _ 3 1) ⟨nb, 0, none⟩ 1 1 [i64v t] rfl hnews hone (by unfold maxLen; omega) (by omega) (Nat.le_refl _)
    exact ⟨v', w', hrun, hown v' w' r1, r2.os, r2.tape, r2.output, r2.size, fun k hk => r2.block k (by omega) (by simp [Value.ownBlock])⟩
  · have hcell : ∀ j u, (xs.map i64v)[j]? = some u → w.cell? ((⟨g, off, none⟩ : Addr).add j) = some u := by
      intro j u hj
      rw [List.getElem?_map] at hj
      obtain ⟨x, hx, rfl⟩ := Option.map_eq_some_iff.1 hj
      rw [Addr.add_lit, cell_of_row w g (off + j) _ 3 _ h3]
      exact h7 j x hx
    by_cases hr : xs.length + 1 ≤ c
    · have hrun := run_append_room_cells (P := Try.prog) w 50 ty 3 i3 Try.underlying50 hi3 g off xs.length c ⟨nb, 0, none⟩ 1 1 [i64v t] (by rw [hz1]; rfl) hnews hone hr (by
        intro j hj
        rw [cell_of_row w g _ _ 3 _ h3, hz1]
        simp at hj
        subst hj
        rw [Array.getElem?_eq_getElem (by omega)]
        rfl) (by
        intro j hj
        exact frozen_of_row w g _ _ 3 h3)
      rw [hz1] at hrun
      refine ⟨_, _, hrun, ?_, ?_⟩
      · have hh := heap_setCell_same w g (off + xs.length) cur 3 (i64v t) h3
        refine .inr ⟨g, off, c, _, by rw [List.length_append]; rfl, h2, (by rw [Nat.mul_one]; exact hh), (by rw [List.length_append]; exact hr), h5, (by rw [Array.size_setIfInBounds]; exact h6), hz, fun j x hj => ?_⟩
        rw [Array.getElem?_setIfInBounds]
        by_cases e : j < xs.length
        · rw [List.getElem?_append_left e] at hj
          rw [if_neg (by omega)]
          exact h7 j x hj
        · have hj1 : j < (xs ++ [t]).length := (List.getElem?_eq_some_iff.1 hj).1
          rw [List.length_append] at hj1
          simp only [List.length_cons, List.length_nil] at hj1
          obtain rfl : j = xs.length := by omega
          rw [List.getElem?_append_right (Nat.le_refl _)] at hj
          simp at hj
          subst hj
          rw [if_pos rfl, if_pos (by omega)]
      · refine ⟨rfl, rfl, rfl, ?_, fun k hk => ?_⟩
        · show w.heap.size ≤ (w.setCell _ _).heap.size
          simp [World.setCell]
        · exact Below.heap_setCell w _ _ k (by show k ≠ g; omega)
    · obtain ⟨v', w', hrun, r1, r2⟩ := run_append_arg_grows (P := Try.prog) w 50 ty 3 i3 (.int .i64 0) 1 8 Try.underlying50 hi3 hz0 hz1 hz2 rfl (by decide) ⟨g, off, none⟩ xs.length c (xs.map i64v) (by simp) hcell ⟨nb, 0, none⟩ 1 1 [i64v t] rfl hnews (by omega) (by unfold maxLen; omega) (by omega)
      exact ⟨v', w', hrun, hown v' w' r1, r2.os, r2.tape, r2.output, r2.size, fun k hk => r2.block k (by omega) (by simp)⟩
theorem wpList_rapp {ops : Array Oper} {rest : List Oper} {o : Oper} {a : Act} {w : World} {Q : Exit → Act → World → Prop} (hgd : o.guard = none) (s x : Operand) (ho : o.op = .call { callee := .builtin .append, args := #[s, x], argTypes := #[50, 50] })
    (z : Bool) (lo : Nat) (v : Value) (xs : List Nat) (hs : a.eval s = v) (hown : RowN z w lo v xs) (nb t : Nat) (hx : a.eval x = .slice (some ⟨nb, 0, none⟩) 1 1) (hc : w.cell? ⟨nb, 0, none⟩ = some (i64v t)) (hlo : lo ≤ w.heap.size) (hl : xs.length ≤ 100)
    (h : ∀ v' w', RowN z w' lo v' (xs ++ [t]) → Below lo w w' → wpList Try.prog ops Q rest (a.put o.dst v') w') : wpList Try.prog ops Q (o :: rest) a w := by
  refine wpList_plain hgd fun K hK' => ?_
  obtain ⟨v', w', hrun, r1, r2⟩ := hown.app hlo hl nb t hc o.type
  unfold Oper.wp
  simp [execOp, ho, resolve, invoke, builtin, hs, hx, hrun, Result.andThen]
  exact hK' _ _ (h v' w' r1 r2)
theorem RowN.tail {z : Bool} {w : World} {lo : Nat} {g off c : Nat} {xs : List Nat} (h : RowN z w lo (.slice (some ⟨g, off, none⟩) xs.length c) xs) (h1 : 1 ≤ xs.length) : RowN false w lo (.slice (some (if c = 1 then ⟨g, off, none⟩ else ⟨g, off + 1, none⟩)) (xs.length - 1) (c - 1)) xs.tail := by
  rcases h with ⟨h, _⟩ | ⟨g', off', c', cur, e, h2, h3, h4, h5, h6, hz, h7⟩
  · cases h
  · cases e
    refine .inr ?_
    by_cases hc : c = 1
    · rw [if_pos hc]
      refine ⟨g, off, c - 1, cur, by rw [List.length_tail], h2, h3, by rw [List.length_tail]; omega, by omega, by omega, (fun h => by cases h), fun j x hj => ?_⟩
      have := (List.getElem?_eq_some_iff.1 hj).1
      rw [List.length_tail] at this
      omega
    · rw [if_neg hc]
      refine ⟨g, off + 1, c - 1, cur, by rw [List.length_tail], h2, h3, by rw [List.length_tail]; omega, by omega, by omega, (fun h => by cases h), fun j x hj => ?_⟩
      rw [List.getElem?_tail] at hj
      rw [Nat.add_assoc, Nat.add_comm 1 j]
      exact h7 _ _ hj
end Go.Proofs.Ytjilpkmcddinaaa
end

section
set_option maxRecDepth 100000
namespace Go.Proofs.Ytjilpkmcddinaaa
open Go.RowKit Go.Maps
theorem AgeI.below {Dv : Nat → Nat → World → Prop} (hd : Dev Dv) {w wr w' : World} {n pb mb b1 b2 i : Nat} {S : List Fr} {order : List Nat} {now : Nat} (h : AgeI Dv w wr n pb mb b1 b2 i S order now) (hb : Below wr.heap.size wr w') : AgeI Dv w w' n pb mb b1 b2 i S order now where
  pool := h.pool.below hb
  age := h.age
  dv := hd.below h.dv hb
  n1 := h.n1
  n2 := h.n2
  low := h.low
  l1 := h.l1
  l2 := h.l2
  now' := h.now'
  bel := h.bel.trans (hb.mono h.bel.size)
structure AgeL (Dv : Nat → Nat → World → Prop) (w wr : World) (n pb mb b1 b2 i : Nat) (S : List Fr) (order : List Nat) (now lo : Nat) (v : Value) : Prop where
  ai : AgeI Dv w wr n pb mb b1 b2 i S order now
  row : RowN false wr lo v order
  own : ∀ q, Own pb mb S q → q < lo
  c1 : b1 < lo
  c2 : b2 < lo
  lo0 : w.heap.size ≤ lo
  lo1 : lo ≤ wr.heap.size
theorem AgeL.len {Dv : Nat → Nat → World → Prop} {w wr : World} {n pb mb b1 b2 i : Nat} {S : List Fr} {order : List Nat} {now lo : Nat} {v : Value} (h : AgeL Dv w wr n pb mb b1 b2 i S order now lo v) : order.length ≤ n := by
  obtain ⟨T, p1, p2, _⟩ := h.ai.age.ex
  have := h.ai.pool.le
  rw [← p2, List.length_map, ← p1.length_eq]
  exact this
theorem Try.unpinP {Dv : Nat → Nat → World → Prop} (hd : Dev Dv) {w wr W : World} {n pb mb b1 b2 i a : Nat} {S : List Fr} {order : List Nat} {now lo : Nat} {v : Value} {f : Fr} {T : List Fr} (h : AgeL Dv w wr n pb mb b1 b2 i S order now lo v) (hp : AgeP Dv wr W n pb mb b1 b2 a S order now f T) :
    Calls Try.prog 14 #[.pointer (some ⟨pb, 0, none⟩), .int .i64 (a : Int)] W fun e w5 => e = .returned (.int .i64 0) ∧ AgeI Dv w w5 n pb mb b1 b2 (i + 1) ({ f with pins := 0 } :: T) (nextO n order a) (now + 1) ∧ RowN false w5 lo v order := by
  have hu := Try.unpin1 hp.pool (by rw [hp.fp]; decide)
  have e1 := hp.fa
  have e2 := hp.fp
  have hnow := h.ai.now'
  have hdl := hd.lt _ _ _ h.ai.dv
  have hsz := h.ai.bel.size
  have hsz2 := hp.ch.size
  have hn1 : ¬ Own pb mb (f :: T) b1 := fun q => by
    rcases hp.own _ q with q | q
    · exact h.ai.n1 q
    · omega
  have hn2 : ¬ Own pb mb (f :: T) b2 := fun q => by
    rcases hp.own _ q with q | q
    · exact h.ai.n2 q
    · omega
  have hos : ∀ q, Own pb mb ({ f with pins := 0 } :: T) q → Own pb mb (f :: T) q := fun q h => own_same (f := f) (f' := { f with pins := 0 }) rfl h
  rw [← e1]
  refine hu.mono ?_
  rintro e w5 ⟨rfl, hpl, hc⟩
  refine ⟨rfl, ?_, ?_⟩
  · rw [e2] at hpl
    refine ⟨hpl, by rw [show nextO n order f.a = nextO n order a by rw [e1]]; exact hp.age, hd.chg hp.dv hc hn1 hn2, fun q => hn1 (hos _ q), fun q => hn2 (hos _ q), fun q hq => ?_, h.ai.l1, h.ai.l2, by omega, ?_⟩
    · rcases hp.own _ (hos _ hq) with q1 | q1
      · exact h.ai.low _ q1
      · omega
    · refine h.ai.bel.trans ⟨hc.os.trans hp.ch.os, hc.tape.trans hp.ch.tape, hc.output.trans hp.ch.output, Nat.le_trans hp.ch.size hc.size, fun q hq => ?_⟩
      refine (hc.block q (by omega) (fun hh => ?_)).trans (hp.ch.block q (by omega) ?_)
      · rcases hp.own _ hh with q1 | q1
        · have := h.ai.low _ q1
          omega
        · omega
      · rintro (hh | hh | hh)
        · have := h.ai.low _ hh
          omega
        · have := h.ai.l1
          omega
        · have := h.ai.l2
          omega
  · refine h.row.stay fun q hq hlt => ?_
    refine (hc.block q (by omega) (fun hh => ?_)).trans (hp.ch.block q hlt ?_)
    · rcases hp.own _ hh with q1 | q1
      · have := h.own _ q1
        omega
      · omega
    · have := h.c1
      have := h.c2
      rintro (hh | hh | hh)
      · have := h.own _ hh
        omega
      · omega
      · omega
def wantK (order : List Nat) (a k : Nat) : List Nat := ((List.range a).filter fun q => decide (q ∈ order)) ++ if a ∈ order.take k then [a] else []
theorem want0 (order : List Nat) (a : Nat) : wantK order a 0 = (List.range a).filter fun q => decide (q ∈ order) := by
  unfold wantK
  simp
theorem wantE (order : List Nat) (a : Nat) : wantK order a order.length = (List.range (a + 1)).filter fun q => decide (q ∈ order) := by
  unfold wantK
  rw [List.range_succ, List.filter_append, List.take_length]
  by_cases h : a ∈ order <;> simp [h]
theorem take_mem (order : List Nat) (k y a : Nat) (hy : order[k]? = some y) : a ∈ order.take (k + 1) ↔ a ∈ order.take k ∨ a = y := by
  rw [List.take_add_one, hy]
  simp
theorem want_hit (order : List Nat) (hn : order.Nodup) (a k : Nat) (hy : order[k]? = some a) : wantK order a (k + 1) = wantK order a k ++ [a] := by
  have hnot : a ∉ order.take k := fun h => by
    obtain ⟨j, hj, e⟩ := List.mem_iff_getElem.1 h
    rw [List.length_take] at hj
    rw [List.getElem_take] at e
    obtain ⟨hk, e2⟩ := List.getElem?_eq_some_iff.1 hy
    exact (List.pairwise_iff_getElem.1 hn j k (by omega) hk (by omega)) (by rw [e, e2])
  unfold wantK
  rw [if_neg hnot, if_pos ((take_mem order k a a hy).2 (.inr rfl)), List.append_nil]
theorem want_miss (order : List Nat) (a k y : Nat) (hy : order[k]? = some y) (hne : y ≠ a) : wantK order a (k + 1) = wantK order a k := by
  unfold wantK
  by_cases h : a ∈ order.take k
  · rw [if_pos h, if_pos ((take_mem order k y a hy).2 (.inl h))]
  · rw [if_neg h, if_neg (fun q => by
      rcases (take_mem order k y a hy).1 q with q | q
      · exact h q
      · exact hne q.symm)]
theorem want_len (order : List Nat) (a k : Nat) (ha : a ≤ 20) : (wantK order a k).length ≤ 21 := by
  unfold wantK
  have := List.length_filter_le (fun q => decide (q ∈ order)) (List.range a)
  rw [List.length_range] at this
  rw [List.length_append]
  split
  · simp only [List.length_cons, List.length_nil]; omega
  · simp only [List.length_nil]; omega
theorem AgeS.nodup {order : List Nat} {S : List Fr} {now : Nat} (h : AgeS S order now) (hap : S.Pairwise fun f g => f.a ≠ g.a) : order.Nodup := by
  obtain ⟨T, p1, p2, _⟩ := h.ex
  have hpo : (S.map Fr.a).Perm order := by rw [← p2]; exact p1.map _
  refine (hpo.nodup_iff).1 ?_
  rw [List.nodup_iff_pairwise_ne, List.pairwise_map]
  exact hap
theorem want_held {order L : List Nat} {S : List Fr} {now : Nat} (h : AgeS S order now) (hap : S.Pairwise fun f g => f.a ≠ g.a) (h20 : ∀ f ∈ S, f.a < 20) (hp : L.Perm (S.map Fr.a)) (hs : L.Pairwise (· < ·)) : order.Nodup ∧ L = (List.range 20).filter fun q => decide (q ∈ order) := by
  obtain ⟨T, p1, p2, _⟩ := h.ex
  have hpo : (S.map Fr.a).Perm order := by rw [← p2]; exact p1.map _
  have hnd : (S.map Fr.a).Nodup := by
    rw [List.nodup_iff_pairwise_ne, List.pairwise_map]
    exact hap
  have hno : order.Nodup := (hpo.nodup_iff).1 hnd
  refine ⟨hno, ?_⟩
  have h1 : L.Perm order := hp.trans hpo
  have h2 : order.Perm ((List.range 20).filter fun q => decide (q ∈ order)) := by
    refine (List.perm_ext_iff_of_nodup hno (List.Pairwise.filter _ List.nodup_range)).2 fun q => ?_
    rw [List.mem_filter, List.mem_range, decide_eq_true_eq]
    refine ⟨fun hq => ⟨?_, hq⟩, fun hq => hq.2⟩
    obtain ⟨f, hf, rfl⟩ := List.mem_map.1 (hpo.mem_iff.2 hq)
    exact h20 f hf
  exact (h1.trans h2).eq_of_pairwise (fun a b _ _ (x : a < b) (y : b < a) => absurd x (by omega)) hs (List.Pairwise.filter _ (List.pairwise_lt_range))
theorem fil_hit (order : List Nat) (k a : Nat) (hy : order[k]? = some a) : ((order.take (k + 1)).filter fun q => decide (q ≠ a)) = (order.take k).filter fun q => decide (q ≠ a) := by
  rw [List.take_add_one, hy, List.filter_append]
  simp
theorem fil_miss (order : List Nat) (k y a : Nat) (hy : order[k]? = some y) (hne : y ≠ a) : ((order.take (k + 1)).filter fun q => decide (q ≠ a)) = ((order.take k).filter fun q => decide (q ≠ a)) ++ [y] := by
  rw [List.take_add_one, hy, List.filter_append]
  simp [hne]
theorem had_hit (order : List Nat) (k a : Nat) (hy : order[k]? = some a) : decide (a ∈ order.take (k + 1)) = true := decide_eq_true ((take_mem order k a a hy).2 (.inr rfl))
theorem had_miss (order : List Nat) (k y a : Nat) (hy : order[k]? = some y) (hne : y ≠ a) : decide (a ∈ order.take (k + 1)) = decide (a ∈ order.take k) := by
  rw [decide_eq_decide, take_mem order k y a hy]
  exact ⟨fun h => h.resolve_right (fun e => hne e.symm), .inl⟩
theorem fil_len (order : List Nat) (k a : Nat) : ((order.take k).filter fun q => decide (q ≠ a)).length ≤ order.length := Nat.le_trans (List.length_filter_le _ _) (by rw [List.length_take]; omega)
end Go.Proofs.Ytjilpkmcddinaaa
end

section
set_option maxRecDepth 100000
namespace Go.Proofs.Ytjilpkmcddinaaa
open Go.RowKit Go.Maps
set_option maxHeartbeats 4000000 in
theorem Try.ages {Dv : Nat → Nat → World → Prop} (hd : Dev Dv) (hpg : ∀ w, Calls Try.prog 10 #[.int .i64 20] w fun e w' => ∃ b1 b2 m, e = .returned (.tuple #[.pointer (some ⟨b1, 0, none⟩), m]) ∧ Dv b1 b2 w' ∧ w.heap.size ≤ b1 ∧ w.heap.size ≤ b2 ∧ Below w.heap.size w w')
    (a0 : Nat) (h0 : a0 < 256) (A : Option Addr) (len c : Nat) (l : List Nat) (w : World) (hl : l.length = len) (hlc : len ≤ 80 → ∀ (j x : Nat), l[j]? = some x → x < 256 ∧ ∃ X, A = some X ∧ w.cell? (X.add j) = some (.int .u8 (x : Int))) :
    Calls Try.prog 5 #[.int .u8 (a0 : Int), .slice A len c] w fun e w' => e = .returned (.bool true) ∧ Below w.heap.size w w' := by
  obtain ⟨n, hn⟩ : ∃ n, n = 1 + a0 % 6 := ⟨_, rfl⟩
  have s1 : (a0 : Int).tmod 6 = ((a0 % 6 : Nat) : Int) := by rw [Int.tmod_eq_emod_of_nonneg (by omega)]; rfl
  have H1 := Lib.hid hl
  have H2 := Lib.hid hlc
  have HN := Lib.hid hn
  clear hl hlc hn
  go_enter Try.func5, Try.ntmps5
  go_wp2_with fail
  refine (knownC w).mono ?_
  rintro e w1 ⟨rfl, hb1⟩
  have HB1 := Lib.hid hb1
  clear hb1
  by_cases hlen : len ≤ 80
  · have d1 : decide ((len : Int) > 80) = false := decide_eq_false (by omega)
    go_wp2_with fail
    rw [show (1 + (a0 : Int) % 6) = (n : Int) by have := HN.out; omega]
    refine (Try.new (k := 1) (by have := HN.out; omega) (by have := HN.out; omega) (by omega) (by omega)).mono ?_
    rintro e w2 ⟨pb, mb, rfl, hp, hpb, hmb, hb2⟩
    have HP := Lib.hid hp
    have HPL := Lib.hid (And.intro hpb hmb)
    have HB2 := Lib.hid (HB1.out.trans (hb2.mono HB1.out.size))
    have hsz1 := HB1.out.size
    clear hp hpb hmb hb2
    go_wp2_with fail
    refine (hpg w2).mono ?_
    rintro e w3 ⟨b1, b2, m, rfl, hdv, hl1, hl2, hb3⟩
    have HDV := Lib.hid hdv
    have HL := Lib.hid (And.intro hl1 hl2)
    have HB3 := Lib.hid (HB2.out.trans (hb3.mono HB2.out.size))
    have HP3 := Lib.hid (HP.out.below hb3)
    have hsz2 := HB2.out.size
    have hsz3 := HB3.out.size
    clear hdv hl1 hl2 hb3 s1
    have q1 : ∀ w : World, (binOp .eql 24 (.pointer (some ⟨pb, 0, none⟩)) (.pointer none)).run Try.prog w = .ok (.bool false) w := fun w => by go_simp
    have q2 : ∀ w : World, (binOp .eql 31 (.pointer (some ⟨b1, 0, none⟩)) (.pointer none)).run Try.prog w = .ok (.bool false) w := fun w => by go_simp
    go_wp2_with fail
    have HI0 : Hid (AgeI Dv w w3 n pb mb b1 b2 0 [] [] 0) := Lib.hid (by
      have h1 := HP.out.lt pb (.inl rfl)
      have h2 := HP.out.lt mb (.inr (.inl rfl))
      have h3 := HPL.out
      have h4 := HL.out
      have hno : ∀ q, Own pb mb [] q → q = pb ∨ q = mb := fun q h => by
        rcases h with h | h | ⟨f, hf, _⟩
        · exact .inl h
        · exact .inr h
        · simp at hf
      refine ⟨HP3.out, AgeS.start, HDV.out, ?_, ?_, ?_, by omega, by omega, Nat.le_refl _, HB3.out⟩
      · intro h; rcases hno _ h with h | h <;> omega
      · intro h; rcases hno _ h with h | h <;> omega
      · intro q h; rcases hno _ h with h | h <;> omega)
    have HL0 : Hid (AgeL Dv w w3 n pb mb b1 b2 0 [] [] 0 w3.heap.size (.slice none 0 0)) := Lib.hid (by
      have h7 := hd.lt _ _ _ HDV.out
      have h8 := HB3.out.size
      exact ⟨HI0.out, RowN.nil _ _ _, fun q hq => HP3.out.lt q hq, h7.1, h7.2, h8, Nat.le_refl _⟩)
    clear q1 q2 HP HPL HDV HL HP3 HB2 HB3 hsz1 hsz2 hsz3 HB1 HI0
    go_loopw [11, 10] (fun t11 t10 wr => ∃ (i : Nat) (S : List Fr) (order : List Nat) (now lo : Nat), t11 = .int .i64 i ∧ i ≤ len ∧ Hid (AgeL Dv w wr n pb mb b1 b2 i S order now lo t10)) (fun t11 _ _ => len - (intO t11).toNat)
    case atStart => exact ⟨0, [], [], 0, _, rfl, Nat.zero_le _, HL0⟩
    case round =>
      obtain ⟨i, S, order, now, lo, rfl, hil, HI⟩ := hrel
      clear HL0
      by_cases hlt : i < len
      · obtain ⟨x, hx⟩ : ∃ x, l[i]? = some x := ⟨_, List.getElem?_eq_getElem (by rw [H1.out]; exact hlt)⟩
        obtain ⟨hx256, X, hA, hcx⟩ := H2.out hlen i x hx
        subst hA
        have hcx' : wr.cell? (X.add i) = some (.int .u8 (x : Int)) := (HI.out.ai.bel.cell (block_lt_of_cell hcx)).trans hcx
        have t1 : decide ((i : Int) < len) = true := decide_eq_true (by omega)
        have t2 : decide (i < len) = true := decide_eq_true hlt
        clear hx hcx
        obtain ⟨a, ha⟩ : ∃ a, a = 2 + x % 16 := ⟨_, rfl⟩
        have ha1 : 2 ≤ a := by omega
        have ha2 : a < 18 := by omega
        have HAx := Lib.hid ha
        clear ha
        go_upto_region 15 with fail
        rw [show (2 + (x : Int) % 16) = (a : Int) by have := HAx.out; omega]
        clear hcx'
        go_wp2_with fail
        refine (Try.agePin hd HI.out.ai ha1 ha2 (by omega)).mono ?_
        rintro e6 W ⟨v, f, T, rfl, hP⟩
        have HPp := Lib.hid hP
        clear hP
        obtain ⟨bw, hbw⟩ : ∃ bw, decide (a ∈ order) = bw := ⟨_, rfl⟩
        rw [hbw]
        have HBW := Lib.hid hbw
        clear hbw
        go_wp2_with fail
        refine (Try.unpinP hd HI.out HPp.out).mono ?_
        rintro e7 w5 ⟨rfl, hai, hrow⟩
        have HAI := Lib.hid hai
        have HROW := Lib.hid hrow
        have HOL := Lib.hid HI.out.len
        have HLO := Lib.hid (And.intro HI.out.lo0 (Nat.le_trans HI.out.lo1 (Nat.le_trans HPp.out.ch.size (Nat.le_refl _))))
        clear hai hrow
        obtain ⟨m, hm⟩ : ∃ m, m = order.length := ⟨_, rfl⟩
        obtain ⟨A5, c5, hv5, hc5a, hc5b, hc5⟩ := HROW.out.shape
        rw [← hm] at hv5 hc5a
        subst hv5
        have HC5 := Lib.hid hc5
        have HM := Lib.hid hm
        have hm6 : m ≤ 6 := by
          have := HOL.out
          have := HN.out
          omega
        clear hc5 hm
        go_wp2_with fail
        go_loopw [19, 18, 17] (fun t19 t18 t17 V => ∃ (k : Nat) (hh : Bool), k ≤ m ∧ t19 = .int .i64 k ∧ t17 = .bool hh ∧ Hid (hh = decide (a ∈ order.take k)) ∧ Hid (RowN false V w5.heap.size t18 ((order.take k).filter fun q => decide (q ≠ a))) ∧ Hid (Below w5.heap.size w5 V)) (fun t19 _ _ _ => m - (intO t19).toNat)
        case atStart => exact ⟨0, false, Nat.zero_le _, rfl, rfl, Lib.hid (by simp), Lib.hid (by simpa using RowN.nil _ _ _), Lib.hid (Below.refl _ _)⟩
        case round =>
          rename World => V
          obtain ⟨k, hh, hk, rfl, rfl, HH, HNx, HV⟩ := hrel
          by_cases hkl : k < m
          · have u1 : decide ((k : Int) < m) = true := decide_eq_true (by omega)
            have u2 : decide (k < m) = true := decide_eq_true hkl
            obtain ⟨y, hy⟩ : ∃ y, order[k]? = some y := ⟨_, List.getElem?_eq_getElem (by rw [← HM.out]; exact hkl)⟩
            obtain ⟨X5, hA5, hcy⟩ := HC5.out k y hy
            subst hA5
            have hcy' : V.cell? (X5.add k) = some (.int .i64 (y : Int)) := cellB hcy HV.out
            clear hcy
            by_cases hya : y = a
            · have hya' := hy
              rw [hya] at hya' hcy'
              have HY := Lib.hid hya'
              have u3 : ((a : Int) == a) = true := by simp
              have u4 : decide ((a : Int) = a) = true := decide_eq_true rfl
              clear hy hya hya'
              go_wp2_with fail
              exact ⟨⟨k + 1, true, by omega, rfl, rfl, Lib.hid (had_hit _ _ _ HY.out).symm, Lib.hid (by rw [fil_hit _ _ _ HY.out]; exact HNx.out), HV⟩, by simp [intO]; omega⟩
            · have HY := Lib.hid hy
              have HNE := Lib.hid hya
              have u3 : ((y : Int) == a) = false := by simp; omega
              have u4 : decide ((y : Int) = a) = false := decide_eq_false (by omega)
              have hfl := fil_len order k a
              rw [← HM.out] at hfl
              have HFL := Lib.hid hfl
              clear hy hya hfl
              obtain ⟨NX, hNX⟩ : ∃ NX, NX = (order.take k).filter (fun q => decide (q ≠ a)) := ⟨_, rfl⟩
              rw [← hNX] at HFL HNx
              have HNX := Lib.hid hNX
              clear hNX
              go_wp2_with (at_builtin; refine wpList_rapp rfl (.tmp 88) (.tmp 93) rfl false w5.heap.size _ NX rfl (HNx.out.below ((Below.refl _ V).alloc (Nat.le_refl _) _)) _ y rfl ?k1 ?k2 ?k3 ?k4)
              case k1 => exact cell_of_row _ _ 0 _ 3 (0, 0) (heap_alloc_new _ _)
              case k2 => exact Nat.le_trans HV.out.size (Below.refl V.heap.size V |>.alloc (Nat.le_refl _) _).size
              case k3 => have := HFL.out; omega
              case k4 =>
                intro v8 w8 hr8 hb8
                have HR8 := Lib.hid hr8
                have HB8 : Hid (Below w5.heap.size w5 w8) := Lib.hid (HV.out.trans ((((Below.refl _ V).alloc (Nat.le_refl _) _).mono HV.out.size).trans hb8))
                clear hr8 hb8
                go_wp2_with fail
                exact ⟨⟨k + 1, hh, by omega, rfl, rfl, Lib.hid (by rw [had_miss _ _ _ _ HY.out HNE.out]; exact HH.out), Lib.hid (by rw [fil_miss _ _ _ _ HY.out HNE.out, ← HNX.out]; exact HR8.out), HB8⟩, by simp [intO]; omega⟩
          · obtain rfl : k = m := by omega
            have u1 : decide ((k : Int) < k) = false := decide_eq_false (by omega)
            have u2 : decide (k < k) = false := decide_eq_false (by omega)
            obtain ⟨nx, hnx⟩ : ∃ nx, nx = (order.take k).filter (fun q => decide (q ≠ a)) := ⟨_, rfl⟩
            have hnxl := fil_len order k a
            rw [← HM.out, ← hnx] at hnxl
            rw [← hnx] at HNx
            have hord : order.take k = order := by rw [HM.out, List.take_length]
            rw [hord] at hnx HH
            have hhb : hh = bw := HH.out.trans HBW.out
            subst hhb
            have HNXD := Lib.hid hnx
            have HNXL := Lib.hid hnxl
            clear hord hnx hnxl
            cases hh
            · have hnin : a ∉ order := fun h => by
                have := HH.out
                rw [decide_eq_true h] at this
                cases this
              have HNI := Lib.hid hnin
              clear hnin
              by_cases hfull : nx.length = n
              · rcases HNx.out with ⟨hv, hx⟩ | ⟨g, off, c, cur, hv, r2, r3, r4, r5, r6, rz, r7⟩
                · exfalso
                  rw [hx] at hfull
                  have := HN.out
                  simp at hfull
                  omega
                · subst hv
                  have hrt := RowN.tail (z := false) (w := V) (lo := w5.heap.size) (g := g) (off := off) (c := c) (xs := nx) (.inr ⟨g, off, c, cur, rfl, r2, r3, r4, r5, r6, rz, r7⟩) (by have := HN.out; omega)
                  have hn1 : 1 ≤ n := by have := HN.out; omega
                  rw [hfull] at hrt r4 ⊢
                  have HRT := Lib.hid hrt
                  have HFU := Lib.hid hfull
                  have u5 : ((n : Int) == n) = true := by simp
                  have u6 : decide ((n : Int) = n) = true := decide_eq_true rfl
                  have hle1 : (1 : Int) ≤ n := by omega
                  clear hfull hrt r2 r3 r6 rz r7
                  go_upto_region 27 with fail
                  have hrt2 : RowN false V w5.heap.size (.slice (if c = 1 then some (⟨g, off, none⟩ : Addr) else some ⟨g, off + 1, none⟩) (n - 1) (c - 1)) nx.tail := by
                    have h := HRT.out
                    by_cases hc : c = 1
                    · rw [if_pos hc] at h ⊢; exact h
                    · rw [if_neg hc] at h ⊢; exact h
                  generalize (if c = 1 then some (⟨g, off, none⟩ : Addr) else some ⟨g, off + 1, none⟩) = AT at hrt2 ⊢
                  generalize c - 1 = c8 at hrt2 ⊢
                  obtain ⟨n8, hn8⟩ : ∃ n8, n8 = n - 1 := ⟨_, rfl⟩
                  rw [← hn8] at hrt2 ⊢
                  have HR2 := Lib.hid hrt2
                  clear hrt2 hn8 HRT
                  go_wp2_with (at_builtin; refine wpList_rapp rfl (.tmp 105) (.tmp 107) rfl false w5.heap.size _ nx.tail rfl (HR2.out.below ((Below.refl _ V).alloc (Nat.le_refl _) _)) _ a rfl ?k1 ?k2 ?k3 ?k4)
                  case k1 => rfl
                  case k2 => exact Nat.le_trans HV.out.size (Nat.le_succ _)
                  case k3 => have := HNXL.out; omega
                  case k4 =>
                    intro v8 w8 hr8 hb8
                    have HR8 := Lib.hid hr8
                    have HB8 : Hid (Below w5.heap.size w5 w8) := Lib.hid (HV.out.trans ((((Below.refl _ V).alloc (Nat.le_refl _) _).mono HV.out.size).trans hb8))
                    clear hr8 hb8
                    go_wp2_with fail
                    refine ⟨⟨i + 1, _, nextO n order a, now + 1, w5.heap.size, rfl, by omega, Lib.hid ⟨HAI.out.below hd HB8.out, ?_, fun q hq => HAI.out.pool.lt q hq, (hd.lt _ _ _ HAI.out.dv).1, (hd.lt _ _ _ HAI.out.dv).2, HAI.out.bel.size, HB8.out.size⟩⟩, by simp [intO]; omega⟩
                    unfold nextO
                    rw [← HNXD.out, if_pos ⟨HNI.out, HFU.out⟩]
                    exact HR8.out
              · have u5 : ((nx.length : Int) == n) = false := by simp; omega
                have u6 : decide ((nx.length : Int) = n) = false := decide_eq_false (by omega)
                obtain ⟨NL, hNL⟩ : ∃ NL, NL = nx.length := ⟨_, rfl⟩
                obtain ⟨A8, c8, hv8, _, _, _⟩ := HNx.out.shape
                subst hv8
                rw [← hNL] at u5 u6 ⊢
                have HNL := Lib.hid hNL
                have HFU := Lib.hid hfull
                clear hNL hfull
                go_wp2_with (at_builtin; refine wpList_rapp rfl (.tmp 105) (.tmp 107) rfl false w5.heap.size (.slice A8 NL c8) nx rfl ?k0 _ a rfl ?k1 ?k2 ?k3 ?k4)
                case k0 => rw [HNL.out]; exact (HNx.out.below ((Below.refl _ V).alloc (Nat.le_refl _) _))
                case k1 => exact cell_of_row _ _ 0 _ 3 (0, 0) (heap_alloc_new _ _)
                case k2 => exact Nat.le_trans HV.out.size (Below.refl V.heap.size V |>.alloc (Nat.le_refl _) _).size
                case k3 => have := HNXL.out; omega
                case k4 =>
                  intro v8 w8 hr8 hb8
                  have HR8 := Lib.hid hr8
                  have HB8 : Hid (Below w5.heap.size w5 w8) := Lib.hid (HV.out.trans ((((Below.refl _ V).alloc (Nat.le_refl _) _).mono HV.out.size).trans hb8))
                  clear hr8 hb8
                  go_wp2_with fail
                  refine ⟨⟨i + 1, _, nextO n order a, now + 1, w5.heap.size, rfl, by omega, Lib.hid ⟨HAI.out.below hd HB8.out, ?_, fun q hq => HAI.out.pool.lt q hq, (hd.lt _ _ _ HAI.out.dv).1, (hd.lt _ _ _ HAI.out.dv).2, HAI.out.bel.size, HB8.out.size⟩⟩, by simp [intO]; omega⟩
                  unfold nextO
                  rw [← HNXD.out, if_neg (fun q => HFU.out q.2)]
                  exact HR8.out
            · have hin : a ∈ order := by
                have := HH.out
                exact of_decide_eq_true this.symm
              have HINN := Lib.hid hin
              clear hin
              obtain ⟨A8, c8, hv8, _, _, _⟩ := HNx.out.shape
              subst hv8
              go_wp2_with (at_builtin; refine wpList_rapp rfl (.tmp 105) (.tmp 107) rfl false w5.heap.size _ nx rfl (HNx.out.below ((Below.refl _ V).alloc (Nat.le_refl _) _)) _ a rfl ?k1 ?k2 ?k3 ?k4)
              case k1 => exact cell_of_row _ _ 0 _ 3 (0, 0) (heap_alloc_new _ _)
              case k2 => exact Nat.le_trans HV.out.size (Below.refl V.heap.size V |>.alloc (Nat.le_refl _) _).size
              case k3 => have := HNXL.out; omega
              case k4 =>
                intro v8 w8 hr8 hb8
                have HR8 := Lib.hid hr8
                have HB8 : Hid (Below w5.heap.size w5 w8) := Lib.hid (HV.out.trans ((((Below.refl _ V).alloc (Nat.le_refl _) _).mono HV.out.size).trans hb8))
                clear hr8 hb8
                go_wp2_with fail
                refine ⟨⟨i + 1, _, nextO n order a, now + 1, w5.heap.size, rfl, by omega, Lib.hid ⟨HAI.out.below hd HB8.out, ?_, fun q hq => HAI.out.pool.lt q hq, (hd.lt _ _ _ HAI.out.dv).1, (hd.lt _ _ _ HAI.out.dv).2, HAI.out.bel.size, HB8.out.size⟩⟩, by simp [intO]; omega⟩
                unfold nextO
                rw [if_neg (fun q => q.1 HINN.out), ← HNXD.out]
                exact HR8.out
      · obtain rfl : i = len := by omega
        have t1 : decide ((i : Int) < i) = false := decide_eq_false (by omega)
        have t2 : decide (i < i) = false := decide_eq_false (by omega)
        obtain ⟨m, hm⟩ : ∃ m, m = order.length := ⟨_, rfl⟩
        have hm6 : m ≤ 6 := by
          have := HI.out.len
          have := HN.out
          omega
        obtain ⟨A5, c5, hv5, hc5a, hc5b, hc5⟩ := HI.out.row.shape
        rw [← hm] at hv5 hc5a
        subst hv5
        have HC5 := Lib.hid hc5
        have HM := Lib.hid hm
        clear hc5 hm
        go_wp2_with fail
        go_loopw [21, 20] (fun t21 t20 V => ∃ q : Nat, q ≤ 20 ∧ t21 = .int .i64 q ∧ Hid (RowN true V wr.heap.size t20 ((List.range q).filter fun r => decide (r ∈ order))) ∧ Hid (Below wr.heap.size wr V)) (fun t21 _ _ => 20 - (intO t21).toNat)
        case atStart => exact ⟨0, Nat.zero_le _, rfl, Lib.hid (RowN.nil _ _ _), Lib.hid (Below.refl _ _)⟩
        case round =>
          rename World => V
          obtain ⟨q, hq, rfl, HW, HV⟩ := hrel
          by_cases hq20 : q < 20
          · have u1 : decide ((q : Int) < 20) = true := decide_eq_true (by omega)
            go_wp2_with fail
            go_loopw [22, 20] (fun t22 t20 V' => ∃ k : Nat, k ≤ m ∧ t22 = .int .i64 k ∧ Hid (RowN true V' wr.heap.size t20 (wantK order q k)) ∧ Hid (Below wr.heap.size wr V')) (fun t22 _ _ => m - (intO t22).toNat)
            case atStart => exact ⟨0, Nat.zero_le _, rfl, Lib.hid (by rw [want0]; exact HW.out), HV⟩
            case round =>
              rename World => V'
              clear HW HV
              obtain ⟨k, hk, rfl, HW, HV⟩ := hrel
              by_cases hkl : k < m
              · have v1 : decide ((k : Int) < m) = true := decide_eq_true (by omega)
                have v2 : decide (k < m) = true := decide_eq_true hkl
                obtain ⟨y, hy⟩ : ∃ y, order[k]? = some y := ⟨_, List.getElem?_eq_getElem (by rw [← HM.out]; exact hkl)⟩
                obtain ⟨X5, hA5, hcy⟩ := HC5.out k y hy
                subst hA5
                have hcy' : V'.cell? (X5.add k) = some (.int .i64 (y : Int)) := cellB hcy HV.out
                clear hcy
                have HWL := Lib.hid (want_len order q k hq)
                by_cases hya : y = q
                · have hya' := hy
                  rw [hya] at hya' hcy'
                  have HY := Lib.hid hya'
                  have u3 : ((q : Int) == q) = true := by simp
                  have u4 : decide ((q : Int) = q) = true := decide_eq_true rfl
                  clear hy hya hya'
                  go_wp2_with (at_builtin; refine wpList_rapp rfl (.tmp 134) (.tmp 136) rfl true wr.heap.size _ _ rfl (HW.out.below ((Below.refl _ V').alloc (Nat.le_refl _) _)) _ q rfl ?k1 ?k2 ?k3 ?k4)
                  case k1 => rfl
                  case k2 => exact Nat.le_trans HV.out.size (Nat.le_succ _)
                  case k3 => have := HWL.out; omega
                  case k4 =>
                    intro v8 w8 hr8 hb8
                    rw [← want_hit order ((HI.out.ai.age.nodup (HI.out.ai.pool.apart.imp fun h => h.1))) q k HY.out] at hr8
                    have HR8 := Lib.hid hr8
                    have HB8 : Hid (Below wr.heap.size wr w8) := Lib.hid (HV.out.trans ((((Below.refl _ V').alloc (Nat.le_refl _) _).mono HV.out.size).trans hb8))
                    clear hr8 hb8
                    go_wp2_with fail
                    exact ⟨⟨k + 1, by omega, rfl, HR8, HB8⟩, by simp [intO]; omega⟩
                · have HY := Lib.hid hy
                  have HNE := Lib.hid hya
                  have u3 : ((y : Int) == q) = false := by simp; omega
                  have u4 : decide ((y : Int) = q) = false := decide_eq_false (by omega)
                  clear hy hya
                  go_wp2_with fail
                  exact ⟨⟨k + 1, by omega, rfl, Lib.hid (by rw [want_miss _ _ _ _ HY.out HNE.out]; exact HW.out), HV⟩, by simp [intO]; omega⟩
              · obtain rfl : k = m := by omega
                have v1 : decide ((k : Int) < k) = false := decide_eq_false (by omega)
                have v2 : decide (k < k) = false := decide_eq_false (by omega)
                have HW2 : Hid (RowN true V' wr.heap.size _ ((List.range (q + 1)).filter fun r => decide (r ∈ order))) := Lib.hid (by rw [← wantE, ← HM.out]; exact HW.out)
                clear HW
                go_wp2_with fail
                exact ⟨⟨q + 1, by omega, rfl, HW2, HV⟩, by simp [intO]; omega⟩
          · obtain rfl : q = 20 := by omega
            go_wp2_with fail
            refine (Try.heldP (HI.out.ai.pool.below HV.out)).mono ?_
            rintro e8 w8 ⟨v8, L, rfl, hp8, hs8, ho8, hn8, hb8⟩
            obtain ⟨hnd, hL⟩ := want_held HI.out.ai.age (HI.out.ai.pool.apart.imp fun h => h.1) (fun f hf => Nat.lt_trans (HI.out.ai.pool.frs f hf).hi (by decide)) hp8 hs8
            obtain ⟨A8, c8, hv8, hni8⟩ := (RowN.of (z := true) ho8).shape0
            obtain ⟨A9, c9, hv9, hni9⟩ := HW.out.shape0
            rw [← hL] at hv9 hni9
            obtain ⟨N, hN⟩ : ∃ N, L.length = N := ⟨_, rfl⟩
            rw [hN] at hv8 hv9
            subst hv8 hv9
            have HN8 := Lib.hid hni8
            have HN9 : Hid (NI w8 A9 L) := Lib.hid (hni9.below hb8)
            have hN1 : N ≤ 1000 := by
              have := want_len order 20 0 (Nat.le_refl _)
              rw [want0, ← hL] at this
              omega
            have HNN := Lib.hid hN
            have HB8 : Hid (Below wr.heap.size wr w8) := Lib.hid (HV.out.trans (hb8.mono HV.out.size))
            clear hp8 hs8 ho8 hn8 hb8 hnd hL hni8 hni9 hN HW
            go_wp2_with fail
            refine (Try.ints HNN.out hN1 HN8.out HN9.out).mono ?_
            rintro e9 w9 ⟨rfl, hb9⟩
            have HB9 : Hid (Below wr.heap.size wr w9) := Lib.hid (HB8.out.trans (hb9.mono HB8.out.size))
            clear hb9
            go_wp2_with fail
            refine (Try.pinned0 (HI.out.ai.pool.below HB9.out) HI.out.ai.age.pin0).mono ?_
            rintro e10 w10 ⟨rfl, hb10⟩
            have HB10 : Hid (Below wr.heap.size wr w10) := Lib.hid (HB9.out.trans (hb10.mono HB9.out.size))
            clear hb10
            go_wp2_with fail
            go_ret
            exact ⟨rfl, HI.out.ai.bel.trans (HB10.out.mono HI.out.ai.bel.size)⟩
  · have d1 : decide ((len : Int) > 80) = true := decide_eq_true (by omega)
    go_wp2_with fail
    go_ret
    exact ⟨rfl, HB1.out⟩
end Go.Proofs.Ytjilpkmcddinaaa
end

section
namespace Go.Proofs.Ytjilpkmcddinaaa
open Go.RowKit Go.Maps
theorem u8_wf {a : Int} (h : (Lit.int .u8 a).wf = true) : 0 ≤ a ∧ a < 256 := by
  simp [Lit.wf, IntKind.min, IntKind.max, IntKind.signed, IntKind.bits] at h
  omega
def IsRow (k : IntKind) (w : World) (a : Option Addr) (len cap : Nat) (zs : List Int) : Prop :=
  (a = none ∧ len = 0 ∧ cap = 0 ∧ zs = []) ∨
  ∃ x, a = some x ∧ len ≤ cap ∧ cap ≤ maxLen ∧ zs.length = cap ∧ (∀ i, i < zs.length → w.cell? (x.add i) = some (.int k (zs.getD i 0))) ∧ ∀ n ∈ zs, (Lit.int k n).wf = true
end Go.Proofs.Ytjilpkmcddinaaa
end

section
namespace Go.Proofs.Ytjilpkmcddinaaa
open Go.RowKit Go.Maps
theorem agesZ (a0 : Int) (A : Option Addr) (len cap : Nat) (zs : List Int) (w : World) (w0 : (Lit.int .u8 a0).wf = true)
    (h : IsRow .u8 w A len cap zs) :
    Calls Try.prog 5 #[.int .u8 a0, .slice A len cap] w fun e w' => e = .returned (.bool true) ∧ Below w.heap.size w w' := by
  obtain ⟨Dv, F1, F2, F3, F4⟩ := dev_ex
  have hd : Dev Dv := ⟨F2, F3, F4⟩
  obtain ⟨p0, p1⟩ := u8_wf w0
  obtain ⟨N, rfl⟩ : ∃ N : Nat, a0 = N := ⟨a0.toNat, by omega⟩
  rcases h with ⟨rfl, rfl, rfl, rfl⟩ | ⟨x, rfl, hl, hm, hz, hcell, hwz⟩
  · exact Try.ages hd F1 N (by omega) none 0 0 [] w rfl (fun _ j x h => by simp at h)
  · refine Try.ages hd F1 N (by omega) (some x) len cap ((zs.take len).map Int.toNat) w (by simp; omega) (fun _ j y hj => ?_)
    rw [List.getElem?_map, List.getElem?_take] at hj
    split at hj
    · rename_i hjl
      obtain ⟨z, hzj, rfl⟩ := Option.map_eq_some_iff.1 hj
      obtain ⟨hzl, hze⟩ := List.getElem?_eq_some_iff.1 hzj
      obtain ⟨q0, q1⟩ := u8_wf (hwz z (hze ▸ List.getElem_mem hzl))
      have hc := hcell j hzl
      have hg : zs.getD j 0 = z := by simp [List.getD, hzj]
      rw [hg] at hc
      refine ⟨by omega, x, rfl, ?_⟩
      rw [hc, Int.toNat_of_nonneg q0]
    · cases hj
end Go.Proofs.Ytjilpkmcddinaaa
end
