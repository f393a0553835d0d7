/-
  Texts of a proof over the translated program: proved evaluators and walks, part 20 of 20.
-/
import Derived.Test.YtjilpkmcddinaaaPartH19
import Derived.ArgAppend
import Derived.Below
import Derived.Carry
import Derived.Deep.RegionHeld3
import Derived.Deep.RegionLawGrows
import Derived.Deep.RegionWith
import Derived.Great.BuildSlice
import Derived.Ground.GgzProg
import Derived.Ground.SlgmProg
import Derived.Handy
import Derived.IntWalk
import Derived.Laws.BitsLemmas
import Derived.Laws.BytesArg
import Derived.Laws.CopyOwn
import Derived.Laws.CopyRow
import Derived.Laws.IdiomStrings
import Derived.Laws.MakeOwn
import Derived.Laws.Rows
import Derived.Lib.Hide
import Derived.Lib.OwnBridge
import Derived.Lib.SlKeysI
import Derived.LoopTactic
import Derived.MapKept
import Derived.Maps.Ext
import Derived.Maps.Own
import Derived.Maps.OwnSet
import Derived.Maps.RangeWalk
import Derived.Maps.Views
import Derived.Orders
import Derived.OwnWalk
import Derived.Scope
import Derived.ScopeJumps
import Derived.Shelf.SlIterI.Nil
import Derived.Shelf.SlIterI.Sorted
import Derived.Shelf.Slices.Delete
import Derived.Shelf.SortM.Plain
import Derived.Shelf.SortM.SortNone
import Derived.Test.YtjilpkmcddinaaaProg
import Derived.WalkKit
import Derived.WalkMore
import Derived.WalkSpells
set_option linter.unusedVariables false
set_option linter.unusedSimpArgs false
set_option linter.unusedSectionVars false
set_option linter.unnecessarySimpa false
section
set_option maxRecDepth 100000
namespace Go.Proofs.Ytjilpkmcddinaaa
open Go.RowKit Go.Maps
def arrOf (S : List Fr) : Array Value := ((List.range 20).map fun j => i64v (pinsOf S j)).toArray
theorem arr_at (S : List Fr) {j : Nat} (h : j < 20) : (arrOf S)[j]? = some (.int .i64 (pinsOf S j : Int)) := by
  unfold arrOf
  rw [List.getElem?_toArray, List.getElem?_map, List.getElem?_range h]
  rfl
theorem arr_set {S T : List Fr} {a y : Nat} (ha : pinsOf T a = y) (h : ∀ j, j ≠ a → pinsOf T j = pinsOf S j) : (arrOf S).setIfInBounds a (.int .i64 (y : Int)) = arrOf T := by
  apply Array.ext_getElem?
  intro j
  rw [Array.getElem?_setIfInBounds]
  have hs : (arrOf S).size = 20 := by simp [arrOf]
  by_cases hj : j < 20
  · rw [arr_at T hj]
    by_cases e : a = j
    · subst e
      rw [if_pos rfl, if_pos (by omega), ha]
    · rw [if_neg e, arr_at S hj, h j (fun q => e q.symm)]
  · have h1 : (arrOf T)[j]? = none := Array.getElem?_eq_none (by simp [arrOf]; omega)
    have h2 : (arrOf S)[j]? = none := Array.getElem?_eq_none (by omega)
    rw [h1]
    split
    · split
      · omega
      · rfl
    · exact h2
theorem str1 {w : World} {b c x : Nat} (h : w.cell? ⟨b, 0, none⟩ = some (.int .u8 (x : Int))) : (convert 39 9 (.slice (some ⟨b, 0, none⟩) 1 c)).run Try.prog w = .ok (.string (strOfNums [(x : Int)])) w :=
  run_convert_bytes_arg (w := w) 39 5 Try.underlying39 Try.underlying5 b 0 1 c [(x : Int)] rfl (fun i hi => by
    have : i = 0 := by omega
    subst this
    exact h) 9 Try.underlying9
theorem row1 {w : World} {B : Nat} {v x : Value} (h : w.ownsRow B 5 1 v 1 [x]) : ∃ g c, v = .slice (some ⟨g, 0, none⟩) 1 c ∧ B ≤ g ∧ w.cell? ⟨g, 0, none⟩ = some x := by
  rcases h.2 with ⟨_, e⟩ | ⟨g, cap, cur, rfl, hB, hg, _, _, h3, h4⟩
  · cases e
  · refine ⟨g, cap, rfl, hB, ?_⟩
    rw [cell_of_row w g 0 _ 5 _ hg]
    have : (cur.toList.take (1 * 1))[0]? = [x][0]? := by rw [h4]
    simpa using this
end Go.Proofs.Ytjilpkmcddinaaa
end

section
set_option maxRecDepth 100000
namespace Go.Proofs.Ytjilpkmcddinaaa
open Go.RowKit Go.Maps
structure HoldI (Dv : Nat → Nat → World → Prop) (w wr : World) (n kk pb mb b1 b2 xb i : Nat) (S : List Fr) (now : Nat) : Prop where
  pool : PoolI wr pb mb n kk now S
  lens : ∀ f ∈ S, 1 ≤ f.ts.length ∧ f.ts.length ≤ kk
  dv : Dv b1 b2 wr
  n1 : ¬ Own pb mb S b1
  n2 : ¬ Own pb mb S b2
  nx : ¬ Own pb mb S xb
  x1 : xb ≠ b1
  x2 : xb ≠ b2
  arr : wr.heap[xb]? = some (.cells (arrOf S) 55 (0, 0))
  low : ∀ q, Own pb mb S q → w.heap.size ≤ q
  lx : w.heap.size ≤ xb
  l1 : w.heap.size ≤ b1
  l2 : w.heap.size ≤ b2
  now' : now ≤ i
  pin' : ∀ f ∈ S, f.pins ≤ i
  bel : Below w.heap.size w wr
theorem HoldI.step {Dv : Nat → Nat → World → Prop} (hd : Dev Dv) {w wr w' : World} {n kk pb mb b1 b2 xb i : Nat} {S S' : List Fr} {now now' : Nat} (h : HoldI Dv w wr n kk pb mb b1 b2 xb i S now)
    (hp : PoolI w' pb mb n kk now' S') (hl : ∀ f ∈ S', 1 ≤ f.ts.length ∧ f.ts.length ≤ kk) (hdv : Dv b1 b2 w') (hc : Chg wr w' (fun q => Own pb mb S q ∨ q = b1 ∨ q = b2 ∨ q = xb)) (ho : ∀ q, Own pb mb S' q → Own pb mb S q ∨ wr.heap.size ≤ q)
    (ha : w'.heap[xb]? = some (.cells (arrOf S') 55 (0, 0))) (hn : now' ≤ i + 1) (hpn : ∀ f ∈ S', f.pins ≤ i + 1) : HoldI Dv w w' n kk pb mb b1 b2 xb (i + 1) S' now' := by
  have hlt := hd.lt _ _ _ h.dv
  have hx : xb < wr.heap.size := (Array.getElem?_eq_some_iff.1 h.arr).1
  have hsz := h.bel.size
  refine ⟨hp, hl, hdv, fun q => ?_, fun q => ?_, fun q => ?_, h.x1, h.x2, ha, fun q hq => ?_, h.lx, h.l1, h.l2, hn, hpn, ?_⟩
  · rcases ho _ q with q | q
    · exact h.n1 q
    · omega
  · rcases ho _ q with q | q
    · exact h.n2 q
    · omega
  · rcases ho _ q with q | q
    · exact h.nx q
    · omega
  · rcases ho _ hq with q | q
    · exact h.low _ q
    · omega
  · refine h.bel.trans ⟨hc.os, hc.tape, hc.output, hc.size, fun q hq => hc.block q (by omega) ?_⟩
    rintro (e | e | e | e)
    · have := h.low _ e
      omega
    · have := h.l1
      omega
    · have := h.l2
      omega
    · have := h.lx
      omega
theorem HoldI.arrW {Dv : Nat → Nat → World → Prop} {w wr w' : World} {n kk pb mb b1 b2 xb i : Nat} {S : List Fr} {now : Nat} (h : HoldI Dv w wr n kk pb mb b1 b2 xb i S now) (hc : Chg wr w' (fun q => Own pb mb S q ∨ q = b1 ∨ q = b2)) : w'.heap[xb]? = some (.cells (arrOf S) 55 (0, 0)) := by
  refine (hc.block xb (Array.getElem?_eq_some_iff.1 h.arr).1 ?_).trans h.arr
  rintro (e | e | e)
  · exact h.nx e
  · exact h.x1 e
  · exact h.x2 e
theorem HoldI.below {Dv : Nat → Nat → World → Prop} (hd : Dev Dv) {w wr w' : World} {n kk pb mb b1 b2 xb i : Nat} {S : List Fr} {now : Nat} (h : HoldI Dv w wr n kk pb mb b1 b2 xb i S now) (hb : Below wr.heap.size wr w') : HoldI Dv w w' n kk pb mb b1 b2 xb i S now where
  pool := h.pool.below hb
  lens := h.lens
  dv := hd.below h.dv hb
  n1 := h.n1
  n2 := h.n2
  nx := h.nx
  x1 := h.x1
  x2 := h.x2
  arr := (hb.block xb (Array.getElem?_eq_some_iff.1 h.arr).1).trans h.arr
  low := h.low
  lx := h.lx
  l1 := h.l1
  l2 := h.l2
  now' := h.now'
  pin' := h.pin'
  bel := h.bel.trans (hb.mono h.bel.size)
theorem HoldI.pinned {Dv : Nat → Nat → World → Prop} (hd : Dev Dv) {w wr W : World} {n kk pb mb b1 b2 xb i a : Nat} {S S' : List Fr} {now now' : Nat} (h : HoldI Dv w wr n kk pb mb b1 b2 xb i S now)
    (hp : PoolI W pb mb n kk now' S') (hl : ∀ f ∈ S', 1 ≤ f.ts.length ∧ f.ts.length ≤ kk) (hdv : Dv b1 b2 W) (hc : Chg wr W (fun q => Own pb mb S q ∨ q = b1 ∨ q = b2)) (ho : ∀ q, Own pb mb S' q → Own pb mb S q ∨ wr.heap.size ≤ q)
    (hn : now' ≤ i + 1) (hpn : ∀ f ∈ S', f.pins ≤ i + 1) (ha : pinsOf S' a = pinsOf S a + 1) (hoth : ∀ j, j ≠ a → pinsOf S' j = pinsOf S j) (o : Obj) : HoldI Dv w ((W.alloc o).setCell ⟨xb, a, none⟩ (.int .i64 ((pinsOf S a : Int) + 1))) n kk pb mb b1 b2 xb (i + 1) S' now' := by
  have hx : xb < wr.heap.size := (Array.getElem?_eq_some_iff.1 h.arr).1
  have harr := h.arrW hc
  have harr2 : (W.alloc o).heap[xb]? = some (.cells (arrOf S) 55 (0, 0)) := (Below.heap_alloc W o xb (Nat.lt_of_lt_of_le hx hc.size)).trans harr
  have hc2 : Chg W ((W.alloc o).setCell ⟨xb, a, none⟩ (.int .i64 ((pinsOf S a : Int) + 1))) (· = xb) := (Chg.alloc W o _).trans (Chg.setCell _ _ _)
  have hnx : ¬ Own pb mb S' xb := fun q => by
    rcases ho _ q with q | q
    · exact h.nx q
    · omega
  refine h.step hd (hp.stay fun q hq => hc2.block q (hp.lt q hq) (fun e => hnx (e ▸ hq))) hl (hd.chg hdv hc2 h.x1.symm h.x2.symm) ((hc.mono fun q h => h.imp id (fun h => h.imp id .inl)).trans (hc2.mono fun q e => .inr (.inr (.inr e)))) ho ?_ hn hpn
  rw [← arr_set (S := S) (T := S') (a := a) (y := pinsOf S a + 1) ha hoth]
  exact heap_setCell_same (W.alloc o) xb a _ 55 _ harr2
structure PinG (Dv : Nat → Nat → World → Prop) (w wr W : World) (n kk pb mb b1 b2 xb i a : Nat) (S S' : List Fr) (now' : Nat) (v : Value) : Prop where
  nxt : ∀ o, HoldI Dv w ((W.alloc o).setCell ⟨xb, a, none⟩ (.int .i64 ((pinsOf S a : Int) + 1))) n kk pb mb b1 b2 xb (i + 1) S' now'
  arr : W.heap[xb]? = some (.cells (arrOf S) 55 (0, 0))
  row : ∃ g c, v = .slice (some ⟨g, 0, none⟩) 1 c ∧ W.cell? ⟨g, 0, none⟩ = some (.int .u8 (a : Int))
  cnt : ¬ (cntTo S 20 = n ∧ pinsOf S a = 0)
  lt : pinsOf S a ≤ i
theorem HoldI.up {Dv : Nat → Nat → World → Prop} {w wr : World} {n kk pb mb b1 b2 xb i : Nat} {S : List Fr} {now : Nat} (h : HoldI Dv w wr n kk pb mb b1 b2 xb i S now) : HoldI Dv w wr n kk pb mb b1 b2 xb (i + 1) S now :=
  ⟨h.pool, h.lens, h.dv, h.n1, h.n2, h.nx, h.x1, h.x2, h.arr, h.low, h.lx, h.l1, h.l2, Nat.le_succ_of_le h.now', fun f hf => Nat.le_succ_of_le (h.pin' f hf), h.bel⟩
def intO (v : Value) : Int := match v with | .int _ q => q | _ => 0
theorem push_len {k : Nat} (k1 : 1 ≤ k) {ts : List Nat} {t : Nat} (h : ts.length ≤ k) : 1 ≤ (pushT k ts t).length ∧ (pushT k ts t).length ≤ k := by
  unfold pushT
  split
  · rename_i hh
    simp only [List.length_append, List.length_cons, List.length_nil, List.length_tail] at hh ⊢
    omega
  · rename_i hh
    simp only [List.length_append, List.length_cons, List.length_nil] at hh ⊢
    omega
theorem Try.pinAll {Dv : Nat → Nat → World → Prop} (hd : Dev Dv) {w wr : World} {n kk pb mb b1 b2 xb i a : Nat} {S : List Fr} {now : Nat} (h : HoldI Dv w wr n kk pb mb b1 b2 xb i S now) (ha1 : 2 ≤ a) (ha2 : a < 18) (hi : i ≤ 80) :
    Calls Try.prog 11 #[.pointer (some ⟨pb, 0, none⟩), .pointer (some ⟨b1, 0, none⟩), .agg #[.int .i64 (a : Int), .int .i64 1]] wr fun e W =>
      (cntTo S 20 = n ∧ pinsOf S a = 0 ∧ e = .returned (.tuple #[.slice none 0 0, .bool false, .int .i64 8]) ∧ Below wr.heap.size wr W) ∨ (∃ (S' : List Fr) (now' : Nat) (v : Value) (there : Bool), e = .returned (.tuple #[v, .bool there, .int .i64 0]) ∧ PinG Dv w wr W n kk pb mb b1 b2 xb i a S S' now' v) := by
  have hap : S.Pairwise fun f g => f.a ≠ g.a := h.pool.apart.imp fun h => h.1
  have h18 : ∀ f ∈ S, f.a < 18 := fun f hf => (h.pool.frs f hf).hi
  have hcnt := cnt_all hap h18
  have hle := h.pool.le
  have hk1 := h.pool.k1
  have hnow := h.now'
  rcases find_mem' (S := S) (a := a) with ⟨f, hf, hfa, hfp⟩ | ⟨hno, hp0⟩
  · subst hfa
    obtain ⟨T, hper⟩ : ∃ T, S.Perm (f :: T) := by
      obtain ⟨s, t, e⟩ := List.append_of_mem hf
      exact ⟨s ++ t, by rw [e]; exact List.perm_middle⟩
    have hpi := h.pin' f hf
    refine (Try.pinHit (h.pool.perm hper) (h.lens f hf).2 (by omega) (by omega)).mono ?_
    rintro e W ⟨f', v, rfl, hfa', hfp', hft', hp', hrow, hbl, hc⟩
    have hos : ∀ q, Own pb mb (f :: T) q → Own pb mb S q := fun q h => h.perm hper.symm
    have hc' : Chg wr W (fun q => Own pb mb S q ∨ q = b1 ∨ q = b2) := hc.mono fun q h => .inl (hos q h)
    have ho' : ∀ q, Own pb mb (f' :: T) q → Own pb mb S q ∨ wr.heap.size ≤ q := fun q hq => by
      rcases hq with hq | hq | ⟨g, hg, hq⟩
      · exact .inl (.inl hq)
      · exact .inl (.inr (.inl hq))
      · rcases List.mem_cons.1 hg with rfl | hg
        · rcases hbl q hq with h1 | h1
          · exact .inl (hos q (.inr (.inr ⟨f, by simp, h1⟩)))
          · exact .inr h1
        · exact .inl (hos q (.inr (.inr ⟨g, by simp [hg], hq⟩)))
    have hT : ∀ g ∈ T, g ∈ S := fun g hg => hper.mem_iff.2 (by simp [hg])
    refine .inr ⟨f' :: T, now + 1, v, true, rfl, fun o => h.pinned hd hp' ?_ (hd.chg h.dv hc (fun q => h.n1 (hos _ q)) (fun q => h.n2 (hos _ q))) hc' ho' (by omega) ?_ ?_ ?_ o, h.arrW hc', ?_, ?_, by omega⟩
    · intro g hg
      rcases List.mem_cons.1 hg with rfl | hg
      · rw [hft']; exact push_len hk1 (h.lens f hf).2
      · exact h.lens g (hT g hg)
    · intro g hg
      rcases List.mem_cons.1 hg with rfl | hg
      · omega
      · exact Nat.le_succ_of_le (h.pin' g (hT g hg))
    · rw [pins_hit hper hap hfa', if_pos rfl, hfp', hfp]
    · intro j hj
      rw [pins_hit hper hap hfa', if_neg (fun e => hj e.symm)]
    · obtain ⟨g, c, e, _, hx⟩ := row1 hrow
      exact ⟨g, c, e, hx⟩
    · rintro ⟨q1, q2⟩
      have := filt_lt hf (by omega)
      omega
  · refine (Try.pinMiss hd h.pool h.dv ha1 ha2 hno (fun f hf => (h.lens f hf).1) h.n1 h.n2 (by omega)).mono ?_
    rintro e W (⟨hfull, hall, rfl, hb⟩ | ⟨f, T, w1, ⟨hfa, hfp, hft, hfr, hdv1, hch, hgone, hp1⟩, f', v, rfl, hfa', hfp', hft', hp', hrow, hbl, hc⟩)
    · exact .inl ⟨by rw [hcnt, filt_all hall, hfull], hp0, rfl, hb⟩
    · have hT : ∀ g ∈ T, g ∈ S := fun g hg => by
        rcases hgone with ⟨_, rfl⟩ | ⟨_, q, hper, _⟩
        · exact hg
        · exact hper.mem_iff.2 (by simp [hg])
      have hdl := hd.lt _ _ _ h.dv
      have hos : ∀ q, q < wr.heap.size → Own pb mb (f :: T) q → Own pb mb S q := fun q hq hh => by
        rcases hh with hh | hh | ⟨g, hg, hh⟩
        · exact .inl hh
        · exact .inr (.inl hh)
        · rcases List.mem_cons.1 hg with rfl | hg
          · have := hfr q hh
            omega
          · exact .inr (.inr ⟨g, hT g hg, hh⟩)
      have hc' : Chg wr W (fun q => Own pb mb S q ∨ q = b1 ∨ q = b2) := hch.trans' hc (fun q hq hh => .inl (hos q hq hh))
      have ho' : ∀ q, Own pb mb (f' :: T) q → Own pb mb S q ∨ wr.heap.size ≤ q := fun q hq => by
        rcases hq with hq | hq | ⟨g, hg, hq⟩
        · exact .inl (.inl hq)
        · exact .inl (.inr (.inl hq))
        · rcases List.mem_cons.1 hg with rfl | hg
          · rcases hbl q hq with h1 | h1
            · exact .inr (hfr q h1)
            · have := hch.size
              exact .inr (by omega)
          · exact .inl (.inr (.inr ⟨g, hT g hg, hq⟩))
      refine .inr ⟨f' :: T, now + 1, v, false, rfl, fun o => h.pinned hd hp' ?_ (hd.chg hdv1 hc (fun q => h.n1 (hos _ hdl.1 q)) (fun q => h.n2 (hos _ hdl.2 q))) hc' ho' (by omega) ?_ ?_ ?_ o, h.arrW hc', ?_, ?_, by omega⟩
      · intro g hg
        rcases List.mem_cons.1 hg with rfl | hg
        · rw [hft']; exact push_len hk1 (by rw [hft]; exact Nat.zero_le _)
        · exact h.lens g (hT g hg)
      · intro g hg
        rcases List.mem_cons.1 hg with rfl | hg
        · omega
        · exact Nat.le_succ_of_le (h.pin' g (hT g hg))
      · rw [pins_cons, if_pos (hfa'.trans hfa), hfp', hfp, hp0]
      · intro j hj
        rw [pins_cons, if_neg (fun e => hj ((e.symm.trans hfa').trans hfa)), pins_gone hap hgone]
      · obtain ⟨g, c, e, _, hx⟩ := row1 hrow
        exact ⟨g, c, e, by rw [← hfa]; exact hx⟩
      · rintro ⟨q1, _⟩
        rcases hgone with ⟨q2, _⟩ | ⟨q2, g, hper, q3, _⟩
        · have := List.length_filter_le (fun f : Fr => decide (0 < f.pins)) S
          omega
        · have := filt_lt (hper.mem_iff.2 (by simp : g ∈ g :: T)) q3
          omega
end Go.Proofs.Ytjilpkmcddinaaa
end

section
set_option maxRecDepth 100000
namespace Go.Proofs.Ytjilpkmcddinaaa
open Go.RowKit Go.Maps
set_option maxHeartbeats 4000000 in
theorem Try.holds {Dv : Nat → Nat → World → Prop} (hd : Dev Dv) (hpg : ∀ w, Calls Try.prog 10 #[.int .i64 20] w fun e w' => ∃ b1 b2 m, e = .returned (.tuple #[.pointer (some ⟨b1, 0, none⟩), m]) ∧ Dv b1 b2 w' ∧ w.heap.size ≤ b1 ∧ w.heap.size ≤ b2 ∧ Below w.heap.size w w')
    (a0 a1 : Nat) (h0 : a0 < 256) (h1 : a1 < 256) (A : Option Addr) (len c : Nat) (l : List Nat) (w : World) (hl : l.length = len) (hlc : len ≤ 80 → ∀ (j x : Nat), l[j]? = some x → x < 256 ∧ ∃ X, A = some X ∧ w.cell? (X.add j) = some (.int .u8 (x : Int))) :
    Calls Try.prog 4 #[.int .u8 (a0 : Int), .int .u8 (a1 : Int), .slice A len c] w fun e w' => e = .returned (.bool true) ∧ Below w.heap.size w w' := by
  obtain ⟨n, hn⟩ : ∃ n, n = 1 + a0 % 8 := ⟨_, rfl⟩
  obtain ⟨kk, hk⟩ : ∃ kk, kk = 1 + a1 % 8 := ⟨_, rfl⟩
  have s1 : (a0 : Int).tmod 8 = ((a0 % 8 : Nat) : Int) := by rw [Int.tmod_eq_emod_of_nonneg (by omega)]; rfl
  have s2 : (a1 : Int).tmod 8 = ((a1 % 8 : Nat) : Int) := by rw [Int.tmod_eq_emod_of_nonneg (by omega)]; rfl
  have H1 := Lib.hid hl
  have H2 := Lib.hid hlc
  have HN := Lib.hid hn
  have HK := Lib.hid hk
  clear hl hlc hn hk
  go_enter Try.func4, Try.ntmps4
  go_wp2_with fail
  refine (knownC w).mono ?_
  rintro e w1 ⟨rfl, hb1⟩
  have HB1 := Lib.hid hb1
  clear hb1
  by_cases hlen : len ≤ 80
  · have d1 : decide ((len : Int) > 80) = false := decide_eq_false (by omega)
    go_wp2_with fail
    rw [show (1 + (a0 : Int) % 8) = (n : Int) by have := HN.out; omega, show (1 + (a1 : Int) % 8) = (kk : Int) by have := HK.out; omega]
    refine (Try.new (by have := HN.out; omega) (by have := HN.out; omega) (by have := HK.out; omega) (by have := HK.out; omega)).mono ?_
    rintro e w2 ⟨pb, mb, rfl, hp, hpb, hmb, hb2⟩
    have HP := Lib.hid hp
    have HPL := Lib.hid (And.intro hpb hmb)
    have HB2 := Lib.hid (HB1.out.trans (hb2.mono HB1.out.size))
    have hsz1 := HB1.out.size
    clear hp hpb hmb hb2
    go_wp2_with fail
    refine (hpg w2).mono ?_
    rintro e w3 ⟨b1, b2, m, rfl, hdv, hl1, hl2, hb3⟩
    have HDV := Lib.hid hdv
    have HL := Lib.hid (And.intro hl1 hl2)
    have HB3 := Lib.hid (HB2.out.trans (hb3.mono HB2.out.size))
    have HP3 := Lib.hid (HP.out.below hb3)
    have hsz2 := HB2.out.size
    have hsz3 := HB3.out.size
    clear hdv hl1 hl2 hb3 s1 s2
    have q1 : ∀ w : World, (binOp .eql 24 (.pointer (some ⟨pb, 0, none⟩)) (.pointer none)).run Try.prog w = .ok (.bool false) w := fun w => by go_simp
    have q2 : ∀ w : World, (binOp .eql 31 (.pointer (some ⟨b1, 0, none⟩)) (.pointer none)).run Try.prog w = .ok (.bool false) w := fun w => by go_simp
    go_wp2_with fail
    have HI0 : Hid (HoldI Dv w (w3.alloc (.cells (arrOf []) 55)) n kk pb mb b1 b2 w3.heap.size 0 [] 0) := Lib.hid (by
      have hpl := HP3.out.lt
      have h1 := HP.out.lt pb (.inl rfl)
      have h2 := HP.out.lt mb (.inr (.inl rfl))
      have h3 := HPL.out
      have h4 := HL.out
      have h5 := hpl pb (.inl rfl)
      have h6 := hpl mb (.inr (.inl rfl))
      have h7 := hd.lt _ _ _ HDV.out
      have hno : ∀ q, Own pb mb [] q → q = pb ∨ q = mb := fun q h => by
        rcases h with h | h | ⟨f, hf, _⟩
        · exact .inl h
        · exact .inr h
        · simp at hf
      have hB := (Below.refl w3.heap.size w3).alloc (Nat.le_refl _) (.cells (arrOf []) 55)
      refine ⟨HP3.out.below hB, fun f hf => by simp at hf, hd.below HDV.out hB, ?_, ?_, ?_, ?_, ?_, heap_alloc_new _ _, ?_, ?_, ?_, ?_, Nat.le_refl _, fun f hf => by simp at hf, HB3.out.trans (hB.mono HB3.out.size)⟩
      · intro h; rcases hno _ h with h | h <;> omega
      · intro h; rcases hno _ h with h | h <;> omega
      · intro h; rcases hno _ h with h | h <;> omega
      · omega
      · omega
      · intro q h; rcases hno _ h with h | h <;> omega
      all_goals omega)
    rw [show (#[Value.int .i64 0, Value.int .i64 0, Value.int .i64 0, Value.int .i64 0, Value.int .i64 0, Value.int .i64 0, Value.int .i64 0, Value.int .i64 0, Value.int .i64 0, Value.int .i64 0, Value.int .i64 0, Value.int .i64 0, Value.int .i64 0, Value.int .i64 0, Value.int .i64 0, Value.int .i64 0, Value.int .i64 0, Value.int .i64 0, Value.int .i64 0, Value.int .i64 0] : Array Value) = arrOf [] from rfl]
    generalize w3.alloc (.cells (arrOf []) 55) = w4 at HI0 ⊢
    generalize w3.heap.size = xb at HI0 ⊢
    clear q1 q2 HP HPL HDV HL HP3 HB2 HB3 hsz1 hsz2 hsz3 HB1
    go_loopw [13] (fun t13 wr => ∃ (i : Nat) (S : List Fr) (now : Nat), t13 = .int .i64 i ∧ i ≤ len ∧ Hid (HoldI Dv w wr n kk pb mb b1 b2 xb i S now)) (fun t13 _ => len - (intO t13).toNat)
    case atStart => exact ⟨0, [], 0, rfl, Nat.zero_le _, HI0⟩
    case round =>
      obtain ⟨i, S, now, rfl, hil, HI⟩ := hrel
      clear HI0
      by_cases hlt : i < len
      · obtain ⟨x, hx⟩ : ∃ x, l[i]? = some x := ⟨_, List.getElem?_eq_getElem (by rw [H1.out]; exact hlt)⟩
        obtain ⟨hx256, X, hA, hcx⟩ := H2.out hlen i x hx
        subst hA
        have hcx' : wr.cell? (X.add i) = some (.int .u8 (x : Int)) := (HI.out.bel.cell (block_lt_of_cell hcx)).trans hcx
        have t1 : decide ((i : Int) < len) = true := decide_eq_true (by omega)
        have t2 : decide (i < len) = true := decide_eq_true hlt
        clear hx hcx
        obtain ⟨a, ha⟩ : ∃ a, a = 2 + x % 16 := ⟨_, rfl⟩
        have ha1 : 2 ≤ a := by omega
        have ha2 : a < 18 := by omega
        have HAx := Lib.hid ha
        clear ha
        go_upto_region 15 with fail
        rw [show (2 + (x : Int) % 16) = (a : Int) by have := HAx.out; omega]
        by_cases hx128 : 128 ≤ x
        · have t3 : decide ((x : Int) ≥ 128) = true := decide_eq_true (by omega)
          by_cases hp0 : pinsOf S a = 0
          · go_wp2_with fail
            refine (Try.unpin0 HI.out.pool (by omega) hp0).mono ?_
            rintro e5 w5 ⟨rfl, hb5⟩
            have harr := HI.out.arrW (w' := w5) (Chg.below hb5 _)
            have hca : w5.cell? ⟨xb, a, none⟩ = some (.int .i64 0) := by rw [cell_of_row w5 xb a _ 55 _ harr, arr_at S (by omega), hp0]; rfl
            have hfa : w5.frozen? ⟨xb, a, none⟩ = false := frozen_of_row w5 xb a _ 55 harr
            have HI5 : Hid (HoldI Dv w (w5.setCell ⟨xb, a, none⟩ (.int .i64 0)) n kk pb mb b1 b2 xb (i + 1) S now) := Lib.hid (by
              have hc : Chg wr (w5.setCell ⟨xb, a, none⟩ (.int .i64 0)) (· = xb) := (Chg.below hb5 _).trans (Chg.setCell _ _ _)
              refine HI.out.step hd (HI.out.pool.stay fun q hq => hc.block q (HI.out.pool.lt q hq) (fun e => HI.out.nx (e ▸ hq))) HI.out.lens (hd.chg HI.out.dv hc HI.out.x1.symm HI.out.x2.symm) (hc.mono fun q e => .inr (.inr (.inr e))) (fun q h => .inl h) ?_ (Nat.le_succ_of_le HI.out.now') (fun f hf => Nat.le_succ_of_le (HI.out.pin' f hf))
              rw [← arr_set (S := S) (T := S) (a := a) (y := 0) hp0 (fun _ _ => rfl)]
              exact heap_setCell_same w5 xb a _ 55 _ harr)
            clear harr hb5
            go_wp2_with fail
            exact ⟨⟨i + 1, S, now, rfl, by omega, HI5⟩, by simp [intO]; omega⟩
          · obtain ⟨f, hf, hfa0, hfp⟩ : ∃ f ∈ S, f.a = a ∧ pinsOf S a = f.pins := by
              rcases find_mem' (S := S) (a := a) with h | ⟨_, h⟩
              · exact h
              · exact absurd h hp0
            obtain ⟨T, hper⟩ : ∃ T, S.Perm (f :: T) := by
              obtain ⟨s, t, e⟩ := List.append_of_mem hf
              exact ⟨s ++ t, by rw [e]; exact List.perm_middle⟩
            have HPER := Lib.hid hper
            have HFP := Lib.hid hfp
            have HF := Lib.hid hf
            have hpos : 0 < f.pins := by omega
            have hpb : f.pins ≤ i := HI.out.pin' f hf
            clear hper hfp hf hp0
            subst hfa0
            go_wp2_with fail
            refine (Try.unpin1 (HI.out.pool.perm HPER.out) hpos).mono ?_
            rintro e5 w5 ⟨rfl, hp5, hc5⟩
            have hc5' : Chg wr w5 (fun q => Own pb mb S q ∨ q = b1 ∨ q = b2) := hc5.mono fun q h => .inl (h.perm HPER.out.symm)
            have harr := HI.out.arrW hc5'
            obtain ⟨P, hP⟩ : ∃ P, P = (f.pins : Int) := ⟨_, rfl⟩
            have hca : w5.cell? ⟨xb, f.a, none⟩ = some (.int .i64 P) := by rw [cell_of_row w5 xb f.a _ 55 _ harr, arr_at S (by omega), HFP.out, hP]
            have hfa : w5.frozen? ⟨xb, f.a, none⟩ = false := frozen_of_row w5 xb f.a _ 55 harr
            have HI5 : Hid (HoldI Dv w (w5.setCell ⟨xb, f.a, none⟩ (.int .i64 (P - 1))) n kk pb mb b1 b2 xb (i + 1) ({ f with pins := f.pins - 1 } :: T) now) := Lib.hid (by
              have hc : Chg w5 (w5.setCell ⟨xb, f.a, none⟩ (.int .i64 (P - 1))) (· = xb) := Chg.setCell _ _ _
              have hap : S.Pairwise fun f g => f.a ≠ g.a := HI.out.pool.apart.imp fun h => h.1
              have hos : ∀ q, Own pb mb ({ f with pins := f.pins - 1 } :: T) q → Own pb mb S q := fun q h => (own_same (f := f) (f' := { f with pins := f.pins - 1 }) rfl h).perm HPER.out.symm
              have hdv5 : Dv b1 b2 w5 := hd.chg HI.out.dv hc5 (fun h => HI.out.n1 (h.perm HPER.out.symm)) (fun h => HI.out.n2 (h.perm HPER.out.symm))
              refine HI.out.step hd (hp5.stay fun q hq => hc.block q (hp5.lt q hq) (fun e => HI.out.nx (hos _ (e ▸ hq)))) ?_ (hd.chg hdv5 hc HI.out.x1.symm HI.out.x2.symm) ((hc5'.mono fun q h => h.imp id (fun h => h.imp id .inl)).trans (hc.mono fun q e => .inr (.inr (.inr e)))) (fun q h => .inl (hos q h)) ?_ (Nat.le_succ_of_le HI.out.now') ?_
              · intro g hg
                rcases List.mem_cons.1 hg with rfl | hg
                · exact HI.out.lens f HF.out
                · exact HI.out.lens g (HPER.out.mem_iff.2 (by simp [hg]))
              · rw [← arr_set (S := S) (T := { f with pins := f.pins - 1 } :: T) (a := f.a) (y := f.pins - 1) (by rw [pins_hit HPER.out hap (by rfl), if_pos rfl]) (fun j hj => by rw [pins_hit HPER.out hap (by rfl), if_neg (fun e => hj e.symm)])]
                rw [show (P - 1) = ((f.pins - 1 : Nat) : Int) by omega]
                exact heap_setCell_same w5 xb f.a _ 55 _ harr
              · intro g hg
                rcases List.mem_cons.1 hg with rfl | hg
                · show f.pins - 1 ≤ i + 1
                  omega
                · exact Nat.le_succ_of_le (HI.out.pin' g (HPER.out.mem_iff.2 (by simp [hg]))))
            have hP1 : 0 < P := by omega
            have hP2 : P ≤ 80 := by omega
            clear harr hp5 hc5 hc5' hP hpos hpb
            go_wp2_with fail
            refine ⟨⟨i + 1, { f with pins := f.pins - 1 } :: T, now, rfl, by omega, ?_⟩, by simp [intO]; omega⟩
            rw [show max 0 (P - 1) = P - 1 by omega]
            exact HI5
        · have t3 : decide ((x : Int) ≥ 128) = false := decide_eq_false (by omega)
          go_wp2_with fail
          go_loopw [17, 16] (fun t17 t16 wr' => wr' = wr ∧ ∃ j : Nat, j ≤ 20 ∧ t17 = .int .i64 j ∧ t16 = .int .i64 (cntTo S j)) (fun t17 _ _ => 20 - (intO t17).toNat)
          case atStart => exact ⟨rfl, 0, Nat.zero_le _, rfl, rfl⟩
          case round =>
            obtain ⟨rfl, j, hj, rfl, rfl⟩ := hrel
            have hcl := cnt_le S j
            by_cases hj20 : j < 20
            · have u1 : decide ((j : Int) < 20) = true := decide_eq_true (by omega)
              have hcs := cnt_succ S j
              have hcj : wr.cell? ⟨xb, j, none⟩ = some (.int .i64 (pinsOf S j : Int)) := by rw [cell_of_row wr xb j _ 55 _ HI.out.arr, arr_at S hj20]
              by_cases hpj : 0 < pinsOf S j
              · have u2 : decide ((pinsOf S j : Int) > 0) = true := decide_eq_true (by omega)
                rw [if_pos hpj] at hcs
                have HCS := Lib.hid hcs
                clear hcs
                go_wp2_with fail
                exact ⟨⟨by first | rfl | trivial, j + 1, by omega, rfl, by rw [HCS.out]; rfl⟩, by simp [intO]; omega⟩
              · have u2 : decide ((pinsOf S j : Int) > 0) = false := decide_eq_false (by omega)
                rw [if_neg hpj] at hcs
                have HCS := Lib.hid hcs
                clear hcs
                go_wp2_with fail
                exact ⟨⟨by first | rfl | trivial, j + 1, by omega, rfl, by rw [HCS.out]; rfl⟩, by simp [intO]; omega⟩
            · obtain rfl : j = 20 := by omega
              go_wp2_with fail
              refine (Try.pinAll hd HI.out ha1 ha2 (by omega)).mono ?_
              rintro e6 W (⟨hcn, hp0, rfl, hb6⟩ | ⟨S', now', v, there, rfl, hG⟩)
              · have HCN := Lib.hid hcn
                have HPZ := Lib.hid hp0
                have hbe := HI.out.below hd hb6
                have HI6 := Lib.hid hbe
                have hca : W.cell? ⟨xb, a, none⟩ = some (.int .i64 0) := by rw [cell_of_row W xb a _ 55 _ HI6.out.arr, arr_at S (by omega), HPZ.out]; rfl
                clear hcn hp0 hb6 hbe hcl
                rw [HCN.out]
                have v1 : ((n : Int) == n) = true := by simp
                have v2 : decide ((n : Int) = n) = true := decide_eq_true rfl
                have HUP := Lib.hid HI6.out.up
                go_wp2_with fail
                go_loopw [21] (fun t21 V => ∃ q : Nat, 2 ≤ q ∧ q ≤ 18 ∧ t21 = .int .i64 q ∧ Hid (HoldI Dv w V n kk pb mb b1 b2 xb (i + 1) S now)) (fun t21 _ => 18 - (intO t21).toNat)
                case atStart => exact ⟨2, Nat.le_refl _, by omega, rfl, HUP⟩
                case round =>
                  rename World => V
                  obtain ⟨q, hq2, hq18, rfl, HV⟩ := hrel
                  by_cases hq : q < 18
                  · have z1 : decide ((q : Int) < 18) = true := decide_eq_true (by omega)
                    obtain ⟨Q, hQ⟩ : ∃ Q, (pinsOf S q : Int) = Q := ⟨_, rfl⟩
                    have hcQ : V.cell? ⟨xb, q, none⟩ = some (.int .i64 Q) := by rw [cell_of_row V xb q _ 55 _ HV.out.arr, arr_at S (by omega), hQ]
                    have z2 : (q : Int) < 20 := by omega
                    have HQ := Lib.hid hQ
                    clear hQ
                    go_upto_region 36 with fail
                    refine wp_region_noPanic ?_
                    refine wp_region_held_drew (S := (fun Z => Z.cell? ⟨xb, q, none⟩ = some (.int .i64 Q))) (by kernel_rfl) ?_ (fun hHeld => ?_)
                    · exact hcQ
                    refine wpAnyH_take (i := 0) (oi := { dst := some 146, op := Op.move (Operand.tmp 8), type := 24, pos := "law.go:152", after := #[], guard := none }) (v := ?_) rfl (by kernel_rfl) (by kernel_rfl) (by kernel_rfl) (fun _ _ _ h => h) (Or.inl ⟨by rfl, ?_⟩) (by assumption) ?_
                    rotate_left
                    · (intro w hSw; (try dsimp only at hSw); go_simp; try with_reducible rfl)
                    try simp only [Act.put, List.setIfInBounds_toArray, List.set_cons_zero, List.set_cons_succ]
                    refine wpAnyH_take (i := 1) (oi := { dst := some 147, op := Op.move (Operand.tmp 21), type := 3, pos := "law.go:152", after := #[], guard := none }) (v := ?_) rfl (by kernel_rfl) (by kernel_rfl) (by kernel_rfl) (fun _ _ _ h => h) (Or.inl ⟨by rfl, ?_⟩) (by assumption) ?_
                    rotate_left
                    · (intro w hSw; (try dsimp only at hSw); go_simp; try with_reducible rfl)
                    try simp only [Act.put, List.setIfInBounds_toArray, List.set_cons_zero, List.set_cons_succ]
                    refine wpAnyH_take (i := 3) (oi := { dst := some 149, op := Op.move (Operand.tmp 21), type := 3, pos := "law.go:152", after := #[], guard := none }) (v := ?_) rfl (by kernel_rfl) (by kernel_rfl) (by kernel_rfl) (fun _ _ _ h => h) (Or.inl ⟨by rfl, ?_⟩) (by assumption) ?_
                    rotate_left
                    · (intro w hSw; (try dsimp only at hSw); go_simp; try with_reducible rfl)
                    try simp only [Act.put, List.setIfInBounds_toArray, List.set_cons_zero, List.set_cons_succ]
                    refine wpAnyH_take (i := 4) (oi := { dst := some 150, op := Op.indexAddr 55 (Operand.tmp 12) (Operand.tmp 149), type := 0, pos := "law.go:152", after := #[{ on := 3, ground := Ground.data }], guard := none }) (v := ?_) rfl (by kernel_rfl) (by kernel_rfl) (by kernel_rfl) (fun _ _ _ h => h) (Or.inl ⟨by rfl, ?_⟩) (by assumption) ?_
                    rotate_left
                    · (intro w hSw; (try dsimp only at hSw); go_simp; try with_reducible rfl)
                    try simp only [Act.put, List.setIfInBounds_toArray, List.set_cons_zero, List.set_cons_succ]
                    refine wpAnyH_take (i := 5) (oi := { dst := some 151, op := Op.load 3 (Operand.tmp 150), type := 3, pos := "law.go:152", after := #[{ on := 4, ground := Ground.data }], guard := none }) (v := ?_) rfl (by kernel_rfl) (by kernel_rfl) (by kernel_rfl) (fun _ _ _ h => h) (Or.inl ⟨by rfl, ?_⟩) (by assumption) ?_
                    rotate_left
                    · (intro w hSw; (try dsimp only at hSw); go_simp; try with_reducible rfl)
                    try simp only [Act.put, List.setIfInBounds_toArray, List.set_cons_zero, List.set_cons_succ]
                    refine wpAnyH_ready (rs := [2]) (by kernel_rfl) (by simp) ?_
                    refine AllReadyH.cons (o := { dst := some 148, op := Op.call { callee := Callee.value (Operand.func 17), args := #[Operand.tmp 146, Operand.tmp 147], argTypes := #[24, 3] }, type := 3, pos := "law.go:152", after := #[{ on := 0, ground := Ground.data }, { on := 1, ground := Ground.data }], guard := none }) rfl (fun K hK => ?_) AllReadyH.nil
                    go_simp
                    refine (Try.pins (a := q) (HV.out.pool.below (Below.refl _ V).drew) (by omega)).mono ?_
                    rintro e7 w7 ⟨rfl, hb7⟩
                    rw [HQ.out]
                    have hq7 := cellB (w := V.drew) hcQ hb7
                    have HV7 := Lib.hid (HV.out.below hd ((Below.refl _ V).drew.trans (hb7.mono (Nat.le_refl _))))
                    clear hb7
                    refine hK.out _ _ ?_ (fun hHeld => ?_)
                    · exact hq7
                    clear hK K
                    try simp only [Act.put, List.setIfInBounds_toArray, List.set_cons_zero, List.set_cons_succ]
                    refine wpAnyH_take (i := 6) (oi := { dst := some 152, op := Op.binOp BinOp.neq 3 (Operand.tmp 148) (Operand.tmp 151) 3, type := 4, pos := "law.go:152", after := #[{ on := 2, ground := Ground.data }, { on := 5, ground := Ground.data }], guard := none }) (v := ?_) rfl (by kernel_rfl) (by kernel_rfl) (by kernel_rfl) (fun _ _ _ h => h) (Or.inl ⟨by rfl, ?_⟩) (by assumption) ?_
                    rotate_left
                    · (intro w hSw; (try dsimp only at hSw); go_simp; try with_reducible rfl)
                    try simp only [Act.put, List.setIfInBounds_toArray, List.set_cons_zero, List.set_cons_succ]
                    refine wpAnyH_done (by kernel_rfl) ?_ _
                    refine NoPanic.normal ?_
                    clear hHeld
                    go_wp2_with fail
                    exact ⟨⟨q + 1, by omega, by omega, rfl, HV7⟩, by simp [intO]; omega⟩
                  · obtain rfl : q = 18 := by omega
                    go_wp2_with fail
                    exact ⟨⟨i + 1, S, now, rfl, by omega, HV⟩, by simp [intO]; omega⟩
              · have HG := Lib.hid hG
                obtain ⟨g, cg, rfl, hcg⟩ := hG.row
                clear hG
                obtain ⟨CN, hCN⟩ : ∃ CN, CN = cntTo S 20 := ⟨_, rfl⟩
                rw [← hCN]
                obtain ⟨P, hP⟩ : ∃ P, P = (pinsOf S a : Int) := ⟨_, rfl⟩
                have hca : W.cell? ⟨xb, a, none⟩ = some (.int .i64 P) := by rw [cell_of_row W xb a _ 55 _ HG.out.arr, arr_at S (by omega), hP]
                have hPb : 0 ≤ P ∧ P ≤ 80 := by have := HG.out.lt; omega
                have hno : ¬ (CN = n ∧ P = 0) := fun h => HG.out.cnt ⟨by omega, by omega⟩
                have HCN := Lib.hid hCN
                have HP := Lib.hid hP
                clear hCN hP hcl
                by_cases hcn : CN = n
                · have w1' : ((CN : Int) == n) = true := by simp; omega
                  have w2' : (P == 0) = false := by simp; omega
                  go_upto_region 29 with fail
                  have hst1 := str1 (c := cg) hcg
                  have hca2 : (W.alloc (.cells #[.int .u8 (a : Int)] 5)).cell? ⟨W.heap.size, 0, none⟩ = some (.int .u8 (a : Int)) := cell_of_row _ _ 0 _ 5 (0, 0) (heap_alloc_new _ _)
                  have hst2 := str1 (c := 1) hca2
                  have hcx3 : (W.alloc (.cells #[.int .u8 (a : Int)] 5)).cell? ⟨xb, a, none⟩ = some (.int .i64 P) := (World.cell?_of_block (w := W) (Below.heap_alloc _ _ _ (block_lt_of_cell hca))).trans hca
                  have hfx3 : (W.alloc (.cells #[.int .u8 (a : Int)] 5)).frozen? ⟨xb, a, none⟩ = false := frozen_of_row _ xb a _ 55 ((Below.heap_alloc W (.cells #[.int .u8 (a : Int)] 5) xb (block_lt_of_cell hca)).trans HG.out.arr)
                  generalize strOfNums [(a : Int)] = ST at hst1 hst2
                  have z0 : IntKind.u8.wrap (a : Int) = a := by rw [IntKind.wrap_u8]; omega
                  have z9 : IntKind.i64.wrap (P + 1) = P + 1 := by rw [IntKind.wrap_i64]; omega
                  have HN9 : Hid (HoldI Dv w ((W.alloc (.cells #[.int .u8 (a : Int)] 5)).setCell ⟨xb, a, none⟩ (.int .i64 (P + 1))) n kk pb mb b1 b2 xb (i + 1) S' now') := Lib.hid (by rw [HP.out]; exact HG.out.nxt _)
                  go_wp2_with fail
                  go_loopw [21] (fun t21 V => ∃ q : Nat, 2 ≤ q ∧ q ≤ 18 ∧ t21 = .int .i64 q ∧ Hid (HoldI Dv w V n kk pb mb b1 b2 xb (i + 1) S' now')) (fun t21 _ => 18 - (intO t21).toNat)
                  case atStart => exact ⟨2, Nat.le_refl _, by omega, rfl, HN9⟩
                  case round =>
                    rename World => V
                    obtain ⟨q, hq2, hq18, rfl, HV⟩ := hrel
                    by_cases hq : q < 18
                    · have z1 : decide ((q : Int) < 18) = true := decide_eq_true (by omega)
                      obtain ⟨Q, hQ⟩ : ∃ Q, (pinsOf S' q : Int) = Q := ⟨_, rfl⟩
                      have hcQ : V.cell? ⟨xb, q, none⟩ = some (.int .i64 Q) := by rw [cell_of_row V xb q _ 55 _ HV.out.arr, arr_at S' (by omega), hQ]
                      have z2 : (q : Int) < 20 := by omega
                      have HQ := Lib.hid hQ
                      clear hQ
                      go_upto_region 36 with fail
                      refine wp_region_noPanic ?_
                      refine wp_region_held_drew (S := (fun Z => Z.cell? ⟨xb, q, none⟩ = some (.int .i64 Q))) (by kernel_rfl) ?_ (fun hHeld => ?_)
                      · exact hcQ
                      refine wpAnyH_take (i := 0) (oi := { dst := some 146, op := Op.move (Operand.tmp 8), type := 24, pos := "law.go:152", after := #[], guard := none }) (v := ?_) rfl (by kernel_rfl) (by kernel_rfl) (by kernel_rfl) (fun _ _ _ h => h) (Or.inl ⟨by rfl, ?_⟩) (by assumption) ?_
                      rotate_left
                      · (intro w hSw; (try dsimp only at hSw); go_simp; try with_reducible rfl)
                      try simp only [Act.put, List.setIfInBounds_toArray, List.set_cons_zero, List.set_cons_succ]
                      refine wpAnyH_take (i := 1) (oi := { dst := some 147, op := Op.move (Operand.tmp 21), type := 3, pos := "law.go:152", after := #[], guard := none }) (v := ?_) rfl (by kernel_rfl) (by kernel_rfl) (by kernel_rfl) (fun _ _ _ h => h) (Or.inl ⟨by rfl, ?_⟩) (by assumption) ?_
                      rotate_left
                      · (intro w hSw; (try dsimp only at hSw); go_simp; try with_reducible rfl)
                      try simp only [Act.put, List.setIfInBounds_toArray, List.set_cons_zero, List.set_cons_succ]
                      refine wpAnyH_take (i := 3) (oi := { dst := some 149, op := Op.move (Operand.tmp 21), type := 3, pos := "law.go:152", after := #[], guard := none }) (v := ?_) rfl (by kernel_rfl) (by kernel_rfl) (by kernel_rfl) (fun _ _ _ h => h) (Or.inl ⟨by rfl, ?_⟩) (by assumption) ?_
                      rotate_left
                      · (intro w hSw; (try dsimp only at hSw); go_simp; try with_reducible rfl)
                      try simp only [Act.put, List.setIfInBounds_toArray, List.set_cons_zero, List.set_cons_succ]
                      refine wpAnyH_take (i := 4) (oi := { dst := some 150, op := Op.indexAddr 55 (Operand.tmp 12) (Operand.tmp 149), type := 0, pos := "law.go:152", after := #[{ on := 3, ground := Ground.data }], guard := none }) (v := ?_) rfl (by kernel_rfl) (by kernel_rfl) (by kernel_rfl) (fun _ _ _ h => h) (Or.inl ⟨by rfl, ?_⟩) (by assumption) ?_
                      rotate_left
                      · (intro w hSw; (try dsimp only at hSw); go_simp; try with_reducible rfl)
                      try simp only [Act.put, List.setIfInBounds_toArray, List.set_cons_zero, List.set_cons_succ]
                      refine wpAnyH_take (i := 5) (oi := { dst := some 151, op := Op.load 3 (Operand.tmp 150), type := 3, pos := "law.go:152", after := #[{ on := 4, ground := Ground.data }], guard := none }) (v := ?_) rfl (by kernel_rfl) (by kernel_rfl) (by kernel_rfl) (fun _ _ _ h => h) (Or.inl ⟨by rfl, ?_⟩) (by assumption) ?_
                      rotate_left
                      · (intro w hSw; (try dsimp only at hSw); go_simp; try with_reducible rfl)
                      try simp only [Act.put, List.setIfInBounds_toArray, List.set_cons_zero, List.set_cons_succ]
                      refine wpAnyH_ready (rs := [2]) (by kernel_rfl) (by simp) ?_
                      refine AllReadyH.cons (o := { dst := some 148, op := Op.call { callee := Callee.value (Operand.func 17), args := #[Operand.tmp 146, Operand.tmp 147], argTypes := #[24, 3] }, type := 3, pos := "law.go:152", after := #[{ on := 0, ground := Ground.data }, { on := 1, ground := Ground.data }], guard := none }) rfl (fun K hK => ?_) AllReadyH.nil
                      go_simp
                      refine (Try.pins (a := q) (HV.out.pool.below (Below.refl _ V).drew) (by omega)).mono ?_
                      rintro e7 w7 ⟨rfl, hb7⟩
                      rw [HQ.out]
                      have hq7 := cellB (w := V.drew) hcQ hb7
                      have HV7 := Lib.hid (HV.out.below hd ((Below.refl _ V).drew.trans (hb7.mono (Nat.le_refl _))))
                      clear hb7
                      refine hK.out _ _ ?_ (fun hHeld => ?_)
                      · exact hq7
                      clear hK K
                      try simp only [Act.put, List.setIfInBounds_toArray, List.set_cons_zero, List.set_cons_succ]
                      refine wpAnyH_take (i := 6) (oi := { dst := some 152, op := Op.binOp BinOp.neq 3 (Operand.tmp 148) (Operand.tmp 151) 3, type := 4, pos := "law.go:152", after := #[{ on := 2, ground := Ground.data }, { on := 5, ground := Ground.data }], guard := none }) (v := ?_) rfl (by kernel_rfl) (by kernel_rfl) (by kernel_rfl) (fun _ _ _ h => h) (Or.inl ⟨by rfl, ?_⟩) (by assumption) ?_
                      rotate_left
                      · (intro w hSw; (try dsimp only at hSw); go_simp; try with_reducible rfl)
                      try simp only [Act.put, List.setIfInBounds_toArray, List.set_cons_zero, List.set_cons_succ]
                      refine wpAnyH_done (by kernel_rfl) ?_ _
                      refine NoPanic.normal ?_
                      clear hHeld
                      go_wp2_with fail
                      exact ⟨⟨q + 1, by omega, by omega, rfl, HV7⟩, by simp [intO]; omega⟩
                    · obtain rfl : q = 18 := by omega
                      go_wp2_with fail
                      exact ⟨⟨i + 1, S', now', rfl, by omega, HV⟩, by simp [intO]; omega⟩
                · have w1' : ((CN : Int) == n) = false := by simp; omega
                  go_upto_region 29 with fail
                  have hst1 := str1 (c := cg) hcg
                  have hca2 : (W.alloc (.cells #[.int .u8 (a : Int)] 5)).cell? ⟨W.heap.size, 0, none⟩ = some (.int .u8 (a : Int)) := cell_of_row _ _ 0 _ 5 (0, 0) (heap_alloc_new _ _)
                  have hst2 := str1 (c := 1) hca2
                  have hcx3 : (W.alloc (.cells #[.int .u8 (a : Int)] 5)).cell? ⟨xb, a, none⟩ = some (.int .i64 P) := (World.cell?_of_block (w := W) (Below.heap_alloc _ _ _ (block_lt_of_cell hca))).trans hca
                  have hfx3 : (W.alloc (.cells #[.int .u8 (a : Int)] 5)).frozen? ⟨xb, a, none⟩ = false := frozen_of_row _ xb a _ 55 ((Below.heap_alloc W (.cells #[.int .u8 (a : Int)] 5) xb (block_lt_of_cell hca)).trans HG.out.arr)
                  generalize strOfNums [(a : Int)] = ST at hst1 hst2
                  have z0 : IntKind.u8.wrap (a : Int) = a := by rw [IntKind.wrap_u8]; omega
                  have z9 : IntKind.i64.wrap (P + 1) = P + 1 := by rw [IntKind.wrap_i64]; omega
                  have HN9 : Hid (HoldI Dv w ((W.alloc (.cells #[.int .u8 (a : Int)] 5)).setCell ⟨xb, a, none⟩ (.int .i64 (P + 1))) n kk pb mb b1 b2 xb (i + 1) S' now') := Lib.hid (by rw [HP.out]; exact HG.out.nxt _)
                  go_wp2_with fail
                  go_loopw [21] (fun t21 V => ∃ q : Nat, 2 ≤ q ∧ q ≤ 18 ∧ t21 = .int .i64 q ∧ Hid (HoldI Dv w V n kk pb mb b1 b2 xb (i + 1) S' now')) (fun t21 _ => 18 - (intO t21).toNat)
                  case atStart => exact ⟨2, Nat.le_refl _, by omega, rfl, HN9⟩
                  case round =>
                    rename World => V
                    obtain ⟨q, hq2, hq18, rfl, HV⟩ := hrel
                    by_cases hq : q < 18
                    · have z1 : decide ((q : Int) < 18) = true := decide_eq_true (by omega)
                      obtain ⟨Q, hQ⟩ : ∃ Q, (pinsOf S' q : Int) = Q := ⟨_, rfl⟩
                      have hcQ : V.cell? ⟨xb, q, none⟩ = some (.int .i64 Q) := by rw [cell_of_row V xb q _ 55 _ HV.out.arr, arr_at S' (by omega), hQ]
                      have z2 : (q : Int) < 20 := by omega
                      have HQ := Lib.hid hQ
                      clear hQ
                      go_upto_region 36 with fail
                      refine wp_region_noPanic ?_
                      refine wp_region_held_drew (S := (fun Z => Z.cell? ⟨xb, q, none⟩ = some (.int .i64 Q))) (by kernel_rfl) ?_ (fun hHeld => ?_)
                      · exact hcQ
                      refine wpAnyH_take (i := 0) (oi := { dst := some 146, op := Op.move (Operand.tmp 8), type := 24, pos := "law.go:152", after := #[], guard := none }) (v := ?_) rfl (by kernel_rfl) (by kernel_rfl) (by kernel_rfl) (fun _ _ _ h => h) (Or.inl ⟨by rfl, ?_⟩) (by assumption) ?_
                      rotate_left
                      · (intro w hSw; (try dsimp only at hSw); go_simp; try with_reducible rfl)
                      try simp only [Act.put, List.setIfInBounds_toArray, List.set_cons_zero, List.set_cons_succ]
                      refine wpAnyH_take (i := 1) (oi := { dst := some 147, op := Op.move (Operand.tmp 21), type := 3, pos := "law.go:152", after := #[], guard := none }) (v := ?_) rfl (by kernel_rfl) (by kernel_rfl) (by kernel_rfl) (fun _ _ _ h => h) (Or.inl ⟨by rfl, ?_⟩) (by assumption) ?_
                      rotate_left
                      · (intro w hSw; (try dsimp only at hSw); go_simp; try with_reducible rfl)
                      try simp only [Act.put, List.setIfInBounds_toArray, List.set_cons_zero, List.set_cons_succ]
                      refine wpAnyH_take (i := 3) (oi := { dst := some 149, op := Op.move (Operand.tmp 21), type := 3, pos := "law.go:152", after := #[], guard := none }) (v := ?_) rfl (by kernel_rfl) (by kernel_rfl) (by kernel_rfl) (fun _ _ _ h => h) (Or.inl ⟨by rfl, ?_⟩) (by assumption) ?_
                      rotate_left
                      · (intro w hSw; (try dsimp only at hSw); go_simp; try with_reducible rfl)
                      try simp only [Act.put, List.setIfInBounds_toArray, List.set_cons_zero, List.set_cons_succ]
                      refine wpAnyH_take (i := 4) (oi := { dst := some 150, op := Op.indexAddr 55 (Operand.tmp 12) (Operand.tmp 149), type := 0, pos := "law.go:152", after := #[{ on := 3, ground := Ground.data }], guard := none }) (v := ?_) rfl (by kernel_rfl) (by kernel_rfl) (by kernel_rfl) (fun _ _ _ h => h) (Or.inl ⟨by rfl, ?_⟩) (by assumption) ?_
                      rotate_left
                      · (intro w hSw; (try dsimp only at hSw); go_simp; try with_reducible rfl)
                      try simp only [Act.put, List.setIfInBounds_toArray, List.set_cons_zero, List.set_cons_succ]
                      refine wpAnyH_take (i := 5) (oi := { dst := some 151, op := Op.load 3 (Operand.tmp 150), type := 3, pos := "law.go:152", after := #[{ on := 4, ground := Ground.data }], guard := none }) (v := ?_) rfl (by kernel_rfl) (by kernel_rfl) (by kernel_rfl) (fun _ _ _ h => h) (Or.inl ⟨by rfl, ?_⟩) (by assumption) ?_
                      rotate_left
                      · (intro w hSw; (try dsimp only at hSw); go_simp; try with_reducible rfl)
                      try simp only [Act.put, List.setIfInBounds_toArray, List.set_cons_zero, List.set_cons_succ]
                      refine wpAnyH_ready (rs := [2]) (by kernel_rfl) (by simp) ?_
                      refine AllReadyH.cons (o := { dst := some 148, op := Op.call { callee := Callee.value (Operand.func 17), args := #[Operand.tmp 146, Operand.tmp 147], argTypes := #[24, 3] }, type := 3, pos := "law.go:152", after := #[{ on := 0, ground := Ground.data }, { on := 1, ground := Ground.data }], guard := none }) rfl (fun K hK => ?_) AllReadyH.nil
                      go_simp
                      refine (Try.pins (a := q) (HV.out.pool.below (Below.refl _ V).drew) (by omega)).mono ?_
                      rintro e7 w7 ⟨rfl, hb7⟩
                      rw [HQ.out]
                      have hq7 := cellB (w := V.drew) hcQ hb7
                      have HV7 := Lib.hid (HV.out.below hd ((Below.refl _ V).drew.trans (hb7.mono (Nat.le_refl _))))
                      clear hb7
                      refine hK.out _ _ ?_ (fun hHeld => ?_)
                      · exact hq7
                      clear hK K
                      try simp only [Act.put, List.setIfInBounds_toArray, List.set_cons_zero, List.set_cons_succ]
                      refine wpAnyH_take (i := 6) (oi := { dst := some 152, op := Op.binOp BinOp.neq 3 (Operand.tmp 148) (Operand.tmp 151) 3, type := 4, pos := "law.go:152", after := #[{ on := 2, ground := Ground.data }, { on := 5, ground := Ground.data }], guard := none }) (v := ?_) rfl (by kernel_rfl) (by kernel_rfl) (by kernel_rfl) (fun _ _ _ h => h) (Or.inl ⟨by rfl, ?_⟩) (by assumption) ?_
                      rotate_left
                      · (intro w hSw; (try dsimp only at hSw); go_simp; try with_reducible rfl)
                      try simp only [Act.put, List.setIfInBounds_toArray, List.set_cons_zero, List.set_cons_succ]
                      refine wpAnyH_done (by kernel_rfl) ?_ _
                      refine NoPanic.normal ?_
                      clear hHeld
                      go_wp2_with fail
                      exact ⟨⟨q + 1, by omega, by omega, rfl, HV7⟩, by simp [intO]; omega⟩
                    · obtain rfl : q = 18 := by omega
                      go_wp2_with fail
                      exact ⟨⟨i + 1, S', now', rfl, by omega, HV⟩, by simp [intO]; omega⟩
      · obtain rfl : i = len := by omega
        have t1 : decide ((i : Int) < i) = false := decide_eq_false (by omega)
        have t2 : decide (i < i) = false := decide_eq_false (by omega)
        go_wp2_with fail
        go_ret
        exact ⟨rfl, HI.out.bel⟩
  · have d1 : decide ((len : Int) > 80) = true := decide_eq_true (by omega)
    go_wp2_with fail
    go_ret
    exact ⟨rfl, HB1.out⟩
end Go.Proofs.Ytjilpkmcddinaaa
end

section
namespace Go.Proofs.Ytjilpkmcddinaaa
open Go.RowKit Go.Maps
theorem u8_wf {a : Int} (h : (Lit.int .u8 a).wf = true) : 0 ≤ a ∧ a < 256 := by
  simp [Lit.wf, IntKind.min, IntKind.max, IntKind.signed, IntKind.bits] at h
  omega
def IsRow (k : IntKind) (w : World) (a : Option Addr) (len cap : Nat) (zs : List Int) : Prop :=
  (a = none ∧ len = 0 ∧ cap = 0 ∧ zs = []) ∨
  ∃ x, a = some x ∧ len ≤ cap ∧ cap ≤ maxLen ∧ zs.length = cap ∧ (∀ i, i < zs.length → w.cell? (x.add i) = some (.int k (zs.getD i 0))) ∧ ∀ n ∈ zs, (Lit.int k n).wf = true
theorem holdsZ (a0 a1 : Int) (A : Option Addr) (len cap : Nat) (zs : List Int) (w : World) (w0 : (Lit.int .u8 a0).wf = true) (w1 : (Lit.int .u8 a1).wf = true)
    (h : IsRow .u8 w A len cap zs) :
    Calls Try.prog 4 #[.int .u8 a0, .int .u8 a1, .slice A len cap] w fun e w' => e = .returned (.bool true) ∧ Below w.heap.size w w' := by
  obtain ⟨Dv, F1, F2, F3, F4⟩ := dev_ex
  have hd : Dev Dv := ⟨F2, F3, F4⟩
  obtain ⟨p0, p1⟩ := u8_wf w0
  obtain ⟨p2, p3⟩ := u8_wf w1
  obtain ⟨N, rfl⟩ : ∃ N : Nat, a0 = N := ⟨a0.toNat, by omega⟩
  obtain ⟨Q, rfl⟩ : ∃ Q : Nat, a1 = Q := ⟨a1.toNat, by omega⟩
  rcases h with ⟨rfl, rfl, rfl, rfl⟩ | ⟨x, rfl, hl, hm, hz, hcell, hwz⟩
  · exact Try.holds hd F1 N Q (by omega) (by omega) none 0 0 [] w rfl (fun _ j x h => by simp at h)
  · refine Try.holds hd F1 N Q (by omega) (by omega) (some x) len cap ((zs.take len).map Int.toNat) w (by simp; omega) (fun _ j y hj => ?_)
    rw [List.getElem?_map, List.getElem?_take] at hj
    split at hj
    · rename_i hjl
      obtain ⟨z, hzj, rfl⟩ := Option.map_eq_some_iff.1 hj
      obtain ⟨hzl, hze⟩ := List.getElem?_eq_some_iff.1 hzj
      obtain ⟨q0, q1⟩ := u8_wf (hwz z (hze ▸ List.getElem_mem hzl))
      have hc := hcell j hzl
      have hg : zs.getD j 0 = z := by simp [List.getD, hzj]
      rw [hg] at hc
      refine ⟨by omega, x, rfl, ?_⟩
      rw [hc, Int.toNat_of_nonneg q0]
    · cases hj
end Go.Proofs.Ytjilpkmcddinaaa
end
