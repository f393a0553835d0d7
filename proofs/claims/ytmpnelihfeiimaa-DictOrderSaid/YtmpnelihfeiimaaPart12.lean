/-
  Texts of a proof over the translated program: proved evaluators and walks, part 12 of 13.
-/
import Derived.Test.YtmpnelihfeiimaaPart11
import Derived.Below
import Derived.Deep.Cut
import Derived.Deep.RegionHeld3
import Derived.Deep.RegionLaw
import Derived.Deep.RegionLawGrows
import Derived.Deep.RegionWith
import Derived.Handy
import Derived.IntWalk
import Derived.Laws.AppendOwn
import Derived.Laws.MakeOwn
import Derived.Lib.Hide
import Derived.LoopTactic
import Derived.Outline
import Derived.OwnWalk
import Derived.Scope
import Derived.ScopeJumps
import Derived.Shelf.Slices.CompactS
import Derived.Shelf.Spec.SearchS
import Derived.Sort.EncStr
import Derived.Sort.Walk0
import Derived.Test.YtmpnelihfeiimaaProg
import Derived.WalkKit
import Derived.WalkMore
import Derived.WalkSpells
import Derived.Great.BuildSlice
import Derived.Laws.CopyRow
import Derived.Laws.IdiomStrings
import Derived.MapKept
import Derived.Orders
set_option linter.unusedVariables false
set_option linter.unusedSimpArgs false
set_option linter.unusedSectionVars false
set_option linter.unnecessarySimpa false
section
namespace Go.Proofs
open Go.RowKit NT Go.Shelf
set_option maxRecDepth 100000
def Try.searchA_ren : Shelf.Ren where
  f := fun x => match x with
    | 26 => 17
    | 33 => 30
    | 34 => 31
    | 38 => 39
    | n => n
  t := fun x => match x with
    | 0 => 0
    | 3 => 3
    | 4 => 4
    | 9 => 9
    | 24 => 22
    | 40 => 54
    | n => n
  g := fun n => n
set_option maxRecDepth 100000 in
theorem Try.searchA : Lays2.n26 Try.prog Try.searchA_ren where
  mixed := by kernel_rfl
  f26 := Eq.trans Try.func17 (by kernel_rfl)
  f33 := Eq.trans Try.func30 (by kernel_rfl)
  f34 := Eq.trans Try.func31 (by kernel_rfl)
  f38 := Eq.trans Try.func39 (by kernel_rfl)
  t0 := Try.underlying0
  a0 := Try.isAgg0
  z0 := Try.sizeOf0
  v0 := Try.zeroValue0
  t3 := Try.underlying3
  a3 := Try.isAgg3
  z3 := Try.sizeOf3
  v3 := Try.zeroValue3
  t4 := Try.underlying4
  a4 := Try.isAgg4
  z4 := Try.sizeOf4
  v4 := Try.zeroValue4
  t9 := Try.underlying9
  a9 := Try.isAgg9
  z9 := Try.sizeOf9
  v9 := Try.zeroValue9
  t24 := Try.underlying22
  a24 := Try.isAgg22
  z24 := Try.sizeOf22
  v24 := Try.zeroValue22
  t40 := Try.underlying54
  a40 := Try.isAgg54
  z40 := Try.sizeOf54
  v40 := Try.zeroValue54
def Try.compactA_ren : Shelf.Ren where
  f := fun x => match x with
    | 194 => 15
    | n => n
  t := fun x => match x with
    | 0 => 0
    | 3 => 3
    | 4 => 4
    | 9 => 9
    | 31 => 22
    | n => n
  g := fun n => n
set_option maxRecDepth 100000 in
theorem Try.compactA : Lays.n194 Try.prog Try.compactA_ren where
  mixed := by kernel_rfl
  f194 := Eq.trans Try.func15 (by kernel_rfl)
  t0 := Try.underlying0
  a0 := Try.isAgg0
  z0 := Try.sizeOf0
  v0 := Try.zeroValue0
  t3 := Try.underlying3
  a3 := Try.isAgg3
  z3 := Try.sizeOf3
  v3 := Try.zeroValue3
  t4 := Try.underlying4
  a4 := Try.isAgg4
  z4 := Try.sizeOf4
  v4 := Try.zeroValue4
  t9 := Try.underlying9
  a9 := Try.isAgg9
  z9 := Try.sizeOf9
  v9 := Try.zeroValue9
  t31 := Try.underlying22
  a31 := Try.isAgg22
  z31 := Try.sizeOf22
  v31 := Try.zeroValue22
end Go.Proofs
end

section
namespace Go.Proofs
open Go.RowKit NT Go.Shelf Go.Lib Go.Sort
set_option maxRecDepth 100000
namespace NT
theorem le_lt {a b c : Str} (h : le a b = true) (h' : lt b c = true) : lt a c = true := by
  simp only [le, Bool.not_eq_true'] at h
  cases e : lt a b
  · have := tri e h; subst this; exact h'
  · exact lt_trans e h'
theorem lt_of {a b : Str} (h : le a b = true) (hn : b ≠ a) : lt a b = true := by
  simp only [le, Bool.not_eq_true'] at h
  cases e : lt a b
  · exact absurd (tri e h).symm hn
  · rfl
def Sup (l : List Str) : Prop := l.Pairwise (fun a b => lt a b = true)
theorem get_bang (zs : List Str) (j : Nat) (hj : j < zs.length) : zs.toArray[j]! = zs[j] := by simp [getElem!_pos, hj]
theorem compact_inv {zs : List Str} (h : Up zs) : ∀ m, m ≤ zs.length → (∀ x, x ∈ compactUpTo zs.toArray m ↔ ∃ j, j < m ∧ zs.toArray[j]! = x) ∧ Sup (compactUpTo zs.toArray m)
  | 0, _ => by
    refine ⟨fun x => ?_, ?_⟩
    · simp [compactUpTo]
    · simp [compactUpTo, Sup]
  | m + 1, hm => by
    obtain ⟨h1, h2⟩ := compact_inv h m (by omega)
    have hge : ∀ j, j < m → le zs.toArray[j]! zs.toArray[m]! = true := by
      intro j hj
      rw [get_bang zs j (by omega), get_bang zs m (by omega)]
      exact List.pairwise_iff_getElem.1 h j m (by omega) (by omega) hj
    rw [compactUpTo_succ]
    by_cases hk : keeps zs.toArray m = true
    · rw [if_pos hk]
      refine ⟨fun x => ?_, ?_⟩
      · rw [List.mem_append, h1, List.mem_singleton]
        constructor
        · rintro (⟨j, hj, rfl⟩ | rfl)
          · exact ⟨j, by omega, rfl⟩
          · exact ⟨m, by omega, rfl⟩
        · rintro ⟨j, hj, rfl⟩
          by_cases hjm : j < m
          · exact .inl ⟨j, hjm, rfl⟩
          · have : j = m := by omega
            subst this; exact .inr rfl
      · refine List.pairwise_append.2 ⟨h2, by simp, ?_⟩
        intro a ha b hb
        rw [List.mem_singleton] at hb
        subst hb
        obtain ⟨j, hj, rfl⟩ := (h1 a).1 ha
        have hk' : m = 0 ∨ zs.toArray[m]! ≠ zs.toArray[m - 1]! := by simpa [keeps] using hk
        have hne : zs.toArray[m]! ≠ zs.toArray[m - 1]! := by rcases hk' with q | q; omega; exact q
        have hl := lt_of (hge (m - 1) (by omega)) hne
        refine le_lt ?_ hl
        by_cases hj' : j = m - 1
        · rw [hj']; exact le_refl _
        · rw [get_bang zs j (by omega), get_bang zs (m - 1) (by omega)]
          exact List.pairwise_iff_getElem.1 h j (m - 1) (by omega) (by omega) (by omega)
    · rw [if_neg hk, List.append_nil]
      have hk' : ¬ m = 0 ∧ zs.toArray[m]! = zs.toArray[m - 1]! := by
        have : ¬ (m = 0 ∨ zs.toArray[m]! ≠ zs.toArray[m - 1]!) := by simpa [keeps] using hk
        exact ⟨fun q => this (.inl q), Classical.not_not.1 fun q => this (.inr q)⟩
      refine ⟨fun x => ?_, h2⟩
      rw [h1]
      constructor
      · rintro ⟨j, hj, rfl⟩; exact ⟨j, by omega, rfl⟩
      · rintro ⟨j, hj, rfl⟩
        by_cases hjm : j < m
        · exact ⟨j, hjm, rfl⟩
        · have : j = m := by omega
          subst this
          exact ⟨j - 1, by omega, hk'.2.symm⟩
theorem compact_sup {zs : List Str} (h : Up zs) : Sup (compact zs) := (compact_inv h zs.length (Nat.le_refl _)).2
theorem compact_mem {zs : List Str} (h : Up zs) (x : Str) : x ∈ compact zs ↔ x ∈ zs := by
  unfold compact
  rw [(compact_inv h zs.length (Nat.le_refl _)).1, List.mem_iff_getElem]
  constructor
  · rintro ⟨j, hj, rfl⟩; exact ⟨j, hj, (get_bang zs j hj).symm⟩
  · rintro ⟨j, hj, rfl⟩; exact ⟨j, hj, get_bang zs j hj⟩
theorem compact_len (zs : List Str) : (compact zs).length ≤ zs.length := by
  unfold compact compactUpTo
  rw [List.length_map]
  exact Nat.le_trans (List.length_filter_le ..) (by simp)
end NT
theorem SY.holds {w : World} {b : Nat} {l : List Str} {c : Nat} (h : SY w b l c) : Holds encStr w b 0 l.toArray := by
  intro j hj
  have hj' : j < l.length := by simpa using hj
  rw [Nat.zero_add]
  refine ⟨?_, h.z j⟩
  rw [get_bang l j hj']
  exact h.cell (List.getElem?_eq_getElem hj')
theorem SY.put {w : World} {b : Nat} {l : List Str} {c : Nat} (h : SY w b l c) (q : Nat) (ys : List Str) (hy : ys.length = l.length) : SY (putRow encStr (Sort.ahead w q) b 0 ys.toArray) b ys c := by
  obtain ⟨pad, h1, h2, h3⟩ := h
  refine ⟨pad, ?_, by omega, h3⟩
  have h1' : (Sort.ahead w q).heap[b]? = some (.cells (l.map encStr ++ pad).toArray 9 (0, 0)) := h1
  simp only [putRow, mapBlock, Array.getElem?_modify, h1', if_true, Option.map_some, onCells]
  congr 2
  apply Array.toList_inj.1
  apply List.ext_getElem?
  intro j
  simp only [putCells, Array.toList_mapIdx, List.getElem?_mapIdx, List.getElem?_append, List.length_map, List.size_toArray, List.getElem?_map, Nat.zero_le, true_and, Nat.zero_add, Nat.sub_zero, hy]
  by_cases hj : j < l.length
  · simp [hj, hy, getElem!_pos]
  · simp [hj, hy]
theorem only_put (w : World) (b q : Nat) (d : Array Str) : Only w (putRow encStr (Sort.ahead w q) b 0 d) b :=
  ⟨rfl, rfl, rfl, by simp [putRow, mapBlock, Sort.ahead], fun k hk => by simp [putRow, mapBlock, Sort.ahead, Array.getElem?_modify, Ne.symm hk]⟩
theorem Try.compactS (w : World) (b n c c' : Nat) (ys : List Str) (h : SY w b ys c) (hn : ys.length = n) (hb : n ≤ 65536) (hc : n ≤ c') :
    Calls Try.prog 15 #[.slice (some ⟨b, 0, none⟩) n c'] w fun e w' => e = .returned (.slice (some ⟨b, 0, none⟩) (compact ys).length c') ∧ (∃ r, SY w' b (compact ys ++ r) c ∧ (compact ys ++ r).length = n) ∧ Only w w' b := by
  subst hn
  refine (Any.slices_Compact_string Try.compactA b 0 c' ys w h.holds (by omega) hc).mono ?_
  rintro e w' ⟨rfl, q, rfl⟩
  have hl : (compact ys ++ List.replicate (ys.length - (compact ys).length) []).length = ys.length := by
    have := compact_len ys
    simp; omega
  exact ⟨rfl, ⟨_, h.put q _ hl, hl⟩, only_put ..⟩
end Go.Proofs
end

section
namespace Go.Proofs
open Go.RowKit NT Go.Shelf Go.Lib Go.Sort
set_option maxRecDepth 100000
def sx (S : List Str) (x : Str) (t : Nat) : ByteArray := ⟨(match S[t]? with | some y => y | none => x).toArray⟩
theorem sx_less (S : List Str) (x : Str) (t : Nat) : Op.bytesLess (sx S x t).toList (ByteArray.mk x.toArray).toList = (match S[t]? with | some y => lt y x | none => false) := by
  unfold sx
  rw [lss_str]
  cases S[t]? with
  | none => exact lt_irrefl x
  | some y => rfl
theorem search_at {S : List Str} {x : Str} {p : Nat} (hS : Sup S) (hp : S[p]? = some x) : bsGo (fun t => Op.bytesLess (sx S x t).toList (ByteArray.mk x.toArray).toList) S.length 0 S.length = p := by
  have hpl := (List.getElem?_eq_some_iff.1 hp).1
  have hpx := (List.getElem?_eq_some_iff.1 hp).2
  refine bsGo_spec _ p ?_ ?_ _ _ _ (by omega) (Nat.zero_le _) (by omega)
  · intro t ht
    show Op.bytesLess _ _ = true
    rw [sx_less, List.getElem?_eq_getElem (by omega)]
    dsimp only
    have := List.pairwise_iff_getElem.1 hS t p (by omega) hpl ht
    rwa [hpx] at this
  · intro t ht
    show Op.bytesLess _ _ = false
    rw [sx_less]
    by_cases h : t < S.length
    · rw [List.getElem?_eq_getElem h]
      dsimp only
      by_cases e : t = p
      · subst e; rw [hpx]; exact lt_irrefl x
      · have := List.pairwise_iff_getElem.1 hS p t hpl h (by omega)
        rw [hpx] at this
        exact asymm this
    · rw [List.getElem?_eq_none (by omega)]
theorem Try.search (w : World) (b c c' p : Nat) (S r : List Str) (x : Str) (h : SY w b (S ++ r) c) (hS : Sup S) (hp : S[p]? = some x) (hb : S.length ≤ 65536) :
    Calls Try.prog 17 #[.slice (some ⟨b, 0, none⟩) S.length c', encStr x] w fun e w' => e = .returned (.tuple #[.int .i64 p, .bool true]) ∧ ∃ q, w' = w.drewN q := by
  have hc : ∀ j, j < S.length → w.cell? ⟨b, 0 + j, none⟩ = some (.string (sx S x j)) := by
    intro j hj
    rw [Nat.zero_add, h.cell (x := S[j]) (by rw [List.getElem?_append_left hj, List.getElem?_eq_getElem hj])]
    unfold sx
    rw [List.getElem?_eq_getElem hj]
  refine (Any2.slices_BinarySearch_string Try.searchA b 0 S.length c' (sx S x) ⟨x.toArray⟩ w (by omega) hc).mono ?_
  rintro e w' ⟨rfl, hq⟩
  refine ⟨?_, hq⟩
  rw [search_at hS hp]
  have hpl := (List.getElem?_eq_some_iff.1 hp).1
  have : decide (p < S.length ∧ sx S x p = ⟨x.toArray⟩) = true := decide_eq_true ⟨hpl, by unfold sx; rw [hp]⟩
  rw [this]
theorem Try.clip (w : World) (b k c : Nat) (hk : k ≤ c) (h0 : 0 < k) : Calls Try.prog 18 #[.slice (some ⟨b, 0, none⟩) k c] w fun e w' => e = .returned (.slice (some ⟨b, 0, none⟩) k k) ∧ w' = w := by
  have h1 : (k : Int) ≤ c := by omega
  have h2 : ¬ c = 0 := by omega
  have h3 : ¬ k = 0 := by omega
  go_enter Try.func18, Try.ntmps18
  go_wp2_with fail
  go_ret
  exact ⟨by simp [h2, h3], rfl⟩
end Go.Proofs
end

section
namespace Go.Proofs
open Go.RowKit NT Go.Shelf Go.Lib Go.Sort
set_option maxRecDepth 100000
theorem Try.info39 : (Try.prog.info? 39).map (fun i => (i.zero, i.size, i.bytes)) = some (some (.int .u64 0), 1, 8) := by kernel_rfl
def u64v (x : Nat) : Value := .int .u64 x
def UY (w : World) (b : Nat) (l : List Nat) : Prop := w.heap[b]? = some (.cells (l.map u64v).toArray 39 (0, 0))
theorem UY.congr {w w' : World} {b : Nat} {l : List Nat} (h : UY w b l) (e : w'.heap[b]? = w.heap[b]?) : UY w' b l := e.trans h
theorem UY.lt {w : World} {b : Nat} {l : List Nat} (h : UY w b l) : b < w.heap.size := (Array.getElem?_eq_some_iff.1 h).1
theorem UY.z {w : World} {b : Nat} {l : List Nat} (h : UY w b l) (i : Nat) : w.frozen? ⟨b, i, none⟩ = false := frozen_of_row w b i _ 39 h
theorem UY.cell {w : World} {b : Nat} {l : List Nat} (h : UY w b l) {i x : Nat} (hi : l[i]? = some x) : w.cell? ⟨b, i, none⟩ = some (.int .u64 x) := by
  rw [cell_of_row w b i _ 39 (0, 0) h]
  simp [hi, u64v]
theorem UY.set {w : World} {b : Nat} {l : List Nat} (h : UY w b l) (i x : Nat) : UY (w.setCell ⟨b, i, none⟩ (.int .u64 x)) b (l.set i x) := by
  unfold UY
  rw [heap_setCell_same w b i _ 39 _ h]
  simp [List.map_set, u64v]
theorem wpList_mk {P : Program} (w : World) {ops : Array Oper} {rest : List Oper} {o : Oper} {a : Act} {Q : Exit → Act → World → Prop}
    (hg : o.guard = none) (l c : Operand) (t : TypeId) (hop : o.op = Op.makeSlice t l c)
    (e : TypeId) (i : TypeInfo) (z : Value) (h1 : P.underlying t = some (.slice e)) (h2 : P.info? e = some i) (h3 : i.zero = some z) (h4 : i.size = 1) (h5 : i.bytes ≤ 16) (h6 : z.cells = #[z])
    (kl kc : IntKind) (L C : Int) (n m : Nat) (hl : a.eval l = .int kl L) (hc : a.eval c = .int kc C) (hL : L = (n : Int)) (hC : C = (m : Int)) (hnm : n ≤ m) (hm : m ≤ 65536)
    (hK : wpList P ops Q rest (a.put o.dst (.slice (some ⟨w.heap.size, 0, none⟩) n m)) (w.alloc (.cells (List.replicate m z).toArray e))) :
    wpList P ops Q (o :: rest) a w := by
  refine wpList_plain hg fun K hK' => ?_
  subst hL
  subst hC
  have hr := run_make (P := P) w t e i z h1 h2 h3 kl kc n m (by omega) (by omega) (by have : i.bytes * m ≤ 16 * m := Nat.mul_le_mul_right _ h5; omega) (by omega)
  have hmc : madeCells z.cells ((m : Int).toNat * i.size) = (List.replicate m z).toArray := by
    rw [h4, h6, Int.toNat_natCast, Nat.mul_one]
    apply Array.toList_inj.1
    rw [toList_madeCells_one]
  rw [hmc] at hr
  simp only [Int.toNat_natCast] at hr
  unfold Oper.wp
  simp [execOp, hop, hl, hc, hr, Result.andThen]
  exact hK' _ _ hK
structure BLD (w w' : World) (n : Nat) (l : List Str) (b k c pb : Nat) (S r : List Str) : Prop where
  sy : SY w' b (S ++ r) c
  uy : UY w' pb (l.map (S.idxOf ·))
  ne : b ≠ pb
  g1 : w.heap.size ≤ b
  g2 : w.heap.size ≤ pb
  kl : S.length = k
  up : Sup S
  mem : ∀ x, x ∈ S ↔ x ∈ l
  bel : Below w.heap.size w w'
  kn : k ≤ n
structure BL (w w' : World) (n : Nat) (l : List Str) (b k c c' pb i : Nat) (S r : List Str) : Prop where
  sy : SY w' b (S ++ r) c
  uy : UY w' pb ((l.take i).map (S.idxOf ·) ++ List.replicate (n - i) 0)
  ne : b ≠ pb
  g1 : w.heap.size ≤ b
  g2 : w.heap.size ≤ pb
  kl : S.length = k
  up : Sup S
  mem : ∀ x, x ∈ S ↔ x ∈ l
  bel : Below w.heap.size w w'
  kc : k ≤ c'
  k0 : 0 < k
  kn : k ≤ n
theorem BL.drewN {w w' : World} {n : Nat} {l : List Str} {b k c c' pb i : Nat} {S r : List Str} (h : BL w w' n l b k c c' pb i S r) (q : Nat) : BL w (w'.drewN q) n l b k c c' pb i S r :=
  ⟨h.sy.congr rfl, h.uy.congr rfl, h.ne, h.g1, h.g2, h.kl, h.up, h.mem, ⟨h.bel.os, h.bel.tape, h.bel.output, h.bel.size, h.bel.block⟩, h.kc, h.k0, h.kn⟩
theorem BL.step {w w' : World} {n : Nat} {l : List Str} {b k c c' pb i : Nat} {S r : List Str} (h : BL w w' n l b k c c' pb i S r) (hl : l.length = n) {x : Str} (hx : l[i]? = some x) :
    BL w (w'.setCell ⟨pb, i, none⟩ (.int .u64 (S.idxOf x : Nat))) n l b k c c' pb (i + 1) S r := by
  have hi := (List.getElem?_eq_some_iff.1 hx).1
  have hxx := (List.getElem?_eq_some_iff.1 hx).2
  have he : ((l.take i).map (S.idxOf ·) ++ List.replicate (n - i) 0).set i (S.idxOf x) = (l.take (i + 1)).map (S.idxOf ·) ++ List.replicate (n - (i + 1)) 0 := by
    have h1 : ((l.take i).map (S.idxOf ·)).length = i := by simp; omega
    rw [List.set_append_right _ _ (by omega), h1, Nat.sub_self, show n - i = (n - (i + 1)) + 1 by omega, List.replicate_succ, List.set_cons_zero, List.take_succ_eq_append_getElem hi, hxx]
    simp [List.append_assoc]
  refine ⟨h.sy.congr (heap_setCell_other w' ⟨pb, i, none⟩ b _ h.ne), ?_, h.ne, h.g1, h.g2, h.kl, h.up, h.mem, ?_, h.kc, h.k0, h.kn⟩
  · have := h.uy.set i (S.idxOf x)
    rwa [he] at this
  · refine h.bel.trans ⟨rfl, rfl, rfl, by simp [World.setCell], fun k hk => heap_setCell_other w' ⟨pb, i, none⟩ k _ ?_⟩
    have := h.g2
    show k ≠ pb
    omega
theorem only_below {w w1 w2 : World} {b : Nat} (h : Below w.heap.size w w1) (h' : Only w1 w2 b) (hb : w.heap.size ≤ b) : Below w.heap.size w w2 :=
  h.trans ⟨h'.os, h'.tape, h'.output, Nat.le_of_eq h'.size.symm, fun k hk => h'.block k (by omega)⟩
theorem idx_at {S : List Str} {x : Str} (h : x ∈ S) : S[S.idxOf x]? = some x := by
  rw [List.getElem?_eq_getElem (List.idxOf_lt_length_of_mem h), List.getElem_idxOf]
theorem wrapu {x : Int} (h1 : 0 ≤ x) (h2 : x < 18446744073709551616) : IntKind.u64.wrap x = x := by rw [IntKind.wrap_u64]; omega
set_option maxHeartbeats 1000000 in
theorem Try.build (A : Addr) (n m : Nat) (w : World) (h0 : 0 < n) (hn : n ≤ 65536) (l : List Str) (hl : l.length = n) (hc : ∀ j u, (l.map encStr)[j]? = some u → w.cell? (A.add j) = some u) :
    Calls Try.prog 8 #[.slice (some A) n m] w fun e w' => ∃ b k c pb S r, e = .returned (.tuple #[.slice (some ⟨b, 0, none⟩) k k, .slice (some ⟨pb, 0, none⟩) n n]) ∧ BLD w w' n l b k c pb S r := by
  have HC := Lib.hid hc
  have HL := Lib.hid hl
  obtain ⟨i39, hi39, hz0, hz1, hz2⟩ := info_parts Try.info39
  clear hc hl
  go_enter Try.func8, Try.ntmps8
  go_wp2_with fail
  refine (Try.sorted A n m w h0 hn l HL.out HC.out).mono ?_
  rintro e1 w1 ⟨b, c, c', ys, rfl, hb, hnc, hcc, hsy, hyl, hyu, hyp, hbel⟩
  go_wp2_with fail
  refine (Try.compactS w1 b n c c' ys hsy hyl hn hnc).mono ?_
  rintro e2 w2 ⟨rfl, ⟨r, hs2, hrl⟩, ho2⟩
  obtain ⟨S, hS⟩ : ∃ S, compact ys = S := ⟨_, rfl⟩
  have hup := compact_sup hyu
  have hmem : ∀ x, x ∈ compact ys ↔ x ∈ l := fun x => (compact_mem hyu x).trans hyp.mem_iff
  rw [hS] at hs2 hrl hup hmem
  rw [hS]
  obtain ⟨k, hk⟩ : ∃ k, S.length = k := ⟨_, rfl⟩
  rw [hk]
  have hb2 := only_below hbel ho2 hb
  have hkn : k ≤ n := by rw [List.length_append, hk] at hrl; omega
  have hk0 : 0 < k := by
    rw [← hk]
    have : l[0]'(by rw [HL.out]; exact h0) ∈ S := (hmem _).2 (List.getElem_mem _)
    exact List.length_pos_of_mem this
  have H2 : Hid (SY w2 b (S ++ r) c ∧ Sup S ∧ (∀ x, x ∈ S ↔ x ∈ l) ∧ S.length = k ∧ Below w.heap.size w w2 ∧ w.heap.size ≤ b ∧ k ≤ c' ∧ 0 < k ∧ k ≤ n) := Lib.hid ⟨hs2, hup, hmem, hk, hb2, hb, by omega, hk0, hkn⟩
  clear hsy hyl hyu hyp hbel ho2 hS hs2 hrl hup hmem hk hb2 hkn hk0 hb hnc hcc
  go_wp2_with (at_make; refine wpList_mk _ rfl _ _ 25 rfl 39 i39 (.int .u64 0) Try.underlying25 hi39 hz0 hz1 (by omega) rfl _ _ _ _ n n rfl rfl (by omega) (by omega) (Nat.le_refl _) hn ?_)
  obtain ⟨pb, hpb⟩ : ∃ pb, w2.heap.size = pb := ⟨_, rfl⟩
  have hB : BL w (w2.alloc (.cells (List.replicate n (Value.int .u64 0)).toArray 39)) n l b k c c' pb 0 S r := by
    obtain ⟨q1, q2, q3, q4, q5, q6, q7, q8, q9⟩ := H2.out
    have hx := q1.lt
    refine ⟨q1.congr (heap_alloc_old w2 _ hx), ?_, by omega, q6, by rw [← hpb]; exact q5.size, q4, q2, q3, q5.alloc q5.size _, q7, q8, q9⟩
    unfold UY
    rw [← hpb, heap_alloc_new]
    simp [u64v]
  rw [hpb]
  rw [List.toArray_replicate] at hB
  generalize w2.alloc (.cells (Array.replicate n (Value.int .u64 0)) 39) = w3 at hB ⊢
  have HB := Lib.hid hB
  clear hB H2 hpb
  go_loopw [18] (fun t wr => ∃ i : Nat, i ≤ n ∧ t = .int .i64 i ∧ Hid (BL w wr n l b k c c' pb i S r)) (fun t _ => n - (intO t).toNat)
  case atStart => exact ⟨0, Nat.zero_le _, rfl, HB⟩
  case round =>
    obtain ⟨i, hi, rfl, HJ⟩ := hrel
    by_cases hlt : i < n
    · have d1 : decide ((i : Int) < n) = true := decide_eq_true (by omega)
      have d1' : decide (i < n) = true := decide_eq_true hlt
      obtain ⟨x, hx⟩ : ∃ x, l[i]? = some x := ⟨_, List.getElem?_eq_getElem (by rw [HL.out]; exact hlt)⟩
      have hcx0 := HC.out i (encStr x) (by rw [List.getElem?_map, hx]; rfl)
      have hcx : wr.cell? (A.add i) = some (encStr x) := (World.cell?_of_block (HJ.out.bel.block _ (block_lt_of_cell hcx0))).trans hcx0
      have hxS : x ∈ S := (HJ.out.mem x).2 (List.mem_of_getElem? hx)
      have hsr := Try.search wr b c c' (S.idxOf x) S r x HJ.out.sy HJ.out.up (idx_at hxS) (by have := HJ.out.kl; have := HJ.out.kn; omega)
      rw [HJ.out.kl] at hsr
      have hpk : S.idxOf x < k := by rw [← HJ.out.kl]; exact List.idxOf_lt_length_of_mem hxS
      obtain ⟨z, hz⟩ : ∃ z, ((l.take i).map (S.idxOf ·) ++ List.replicate (n - i) 0)[i]? = some z := ⟨_, List.getElem?_eq_getElem (by have := HL.out; simp; omega)⟩
      have c0 := HJ.out.uy.cell hz
      have f0 := HJ.out.uy.z i
      have HP := Lib.hid (HJ.out.step HL.out hx)
      have HST : ∀ q, Hid (BL w ((wr.drewN q).setCell ⟨pb, i, none⟩ (.int .u64 (S.idxOf x : Nat))) n l b k c c' pb (i + 1) S r) := fun q => Lib.hid ((HJ.out.drewN q).step HL.out hx)
      have hkn := HJ.out.kn
      clear hz hx hcx0 hxS HP
      generalize S.idxOf x = p at hsr hpk HST
      have s1 : IntKind.u64.wrap (p : Int) = p := wrapu (by omega) (by omega)
      have HSR := Lib.hid hsr
      clear hsr
      go_wp2_with fail
      refine HSR.out.mono ?_
      rintro e4 w4 ⟨rfl, q, rfl⟩
      go_wp2_with fail
      exact ⟨⟨i + 1, by omega, rfl, HST q⟩, by simp [intO]; omega⟩
    · obtain rfl : i = n := by omega
      have d1 : decide ((i : Int) < i) = false := by simp
      have d1' : decide (i < i) = false := by simp
      go_wp2_with fail
      refine (Try.clip wr b k c' HJ.out.kc HJ.out.k0).mono ?_
      rintro e4 w4 ⟨rfl, rfl⟩
      go_wp2_with fail
      go_ret2
      refine ⟨b, k, c, pb, S, r, rfl, ⟨HJ.out.sy, ?_, HJ.out.ne, HJ.out.g1, HJ.out.g2, HJ.out.kl, HJ.out.up, HJ.out.mem, HJ.out.bel, HJ.out.kn⟩⟩
      have := HJ.out.uy
      rwa [Nat.sub_self, List.replicate_zero, List.append_nil, List.take_of_length_le (by rw [HL.out]; exact Nat.le_refl _)] at this
end Go.Proofs
end

section
namespace Go.Proofs
open Go.RowKit NT Go.Shelf Go.Lib Go.Sort
set_option maxRecDepth 100000
theorem Try.few_no (a : Option Addr) (n m : Nat) (w : World) (h : 100 < n) : Calls Try.prog 7 #[.slice a n m] w fun e w' => e = .returned (.bool false) ∧ w' = w := by
  have d1 : decide ((100 : Int) < n) = true := decide_eq_true (by omega)
  have d1' : decide (100 < n) = true := decide_eq_true h
  go_enter Try.func7, Try.ntmps7
  go_wp2_with fail
  go_ret
  exact ⟨rfl, rfl⟩
theorem Try.few (a : Option Addr) (n m : Nat) (w : World) (h : n ≤ 100) (l : List Str) (hl : l.length = n) (hc : ∀ j x, l[j]? = some x → ∃ A, a = some A ∧ w.cell? (A.add j) = some (encStr x)) :
    Calls Try.prog 7 #[.slice a n m] w fun e w' => e = .returned (.bool (decide (∀ x ∈ l, x.length ≤ 400))) ∧ w' = w := by
  have d0 : decide ((100 : Int) < n) = false := decide_eq_false (by omega)
  have d0' : decide (100 < n) = false := decide_eq_false (by omega)
  have HC := Lib.hid hc
  have HL := Lib.hid hl
  clear hc hl
  go_enter Try.func7, Try.ntmps7
  go_wp2_with fail
  go_loopw [3] (fun t wr => ∃ i : Nat, i ≤ n ∧ t = .int .i64 i ∧ wr = w ∧ Hid (∀ x ∈ l.take i, x.length ≤ 400)) (fun t _ => n - (intO t).toNat)
  case atStart => exact ⟨0, Nat.zero_le _, rfl, rfl, Lib.hid (by simp)⟩
  case round =>
    obtain ⟨i, hi, rfl, rfl, HJ⟩ := hrel
    by_cases hlt : i < n
    · have d1 : decide ((i : Int) < n) = true := decide_eq_true (by omega)
      have d1' : decide (i < n) = true := decide_eq_true hlt
      obtain ⟨x, hx⟩ : ∃ x, l[i]? = some x := ⟨_, List.getElem?_eq_getElem (by rw [HL.out]; exact hlt)⟩
      obtain ⟨A, hA, hcx⟩ := HC.out i x hx
      subst hA
      have HX := Lib.hid hx
      clear hx
      by_cases h4 : 400 < x.length
      · have e1 : decide ((400 : Int) < x.length) = true := decide_eq_true (by omega)
        have e1' : decide (400 < x.length) = true := decide_eq_true h4
        have HE : Hid (decide (∀ x ∈ l, x.length ≤ 400) = false) := Lib.hid (decide_eq_false fun q => by have := q x (List.mem_of_getElem? HX.out); omega)
        clear h4
        go_wp2_with fail
        go_ret
        rw [HE.out]
        exact ⟨rfl, rfl⟩
      · have e1 : decide ((400 : Int) < x.length) = false := decide_eq_false (by omega)
        have e1' : decide (400 < x.length) = false := decide_eq_false h4
        have HE : Hid (∀ y ∈ l.take (i + 1), y.length ≤ 400) := Lib.hid (by
          intro y hy
          have hi' := (List.getElem?_eq_some_iff.1 HX.out).1
          rw [List.take_succ_eq_append_getElem hi', (List.getElem?_eq_some_iff.1 HX.out).2, List.mem_append, List.mem_singleton] at hy
          rcases hy with hy | rfl
          · exact HJ.out y hy
          · omega)
        clear h4
        go_wp2_with fail
        exact ⟨⟨i + 1, by omega, rfl, by trivial, HE⟩, by simp [intO]; omega⟩
    · obtain rfl : i = n := by omega
      have d1 : decide ((i : Int) < i) = false := by simp
      have d1' : decide (i < i) = false := by simp
      have HE : Hid (decide (∀ x ∈ l, x.length ≤ 400) = true) := Lib.hid (decide_eq_true fun x hx => HJ.out x (by rw [List.take_of_length_le (by rw [HL.out]; exact Nat.le_refl _)]; exact hx))
      go_wp2_with fail
      go_ret
      rw [HE.out]
      exact ⟨rfl, rfl⟩
end Go.Proofs
end

section
namespace Go.Proofs
open Go.RowKit NT Go.Shelf Go.Lib Go.Sort
set_option maxRecDepth 100000
theorem add_none (b o i : Nat) : (⟨b, o, none⟩ : Addr).add i = ⟨b, o + i, none⟩ := by unfold Addr.add; split <;> simp_all
def RW (w : World) (a : Option Addr) (l : List Str) : Prop := ∀ j x, l[j]? = some x → ∃ A, a = some A ∧ w.cell? (A.add j) = some (encStr x)
theorem SY.rw {w : World} {b : Nat} {S r : List Str} {c : Nat} (h : SY w b (S ++ r) c) : RW w (some ⟨b, 0, none⟩) S := by
  intro j x hj
  refine ⟨_, rfl, ?_⟩
  rw [add_none, Nat.zero_add]
  exact h.cell (by rw [List.getElem?_append_left (List.getElem?_eq_some_iff.1 hj).1]; exact hj)
theorem Try.words (a b : Option Addr) (n m m' : Nat) (w : World) (l : List Str) (hl : l.length = n) (hn : n ≤ 65536) (ha : RW w a l) (hb : RW w b l) :
    Calls Try.prog 12 #[.slice a n m, .slice b n m'] w fun e w' => e = .returned (.bool true) ∧ Below w.heap.size w w' := by
  have HA := Lib.hid ha
  have HB := Lib.hid hb
  have HL := Lib.hid hl
  clear ha hb hl
  go_enter Try.func12, Try.ntmps12
  go_wp2_with fail
  go_loopw [5] (fun t wr => ∃ i : Nat, i ≤ n ∧ t = .int .i64 i ∧ Hid (Below w.heap.size w wr)) (fun t _ => n - (intO t).toNat)
  case atStart => exact ⟨0, Nat.zero_le _, rfl, Lib.hid (Below.refl _ _)⟩
  case round =>
    obtain ⟨i, hi, rfl, HJ⟩ := hrel
    by_cases hlt : i < n
    · have d1 : decide ((i : Int) < n) = true := decide_eq_true (by omega)
      have d1' : decide (i < n) = true := decide_eq_true hlt
      obtain ⟨x, hx⟩ : ∃ x, l[i]? = some x := ⟨_, List.getElem?_eq_getElem (by rw [HL.out]; exact hlt)⟩
      obtain ⟨X, hX, k0⟩ := HA.out i x hx
      obtain ⟨Y, hY, k1⟩ := HB.out i x hx
      subst hX
      subst hY
      have c0 : wr.cell? (X.add i) = some (encStr x) := (World.cell?_of_block (HJ.out.block _ (block_lt_of_cell k0))).trans k0
      have c1 : wr.cell? (Y.add i) = some (encStr x) := (World.cell?_of_block (HJ.out.block _ (block_lt_of_cell k1))).trans k1
      clear hx k0 k1
      go_upto_region 6 with fail
      refine wp_region_noPanic ?_
      refine wp_region_held_drew (S := (fun W => W.cell? (X.add i) = some (encStr x) ∧ W.cell? (Y.add i) = some (encStr x))) (by kernel_rfl) ?_ (fun hHeld => ?_)
      · exact ⟨c0, c1⟩
      refine wpAnyH_take (i := 0) (oi := { dst := some 17, op := Op.move (Operand.tmp 0), type := 22, pos := "law.go:16", after := #[], guard := none }) (v := ?_) rfl (by kernel_rfl) (by kernel_rfl) (by kernel_rfl) (fun _ _ _ h => h) (Or.inl ⟨by rfl, ?_⟩) (by assumption) ?_
      rotate_left
      · (intro w hSw; (try dsimp only at hSw); go_simp; try with_reducible rfl)
      try simp only [Act.put, List.setIfInBounds_toArray, List.set_cons_zero, List.set_cons_succ]
      refine wpAnyH_take (i := 1) (oi := { dst := some 18, op := Op.move (Operand.tmp 5), type := 3, pos := "law.go:16", after := #[], guard := none }) (v := ?_) rfl (by kernel_rfl) (by kernel_rfl) (by kernel_rfl) (fun _ _ _ h => h) (Or.inl ⟨by rfl, ?_⟩) (by assumption) ?_
      rotate_left
      · (intro w hSw; (try dsimp only at hSw); go_simp; try with_reducible rfl)
      try simp only [Act.put, List.setIfInBounds_toArray, List.set_cons_zero, List.set_cons_succ]
      refine wpAnyH_take (i := 2) (oi := { dst := some 19, op := Op.indexAddr 22 (Operand.tmp 17) (Operand.tmp 18), type := 0, pos := "law.go:16", after := #[{ on := 0, ground := Ground.data }, { on := 1, ground := Ground.data }], guard := none }) (v := ?_) rfl (by kernel_rfl) (by kernel_rfl) (by kernel_rfl) (fun _ _ _ h => h) (Or.inl ⟨by rfl, ?_⟩) (by assumption) ?_
      rotate_left
      · (intro w hSw; (try dsimp only at hSw); go_simp; try with_reducible rfl)
      try simp only [Act.put, List.setIfInBounds_toArray, List.set_cons_zero, List.set_cons_succ]
      refine wpAnyH_take (i := 3) (oi := { dst := some 20, op := Op.load 9 (Operand.tmp 19), type := 9, pos := "law.go:16", after := #[{ on := 2, ground := Ground.data }], guard := none }) (v := ?_) rfl (by kernel_rfl) (by kernel_rfl) (by kernel_rfl) (fun _ _ _ h => h) (Or.inl ⟨by rfl, ?_⟩) (by assumption) ?_
      rotate_left
      · (intro w hSw; (try dsimp only at hSw); go_simp; try with_reducible rfl)
      try simp only [Act.put, List.setIfInBounds_toArray, List.set_cons_zero, List.set_cons_succ]
      refine wpAnyH_take (i := 4) (oi := { dst := some 21, op := Op.move (Operand.tmp 1), type := 22, pos := "law.go:16", after := #[], guard := none }) (v := ?_) rfl (by kernel_rfl) (by kernel_rfl) (by kernel_rfl) (fun _ _ _ h => h) (Or.inl ⟨by rfl, ?_⟩) (by assumption) ?_
      rotate_left
      · (intro w hSw; (try dsimp only at hSw); go_simp; try with_reducible rfl)
      try simp only [Act.put, List.setIfInBounds_toArray, List.set_cons_zero, List.set_cons_succ]
      refine wpAnyH_take (i := 5) (oi := { dst := some 22, op := Op.move (Operand.tmp 5), type := 3, pos := "law.go:16", after := #[], guard := none }) (v := ?_) rfl (by kernel_rfl) (by kernel_rfl) (by kernel_rfl) (fun _ _ _ h => h) (Or.inl ⟨by rfl, ?_⟩) (by assumption) ?_
      rotate_left
      · (intro w hSw; (try dsimp only at hSw); go_simp; try with_reducible rfl)
      try simp only [Act.put, List.setIfInBounds_toArray, List.set_cons_zero, List.set_cons_succ]
      refine wpAnyH_take (i := 6) (oi := { dst := some 23, op := Op.indexAddr 22 (Operand.tmp 21) (Operand.tmp 22), type := 0, pos := "law.go:16", after := #[{ on := 4, ground := Ground.data }, { on := 5, ground := Ground.data }], guard := none }) (v := ?_) rfl (by kernel_rfl) (by kernel_rfl) (by kernel_rfl) (fun _ _ _ h => h) (Or.inl ⟨by rfl, ?_⟩) (by assumption) ?_
      rotate_left
      · (intro w hSw; (try dsimp only at hSw); go_simp; try with_reducible rfl)
      try simp only [Act.put, List.setIfInBounds_toArray, List.set_cons_zero, List.set_cons_succ]
      refine wpAnyH_take (i := 7) (oi := { dst := some 24, op := Op.load 9 (Operand.tmp 23), type := 9, pos := "law.go:16", after := #[{ on := 6, ground := Ground.data }], guard := none }) (v := ?_) rfl (by kernel_rfl) (by kernel_rfl) (by kernel_rfl) (fun _ _ _ h => h) (Or.inl ⟨by rfl, ?_⟩) (by assumption) ?_
      rotate_left
      · (intro w hSw; (try dsimp only at hSw); go_simp; try with_reducible rfl)
      try simp only [Act.put, List.setIfInBounds_toArray, List.set_cons_zero, List.set_cons_succ]
      refine wpAnyH_take (i := 8) (oi := { dst := some 25, op := Op.binOp BinOp.neq 9 (Operand.tmp 20) (Operand.tmp 24) 9, type := 4, pos := "law.go:16", after := #[{ on := 3, ground := Ground.data }, { on := 7, ground := Ground.data }], guard := none }) (v := ?_) rfl (by kernel_rfl) (by kernel_rfl) (by kernel_rfl) (fun _ _ _ h => h) (Or.inl ⟨by rfl, ?_⟩) (by assumption) ?_
      rotate_left
      · (intro w hSw; (try dsimp only at hSw); go_simp; try with_reducible rfl)
      try simp only [Act.put, List.setIfInBounds_toArray, List.set_cons_zero, List.set_cons_succ]
      refine wpAnyH_done (by kernel_rfl) ?_ _
      refine NoPanic.normal ?_
      go_wp2_with fail
      exact ⟨⟨i + 1, by omega, rfl, Lib.hid (HJ.out).drew⟩, by simp [intO]; omega⟩
    · obtain rfl : i = n := by omega
      have d1 : decide ((i : Int) < i) = false := by simp
      have d1' : decide (i < i) = false := by simp
      go_wp2_with fail
      go_ret
      exact ⟨rfl, HJ.out⟩
end Go.Proofs
end

section
namespace Go.Proofs
open Go.RowKit NT Go.Shelf Go.Lib Go.Sort
set_option maxRecDepth 100000
def Em (w : World) (e : Ending) (w' : World) : Prop := (∃ a c, e = .returned (.slice a 0 c)) ∧ Below w.heap.size w w'
theorem Try.clone0 (a : Option Addr) (m : Nat) (w : World) (hm : a = none → m = 0) : Calls Try.prog 28 #[.slice a 0 m] w (Em w) := by
  cases a with
  | none =>
    obtain rfl := hm rfl
    clear hm
    have hnil := Lib.run_eql_slice_nil w 22 9 none 0 0 0 0 Try.underlying22
    go_enter Try.func28, Try.ntmps28
    go_wp2_with fail
    go_ret
    exact ⟨⟨_, _, rfl⟩, Below.refl _ _⟩
  | some A =>
    refine (Try.clone A 0 m w (Nat.zero_le _) [] rfl (by simp)).mono ?_
    rintro e w' ⟨b, c, rfl, _, _, _, h⟩
    exact ⟨⟨_, _, rfl⟩, h⟩
theorem Try.compact0 (a : Option Addr) (c : Nat) (w : World) : Calls Try.prog 15 #[.slice a 0 c] w fun e w' => e = .returned (.slice a 0 c) ∧ w' = w := Any.slices_Compact_string_empty Try.compactA a c w
theorem Try.clip0 (a : Option Addr) (c : Nat) (w : World) : Calls Try.prog 18 #[.slice a 0 c] w (Em w) := by
  go_enter Try.func18, Try.ntmps18
  go_wp2_with fail
  go_ret
  exact ⟨⟨_, _, rfl⟩, Below.refl _ _⟩
set_option maxHeartbeats 1000000 in
theorem Try.sorted0 (a : Option Addr) (m : Nat) (w : World) (hm : a = none → m = 0) : Calls Try.prog 16 #[.slice a 0 m] w (Em w) := by
  go_enter Try.func16, Try.ntmps16
  go_wp2_with fail
  refine wp_scope_once 0 (fun a' wr => Hid (Below w.heap.size w wr) ∧ ∃ (a1 : Option Addr) (c1 : Nat) (u1 u4 u6 u7 u8 u9 u10 u11 u12 u13 u14 u15 u16 u17 u18 u19 u20 u21 u22 u23 u24 u25 u26 u27 u28 u29 u30 u31 u32 u33 u34 u35 u36 u37 u38 u39 u40 u41 u42 u43 u44 u45 u46 u47 u48 u49 u50 u51 u52 u53 u54 u55 u56 : Value), a' = { tmps := #[.slice a 0 m, u1, .slice none 0 0, .slice a1 0 c1, u4, .int .i64 1, u6, u7, u8, u9, u10, u11, u12, u13, u14, u15, u16, u17, u18, u19, u20, u21, u22, u23, u24, u25, u26, u27, u28, u29, u30, u31, u32, u33, u34, u35, u36, u37, u38, u39, u40, u41, u42, u43, u44, u45, u46, u47, u48, u49, u50, u51, u52, u53, u54, u55, u56], defers := [] }) (fun a' _ => 0) rfl ?_ ?_
  · intro hL
    go_upto_region 1 with fail
    refine Code.wp_mono ?_ (?_ : Code.wp Try.prog _ (fun e a2 w2 => e = .normal ∧ ∃ (a1 : Option Addr) (c1 : Nat) (v4 u9 u10 u11 u12 u13 : Value), a2 = ⟨#[.slice a 0 m, undef, .slice none 0 0, .slice a1 0 c1, v4, undef, undef, undef, undef, u9, u10, u11, u12, u13, undef, undef, undef, undef, undef, undef, undef, undef, undef, undef, undef, undef, undef, undef, undef, undef, undef, undef, undef, undef, undef, undef, undef, undef, undef, undef, undef, undef, undef, undef, undef, undef, undef, undef, undef, undef, undef, undef, undef, undef, undef, undef, undef], []⟩ ∧ Hid (Below w.heap.size w w2)) _ _)
    rotate_left
    · skip
      refine wp_region_noPanic ?_
      refine wp_region_held_drew (S := (fun _ => True)) (by kernel_rfl) trivial (fun hHeld => ?_)
      refine wpAnyH_take (i := 0) (oi := { dst := some 9, op := Op.move (Operand.tmp 0), type := 22, pos := "dict.go:27", after := #[], guard := none }) (v := ?_) rfl (by kernel_rfl) (by kernel_rfl) (by kernel_rfl) (fun _ _ _ h => h) (Or.inl ⟨by rfl, ?_⟩) trivial ?_
      rotate_left
      · (intro w hSw; go_simp; try with_reducible rfl)
      try simp only [Act.put, List.setIfInBounds_toArray, List.set_cons_zero, List.set_cons_succ]
      refine wpAnyH_take (i := 2) (oi := { dst := some 11, op := Op.move (Operand.tmp 0), type := 22, pos := "dict.go:27", after := #[], guard := none }) (v := ?_) rfl (by kernel_rfl) (by kernel_rfl) (by kernel_rfl) (fun _ _ _ h => h) (Or.inl ⟨by rfl, ?_⟩) trivial ?_
      rotate_left
      · (intro w hSw; go_simp; try with_reducible rfl)
      try simp only [Act.put, List.setIfInBounds_toArray, List.set_cons_zero, List.set_cons_succ]
      refine wpAnyH_take (i := 3) (oi := { dst := some 12, op := Op.call { callee := Callee.builtin Builtin.len, args := #[Operand.tmp 11], argTypes := #[22] }, type := 3, pos := "dict.go:27", after := #[{ on := 2, ground := Ground.data }], guard := none }) (v := ?_) rfl (by kernel_rfl) (by kernel_rfl) (by kernel_rfl) (fun _ _ _ h => h) (Or.inl ⟨by rfl, ?_⟩) trivial ?_
      rotate_left
      · (intro w hSw; go_simp; try with_reducible rfl)
      try simp only [Act.put, List.setIfInBounds_toArray, List.set_cons_zero, List.set_cons_succ]
      refine wpAnyH_ready (rs := [1, 4]) (by kernel_rfl) (by simp) ?_
      refine AllReadyH.cons (o := { dst := some 10, op := Op.call { callee := Callee.value (Operand.func 28), args := #[Operand.tmp 9], argTypes := #[22] }, type := 22, pos := "dict.go:27", after := #[{ on := 0, ground := Ground.data }], guard := none }) rfl (fun K hK => ?_) ?_
      · skip
        go_simp
        refine (Try.clone0 a m _ hm).mono ?_
        rintro x2 w2 ⟨⟨a1, c1, rfl⟩, hbl1⟩
        refine hK.out _ _ trivial (fun hHeld => ?_)
        clear hK K
        try simp only [Act.put, List.setIfInBounds_toArray, List.set_cons_zero, List.set_cons_succ]
        refine wpAnyH_take (i := 5) (oi := { dst := some 3, op := Op.assign (Operand.tmp 10), type := 22, pos := "dict.go:27", after := #[{ on := 1, ground := Ground.data }, { on := 1, ground := Ground.chain }, { on := 0, ground := Ground.phase }, { on := 1, ground := Ground.phase }, { on := 2, ground := Ground.textOnly Departure.lateStores }, { on := 3, ground := Ground.textOnly Departure.lateStoresUnsure }, { on := 4, ground := Ground.textOnly Departure.lateStoresUnsure }], guard := none }) (v := ?_) rfl (by kernel_rfl) (by kernel_rfl) (by kernel_rfl) (fun _ _ _ h => h) (Or.inl ⟨by rfl, ?_⟩) trivial ?_
        rotate_left
        · (intro w hSw; go_simp; try with_reducible rfl)
        try simp only [Act.put, List.setIfInBounds_toArray, List.set_cons_zero, List.set_cons_succ]
        refine wpAnyH_ready (rs := [4]) (by kernel_rfl) (by simp) ?_
        refine AllReadyH.cons (o := { dst := some 13, op := Op.makeSlice 22 (Operand.tmp 12) (Operand.tmp 12), type := 22, pos := "dict.go:27", after := #[{ on := 3, ground := Ground.data }, { on := 3, ground := Ground.data }], guard := none }) rfl (fun K hK => ?_) ?_
        · skip
          refine oper_mk _ _ rfl 0 (by omega) rfl rfl ?_
          intro w3 hs2 hbl2 hlt2
          refine hK.out _ _ trivial (fun hHeld => ?_)
          clear hK K
          try simp only [Act.put, List.setIfInBounds_toArray, List.set_cons_zero, List.set_cons_succ]
          refine wpAnyH_take (i := 6) (oi := { dst := some 4, op := Op.assign (Operand.tmp 13), type := 22, pos := "dict.go:27", after := #[{ on := 4, ground := Ground.data }, { on := 5, ground := Ground.chain }, { on := 0, ground := Ground.phase }, { on := 1, ground := Ground.phase }, { on := 2, ground := Ground.phase }, { on := 3, ground := Ground.phase }, { on := 4, ground := Ground.phase }, { on := 5, ground := Ground.phase }], guard := none }) (v := ?_) rfl (by kernel_rfl) (by kernel_rfl) (by kernel_rfl) (fun _ _ _ h => h) (Or.inl ⟨by rfl, ?_⟩) trivial ?_
          rotate_left
          · (intro w hSw; go_simp; try with_reducible rfl)
          try simp only [Act.put, List.setIfInBounds_toArray, List.set_cons_zero, List.set_cons_succ]
          refine wpAnyH_done (by kernel_rfl) ?_ _
          refine NoPanic.normal ?_
          refine ⟨rfl, _, _, _, _, _, _, _, _, rfl, Lib.hid ?_⟩
          exact ((Below.refl _ w).drew).trans (hbl1.trans (hbl2.mono hbl1.size))
        exact AllReadyH.nil
      refine AllReadyH.cons (o := { dst := some 13, op := Op.makeSlice 22 (Operand.tmp 12) (Operand.tmp 12), type := 22, pos := "dict.go:27", after := #[{ on := 3, ground := Ground.data }, { on := 3, ground := Ground.data }], guard := none }) rfl (fun K hK => ?_) ?_
      · skip
        refine oper_mk _ _ rfl 0 (by omega) rfl rfl ?_
        intro w3 hs2 hbl2 hlt2
        refine hK.out _ _ trivial (fun hHeld => ?_)
        clear hK K
        try simp only [Act.put, List.setIfInBounds_toArray, List.set_cons_zero, List.set_cons_succ]
        refine wpAnyH_ready (rs := [1]) (by kernel_rfl) (by simp) ?_
        refine AllReadyH.cons (o := { dst := some 10, op := Op.call { callee := Callee.value (Operand.func 28), args := #[Operand.tmp 9], argTypes := #[22] }, type := 22, pos := "dict.go:27", after := #[{ on := 0, ground := Ground.data }], guard := none }) rfl (fun K hK => ?_) ?_
        · skip
          go_simp
          refine (Try.clone0 a m _ hm).mono ?_
          rintro x2 w2 ⟨⟨a1, c1, rfl⟩, hbl1⟩
          refine hK.out _ _ trivial (fun hHeld => ?_)
          clear hK K
          try simp only [Act.put, List.setIfInBounds_toArray, List.set_cons_zero, List.set_cons_succ]
          refine wpAnyH_take (i := 5) (oi := { dst := some 3, op := Op.assign (Operand.tmp 10), type := 22, pos := "dict.go:27", after := #[{ on := 1, ground := Ground.data }, { on := 1, ground := Ground.chain }, { on := 0, ground := Ground.phase }, { on := 1, ground := Ground.phase }, { on := 2, ground := Ground.textOnly Departure.lateStores }, { on := 3, ground := Ground.textOnly Departure.lateStoresUnsure }, { on := 4, ground := Ground.textOnly Departure.lateStoresUnsure }], guard := none }) (v := ?_) rfl (by kernel_rfl) (by kernel_rfl) (by kernel_rfl) (fun _ _ _ h => h) (Or.inl ⟨by rfl, ?_⟩) trivial ?_
          rotate_left
          · (intro w hSw; go_simp; try with_reducible rfl)
          try simp only [Act.put, List.setIfInBounds_toArray, List.set_cons_zero, List.set_cons_succ]
          refine wpAnyH_take (i := 6) (oi := { dst := some 4, op := Op.assign (Operand.tmp 13), type := 22, pos := "dict.go:27", after := #[{ on := 4, ground := Ground.data }, { on := 5, ground := Ground.chain }, { on := 0, ground := Ground.phase }, { on := 1, ground := Ground.phase }, { on := 2, ground := Ground.phase }, { on := 3, ground := Ground.phase }, { on := 4, ground := Ground.phase }, { on := 5, ground := Ground.phase }], guard := none }) (v := ?_) rfl (by kernel_rfl) (by kernel_rfl) (by kernel_rfl) (fun _ _ _ h => h) (Or.inl ⟨by rfl, ?_⟩) trivial ?_
          rotate_left
          · (intro w hSw; go_simp; try with_reducible rfl)
          try simp only [Act.put, List.setIfInBounds_toArray, List.set_cons_zero, List.set_cons_succ]
          refine wpAnyH_done (by kernel_rfl) ?_ _
          refine NoPanic.normal ?_
          refine ⟨rfl, _, _, _, _, _, _, _, _, rfl, Lib.hid ?_⟩
          exact ((Below.refl _ w).drew).trans (hbl2.trans (hbl1.mono hbl2.size))
        exact AllReadyH.nil
      exact AllReadyH.nil
    rintro e a2 w2 ⟨rfl, a1, c1, v4, u9, u10, u11, u12, u13, rfl, HS⟩
    go_wp2_with (refine wp_label ?_; rename_i Q0 K0 hK; refine hK _ _ (hL _ _ ?_); exact ⟨HS, a1, c1, _, _, _, _, _, _, _, _, _, _, _, _, _, _, _, _, _, _, _, _, _, _, _, _, _, _, _, _, _, _, _, _, _, _, _, _, _, _, _, _, _, _, _, _, _, _, _, _, _, _, _, _, _, rfl⟩)
  · rintro a' wr ⟨HS, a1, c1, u1, u4, u6, u7, u8, u9, u10, u11, u12, u13, u14, u15, u16, u17, u18, u19, u20, u21, u22, u23, u24, u25, u26, u27, u28, u29, u30, u31, u32, u33, u34, u35, u36, u37, u38, u39, u40, u41, u42, u43, u44, u45, u46, u47, u48, u49, u50, u51, u52, u53, u54, u55, u56, rfl⟩
    go_wp2_with fail
    simp only [Exit.jump]
    go_returns
    exact ⟨⟨_, _, rfl⟩, HS.out⟩
set_option maxHeartbeats 1000000 in
theorem Try.build0 (a : Option Addr) (m : Nat) (w : World) (hm : a = none → m = 0) :
    Calls Try.prog 8 #[.slice a 0 m] w fun e w' => (∃ a1 c1 b c, e = .returned (.tuple #[.slice a1 0 c1, .slice b 0 c])) ∧ Below w.heap.size w w' := by
  obtain ⟨i39, hi39, hz0, hz1, hz2⟩ := info_parts Try.info39
  go_enter Try.func8, Try.ntmps8
  go_wp2_with fail
  refine (Try.sorted0 a m w hm).mono ?_
  rintro e1 w1 ⟨⟨a1, c1, rfl⟩, hb1⟩
  go_wp2_with fail
  refine (Try.compact0 a1 c1 w1).mono ?_
  rintro e2 w2 ⟨rfl, rfl⟩
  go_wp2_with (at_make; refine wpList_mk _ rfl _ _ 25 rfl 39 i39 (.int .u64 0) Try.underlying25 hi39 hz0 hz1 (by omega) rfl _ _ _ _ 0 0 rfl rfl (by omega) (by omega) (Nat.le_refl _) (by omega) ?_)
  have HB0 := Lib.hid hb1
  generalize hw3 : w2.alloc _ = w3
  have HB : Hid (Below w.heap.size w w3) := Lib.hid (by rw [← hw3]; exact HB0.out.alloc HB0.out.size _)
  clear hw3 hb1 HB0
  go_loopw [18] (fun t wr => t = .int .i64 0 ∧ Hid (Below w.heap.size w wr)) (fun t _ => 0)
  case atStart => exact ⟨rfl, HB⟩
  case round =>
    obtain ⟨rfl, HJ⟩ := hrel
    go_wp2_with fail
    refine (Try.clip0 a1 c1 wr).mono ?_
    rintro e4 w4 ⟨⟨a4, c4, rfl⟩, hb4⟩
    have HE := Lib.hid (HJ.out.trans (hb4.mono HJ.out.size))
    clear hb4
    go_wp2_with fail
    go_ret2
    exact ⟨⟨_, _, _, _, rfl⟩, HE.out⟩
end Go.Proofs
end

section
namespace Go.Proofs
open Go.RowKit NT Go.Shelf Go.Lib Go.Sort
set_option maxRecDepth 100000
namespace NT
theorem lt_asymm {a b : Str} (h : lt a b = true) (h' : lt b a = true) : False := by
  rw [asymm h] at h'; cases h'
theorem sup_unique : ∀ {a b : List Str}, Sup a → Sup b → (∀ x, x ∈ a ↔ x ∈ b) → a = b
  | [], [], _, _, _ => rfl
  | [], y :: b, _, _, h => absurd ((h y).2 (List.mem_cons_self ..)) (by simp)
  | x :: a, [], _, _, h => absurd ((h x).1 (List.mem_cons_self ..)) (by simp)
  | x :: a, y :: b, ha, hb, h => by
    have ha' := List.pairwise_cons.1 ha
    have hb' := List.pairwise_cons.1 hb
    have hxy : x = y := by
      have h1 := (h x).1 (List.mem_cons_self ..)
      have h2 := (h y).2 (List.mem_cons_self ..)
      rcases List.mem_cons.1 h1 with e | h1
      · exact e
      · rcases List.mem_cons.1 h2 with e | h2
        · exact e.symm
        · exact (lt_asymm (ha'.1 y h2) (hb'.1 x h1)).elim
    subst hxy
    congr 1
    refine sup_unique ha'.2 hb'.2 fun z => ?_
    have hz := h z
    rw [List.mem_cons, List.mem_cons] at hz
    constructor
    · intro hza
      rcases hz.1 (.inr hza) with e | q
      · have := ha'.1 z hza
        rw [e, lt_irrefl] at this; cases this
      · exact q
    · intro hzb
      rcases hz.2 (.inr hzb) with e | q
      · have := hb'.1 z hzb
        rw [e, lt_irrefl] at this; cases this
      · exact q
end NT
theorem BLD.same {w w1 w2 : World} {w' : World} {n n' : Nat} {l l' : List Str} {b k c pb b' k' c' pb' : Nat} {S r S' r' : List Str} (h : BLD w w1 n l b k c pb S r) (h' : BLD w' w2 n' l' b' k' c' pb' S' r') (hm : ∀ x, x ∈ l ↔ x ∈ l') : S = S' :=
  sup_unique h.up h'.up fun x => (h.mem x).trans ((hm x).trans (h'.mem x).symm)
theorem BLD.below {w w1 w2 : World} {n : Nat} {l : List Str} {b k c pb : Nat} {S r : List Str} (h : BLD w w1 n l b k c pb S r) (hb : Below w1.heap.size w1 w2) : BLD w w2 n l b k c pb S r :=
  ⟨h.sy.congr (hb.block _ h.sy.lt), h.uy.congr (hb.block _ h.uy.lt), h.ne, h.g1, h.g2, h.kl, h.up, h.mem, h.bel.trans (hb.mono h.bel.size), h.kn⟩
theorem RW.below {w w1 : World} {a : Option Addr} {l : List Str} (h : RW w a l) (hb : Below w.heap.size w w1) : RW w1 a l := by
  intro j x hx
  obtain ⟨A, hA, hc⟩ := h j x hx
  exact ⟨A, hA, (World.cell?_of_block (hb.block _ (block_lt_of_cell hc))).trans hc⟩
theorem RW.cells {w : World} {A : Addr} {l : List Str} (h : RW w (some A) l) : ∀ j u, (l.map encStr)[j]? = some u → w.cell? (A.add j) = some u := by
  intro j u hu
  rw [List.getElem?_map] at hu
  obtain ⟨x, hx, rfl⟩ := Option.map_eq_some_iff.1 hu
  obtain ⟨B, hB, hc⟩ := h j x hx
  cases hB
  exact hc
end Go.Proofs
end

section
namespace Go.Proofs
open Go.RowKit NT Go.Shelf Go.Lib Go.Sort
set_option maxRecDepth 100000
theorem Try.info4 : (Try.prog.info? 4).map (fun i => (i.zero, i.size, i.bytes)) = some (some (.bool false), 1, 1) := by kernel_rfl
theorem geq_str (y x : Str) (h : lt y x = true) : binOp .geq 9 (encStr y) (encStr x) = pure (.bool false) := by
  have := (lss_str y x).trans h
  simp only [binOp, Op.stringOp, encStr]
  rw [this]
  rfl
theorem idx_self {S : List Str} {q : Nat} {y : Str} (hS : Sup S) (hq : S[q]? = some y) : S.idxOf y = q := by
  have hm := List.mem_of_getElem? hq
  have hi := idx_at hm
  have h1 := List.idxOf_lt_length_of_mem hm
  have h2 := (List.getElem?_eq_some_iff.1 hq).1
  have e1 := (List.getElem?_eq_some_iff.1 hq).2
  have e2 := (List.getElem?_eq_some_iff.1 hi).2
  rcases Nat.lt_trichotomy (S.idxOf y) q with h | h | h
  · have := List.pairwise_iff_getElem.1 hS _ _ h1 h2 h
    rw [e1, e2, lt_irrefl] at this; cases this
  · exact h
  · have := List.pairwise_iff_getElem.1 hS _ _ h2 h1 h
    rw [e1, e2, lt_irrefl] at this; cases this
def BQ (w : World) (b : Nat) (l : List Bool) : Prop := w.heap[b]? = some (.cells (l.map Value.bool).toArray 4 (0, 0))
theorem BQ.z {w : World} {b : Nat} {l : List Bool} (h : BQ w b l) (i : Nat) : w.frozen? ⟨b, i, none⟩ = false := frozen_of_row w b i _ 4 h
theorem BQ.cell {w : World} {b : Nat} {l : List Bool} (h : BQ w b l) {i : Nat} {x : Bool} (hi : l[i]? = some x) : w.cell? ⟨b, i, none⟩ = some (.bool x) := by
  rw [cell_of_row w b i _ 4 (0, 0) h]
  simp [hi]
theorem BQ.set {w : World} {b : Nat} {l : List Bool} (h : BQ w b l) (i : Nat) (x : Bool) : BQ (w.setCell ⟨b, i, none⟩ (.bool x)) b (l.set i x) := by
  unfold BQ
  rw [heap_setCell_same w b i _ 4 _ h]
  simp [List.map_set]
theorem rev_next {l : List Str} {n j : Nat} {x : Str} (hl : l.length = n) (hj : j < n) (hx : l[n - 1 - j]? = some x) : l.reverse.take (j + 1) = l.reverse.take j ++ [x] := by
  have hj' : j < l.reverse.length := by rw [List.length_reverse, hl]; exact hj
  rw [List.take_succ_eq_append_getElem hj', List.getElem_reverse]
  congr 2
  have := (List.getElem?_eq_some_iff.1 hx).2
  simpa [hl] using this
set_option maxHeartbeats 1000000 in
theorem Try.order1 (A : Addr) (n m : Nat) (w : World) (l : List Str) (hl : l.length = n) (ha : RW w (some A) l) (h0 : 0 < n) (hn : n ≤ 100) (hs : ∀ x ∈ l, x.length ≤ 400) :
    Calls Try.prog 4 #[.slice (some A) n m] w fun e w' => e = .returned (.bool true) ∧ Below w.heap.size w w' := by
  have HA := Lib.hid ha
  have HL := Lib.hid hl
  have HS : Hid (decide (∀ x ∈ l, x.length ≤ 400) = true) := Lib.hid (decide_eq_true hs)
  obtain ⟨i9, hi9, hz0, hz1, hz2⟩ := info_parts Try.info9
  obtain ⟨i4, hi4, hy0, hy1, hy2⟩ := info_parts Try.info4
  clear ha hl hs
  go_enter Try.func4, Try.ntmps4
  go_wp2_with fail
  refine (Try.known6 w).mono ?_
  rintro e1 w1 ⟨rfl, hb1⟩
  have HB1 := Lib.hid hb1
  clear hb1
  go_wp2_with fail
  refine (Try.few (some A) n m w1 hn l HL.out (HA.out.below HB1.out)).mono ?_
  rintro e2 w2 ⟨rfl, rfl⟩
  rw [HS.out]
  go_wp2_with fail
  refine (Try.build A n m w2 h0 (by omega) l HL.out (HA.out.below HB1.out).cells).mono ?_
  rintro e3 w3 ⟨b, k, c, pb, S, r, rfl, hB⟩
  have HB := Lib.hid hB
  have HB3 := Lib.hid (HB1.out.trans (hB.bel.mono HB1.out.size))
  have s1 : IntKind.i64.wrap ((n : Int) - 1) = (n : Int) - 1 := wrapi (by omega) (by omega)
  clear hB
  go_wp2_with fail
  go_loopw [5, 6] (fun t5 t6 wr => ∃ j : Nat, j ≤ n ∧ t6 = .int .i64 ((n : Int) - 1 - j) ∧ Hid (wr.ownsRow w3.heap.size 9 1 t5 j ((l.reverse.take j).map encStr)) ∧ Hid (Below w3.heap.size w3 wr)) (fun _ t6 _ => (intO t6 + 1).toNat)
  case atStart => exact ⟨0, Nat.zero_le _, by simp, Lib.hid (World.ownsRow_nil w3 _ 9 1), Lib.hid (Below.refl _ _)⟩
  case round =>
    obtain ⟨j, hj, rfl, HO, HW⟩ := hrel
    by_cases hlt : j < n
    · have d1 : decide ((0 : Int) ≤ (n : Int) - 1 - j) = true := decide_eq_true (by omega)
      obtain ⟨i, hi⟩ : ∃ i : Nat, n - 1 - j = i := ⟨_, rfl⟩
      have hi' : (n : Int) - 1 - j = (i : Int) := by omega
      obtain ⟨x, hx⟩ : ∃ x, l[i]? = some x := ⟨_, List.getElem?_eq_getElem (by rw [HL.out]; omega)⟩
      obtain ⟨X, hX, k0⟩ := ((HA.out.below HB3.out).below HW.out) i x hx
      cases hX
      have hrev := rev_next HL.out hlt (by rw [hi]; exact hx)
      rw [hi'] at d1
      rw [hi']
      have d2 : decide ((i : Int) < n) = true := decide_eq_true (by omega)
      have hin : i < n := by omega
      have hin' : (i : Int) < n := by omega
      have d2' : decide (i < n) = true := decide_eq_true hin
      have hoa := HO.out.alloc (.cells #[encStr x] 9)
      have hca : ∀ j' u, ([x].map encStr)[j']? = some u → (wr.alloc (.cells #[encStr x] 9)).cell? ((⟨wr.heap.size, 0, none⟩ : Addr).add j') = some u := by
        intro j' u hu
        rw [add_none, Nat.zero_add, cell_of_row _ _ _ _ 9 (0, 0) (heap_alloc_new _ _)]
        simpa using hu
      have hba := HW.out.alloc HW.out.size (.cells #[encStr x] 9)
      have OA := Lib.hid hoa
      have CA := Lib.hid hca
      have BA := Lib.hid hba
      have HR := Lib.hid hrev
      have s2 : IntKind.i64.wrap ((i : Int) - 1) = (i : Int) - 1 := wrapi (by omega) (by omega)
      have HI := Lib.hid hi'
      clear hoa hca hba hrev hx hi hi'
      go_wp2_with (at_builtin; refine wpList_append_own _ rfl (.tmp 29) (.tmp 34) 22 rfl w3.heap.size 9 i9 (.string ByteArray.empty) 1 16 Try.underlying22 hi9 hz0 hz1 hz2 rfl (by decide) _ _ _ rfl (OA.out) _ _ _ ([x].map encStr) rfl rfl (CA.out) (str_one _) (by unfold maxLen; omega) (by omega) (BA.out).size ?_)
      intro v' w5 ho5 hg5 _
      have hb5 := BA.out.grown hg5 (BA.out).size (fun q hq => (OA.out.lt q hq).1)
      have H5 := Lib.hid hb5
      have O5 : Hid (w5.ownsRow w3.heap.size 9 1 v' (j + 1) ((l.reverse.take (j + 1)).map encStr)) := Lib.hid (by rw [HR.out]; simpa [List.map_append, List.map_take, List.map_reverse] using ho5)
      clear ho5 hg5 hb5
      go_wp2_with fail
      have hI := HI.out
      exact ⟨⟨j + 1, by omega, by congr 1 <;> omega, O5, H5⟩, by (simp [intO]; try omega)⟩
    · obtain rfl : j = n := by omega
      have d1 : decide ((0 : Int) ≤ (j : Int) - 1 - j) = false := decide_eq_false (by omega)
      have hv : u5 ≠ Value.slice none 0 0 := by
        intro e
        have := HO.out
        rw [e] at this
        rcases this.2 with ⟨_, q⟩ | ⟨_, _, _, q, _⟩
        · omega
        · cases q
      have hO := HO.out
      rw [List.take_of_length_le (by rw [List.length_reverse, HL.out]; exact Nat.le_refl _)] at hO
      obtain ⟨hrl, g, c2, rfl, hg, hjc, hsy2⟩ := SY.own hO hv
      have HSY2 := Lib.hid hsy2
      have HRL := Lib.hid hrl
      clear hO hv HO hg hrl hsy2
      go_wp2_with fail
      refine (Try.build ⟨g, 0, none⟩ j c2 wr h0 (by omega) l.reverse HRL.out (SY.rw (S := l.reverse) (r := []) (by simpa using HSY2.out)).cells).mono ?_
      rintro e6 w6 ⟨b2, k2, cc2, pb2, S2, r2, rfl, hB2⟩
      have hW6 : Below w3.heap.size w3 w6 := HW.out.trans (hB2.bel.mono HW.out.size)
      have hB6 := HB.out.below hW6
      have hSS := hB6.same hB2 (fun x => by simp)
      subst hSS
      have hkk : k = k2 := hB6.kl.symm.trans hB2.kl
      subst hkk
      have HK := Lib.hid hB6.kl
      have hkj : k ≤ 65536 := by
        have h1 := hB6.kn
        omega
      have HW6 := Lib.hid (HB3.out.trans (hW6.mono HB3.out.size))
      have R1 := Lib.hid hB2.sy.rw
      have R2 := Lib.hid hB6.sy.rw
      have H6 := Lib.hid hB6
      have hne : decide ((j : Int) = j) = true := by simp
      clear hW6 hB6 hB2 HB
      go_wp2_with fail
      refine (Try.words (some ⟨b2, 0, none⟩) (some ⟨b, 0, none⟩) k _ _ w6 S HK.out hkj R1.out R2.out).mono ?_
      rintro e7 w7 ⟨rfl, hb7⟩
      have H7 := Lib.hid (H6.out.below hb7)
      have HW7 := Lib.hid (HW6.out.trans (hb7.mono HW6.out.size))
      clear hb7 R1 R2 H6 HW6
      go_wp2_with (at_make; refine wpList_mk _ rfl _ _ 38 rfl 4 i4 (.bool false) Try.underlying38 hi4 hy0 hy1 (by omega) rfl _ _ _ _ k k rfl rfl (by omega) (by omega) (Nat.le_refl _) hkj ?_)
      obtain ⟨ab, hab⟩ : ∃ ab, w7.heap.size = ab := ⟨_, rfl⟩
      have hbq : BQ (w7.alloc (.cells (Array.replicate k (Value.bool false)) 4)) ab (List.replicate k false) := by
        unfold BQ
        rw [← hab, heap_alloc_new]
        simp
      have hbw : Below w7.heap.size w7 (w7.alloc (.cells (Array.replicate k (Value.bool false)) 4)) := (Below.refl _ w7).alloc (Nat.le_refl _) _
      rw [hab]
      generalize w7.alloc (.cells (Array.replicate k (Value.bool false)) 4) = w8 at hbq hbw ⊢
      have HQ := Lib.hid hbq
      have HW8 := Lib.hid hbw
      have HAB := Lib.hid hab
      clear hbq hbw hab
      go_loopw [10] (fun t wr => ∃ i : Nat, i ≤ j ∧ t = .int .i64 i ∧ Hid (Below w7.heap.size w7 wr) ∧ ∃ bs : List Bool, Hid (BQ wr ab bs ∧ bs.length = k ∧ ∀ y ∈ l.take i, bs[S.idxOf y]? = some true)) (fun t _ => j - (intO t).toNat)
      case atStart => exact ⟨0, Nat.zero_le _, rfl, HW8, List.replicate k false, Lib.hid ⟨HQ.out, by simp, by simp⟩⟩
      case round =>
        obtain ⟨i, hi, rfl, HV, bs, HD⟩ := hrel
        by_cases hlt : i < j
        · have d1 : decide ((i : Int) < j) = true := decide_eq_true (by omega)
          have d1' : decide (i < j) = true := decide_eq_true hlt
          obtain ⟨x, hx⟩ : ∃ x, l[i]? = some x := ⟨_, List.getElem?_eq_getElem (by rw [HL.out]; exact hlt)⟩
          have hB9 := H7.out.below HV.out
          have hxS : x ∈ S := (hB9.mem x).2 (List.mem_of_getElem? hx)
          have hix := idx_at hxS
          have hpk : S.idxOf x < k := by rw [← HK.out]; exact List.idxOf_lt_length_of_mem hxS
          have q1 := hB9.uy.cell (i := i) (x := S.idxOf x) (by rw [List.getElem?_map, hx]; rfl)
          have q2 := hB9.sy.cell (i := S.idxOf x) (x := x) (by rw [List.getElem?_append_left (by rw [HK.out]; exact hpk)]; exact hix)
          obtain ⟨X, hX, k0⟩ := ((HA.out.below HW7.out).below HV.out) i x hx
          cases hX
          have q3 := k0
          obtain ⟨z, hz⟩ : ∃ z, bs[S.idxOf x]? = some z := ⟨_, List.getElem?_eq_getElem (by rw [HD.out.2.1]; exact hpk)⟩
          have c0 := HD.out.1.cell hz
          have f0 := HD.out.1.z (S.idxOf x)
          have HN : Hid (BQ (wr.setCell ⟨ab, S.idxOf x, none⟩ (.bool true)) ab (bs.set (S.idxOf x) true) ∧ (bs.set (S.idxOf x) true).length = k ∧ ∀ y ∈ l.take (i + 1), (bs.set (S.idxOf x) true)[S.idxOf y]? = some true) := Lib.hid (by
            refine ⟨HD.out.1.set _ _, by rw [List.length_set]; exact HD.out.2.1, fun y hy => ?_⟩
            have hi' := (List.getElem?_eq_some_iff.1 hx).1
            rw [List.take_succ_eq_append_getElem hi', (List.getElem?_eq_some_iff.1 hx).2, List.mem_append, List.mem_singleton] at hy
            rw [List.getElem?_set]
            split
            · rename_i e
              rw [if_pos (by rw [HD.out.2.1]; exact hpk)]
            · rename_i e
              rcases hy with hy | rfl
              · exact HD.out.2.2 y hy
              · exact absurd rfl e)
          have HV2 : Hid (Below w7.heap.size w7 (wr.setCell ⟨ab, S.idxOf x, none⟩ (.bool true))) := Lib.hid (HV.out.trans ⟨rfl, rfl, rfl, by simp [World.setCell], fun q hq => heap_setCell_other wr ⟨ab, S.idxOf x, none⟩ q _ (by have := HAB.out; show q ≠ ab; omega)⟩)
          clear hz hx hB9 hxS hix k0
          generalize S.idxOf x = p at q1 q2 c0 f0 HN HV2 hpk
          have hkk := H7.out.kn
          have g1 : decide ((k : Int) ≤ p) = false := decide_eq_false (by omega)
          have g1' : decide (k ≤ p) = false := decide_eq_false (by omega)
          have g2 : IntKind.u64.wrap (k : Int) = k := wrapu (by omega) (by omega)
          have g3 : decide ((p : Int) < k) = true := decide_eq_true (by omega)
          have g4 : decide (p < k) = true := decide_eq_true hpk
          go_upto_region 18 with fail
          refine wp_region_noPanic ?_
          refine wp_region_held_drew (S := (fun W => W.cell? ⟨pb, i, none⟩ = some (.int .u64 (p : Nat)) ∧ W.cell? ⟨b, p, none⟩ = some (encStr x) ∧ W.cell? (A.add i) = some (encStr x))) (by kernel_rfl) ?_ (fun hHeld => ?_)
          · exact ⟨q1, q2, q3⟩
          refine wpAnyH_take (i := 0) (oi := { dst := some 61, op := Op.move (Operand.tmp 4), type := 25, pos := "more.go:26", after := #[], guard := none }) (v := ?_) rfl (by kernel_rfl) (by kernel_rfl) (by kernel_rfl) (fun _ _ _ h => h) (Or.inl ⟨by rfl, ?_⟩) (by assumption) ?_
          rotate_left
          · (intro w hSw; (try dsimp only at hSw); go_simp; try with_reducible rfl)
          try simp only [Act.put, List.setIfInBounds_toArray, List.set_cons_zero, List.set_cons_succ]
          refine wpAnyH_take (i := 1) (oi := { dst := some 62, op := Op.move (Operand.tmp 10), type := 3, pos := "more.go:26", after := #[], guard := none }) (v := ?_) rfl (by kernel_rfl) (by kernel_rfl) (by kernel_rfl) (fun _ _ _ h => h) (Or.inl ⟨by rfl, ?_⟩) (by assumption) ?_
          rotate_left
          · (intro w hSw; (try dsimp only at hSw); go_simp; try with_reducible rfl)
          try simp only [Act.put, List.setIfInBounds_toArray, List.set_cons_zero, List.set_cons_succ]
          refine wpAnyH_take (i := 2) (oi := { dst := some 63, op := Op.indexAddr 25 (Operand.tmp 61) (Operand.tmp 62), type := 0, pos := "more.go:26", after := #[{ on := 0, ground := Ground.data }, { on := 1, ground := Ground.data }], guard := none }) (v := ?_) rfl (by kernel_rfl) (by kernel_rfl) (by kernel_rfl) (fun _ _ _ h => h) (Or.inl ⟨by rfl, ?_⟩) (by assumption) ?_
          rotate_left
          · (intro w hSw; (try dsimp only at hSw); go_simp; try with_reducible rfl)
          try simp only [Act.put, List.setIfInBounds_toArray, List.set_cons_zero, List.set_cons_succ]
          refine wpAnyH_take (i := 3) (oi := { dst := some 64, op := Op.load 39 (Operand.tmp 63), type := 39, pos := "more.go:26", after := #[{ on := 2, ground := Ground.data }], guard := none }) (v := ?_) rfl (by kernel_rfl) (by kernel_rfl) (by kernel_rfl) (fun _ _ _ h => h) (Or.inl ⟨by rfl, ?_⟩) (by assumption) ?_
          rotate_left
          · (intro w hSw; (try dsimp only at hSw); go_simp; try with_reducible rfl)
          try simp only [Act.put, List.setIfInBounds_toArray, List.set_cons_zero, List.set_cons_succ]
          refine wpAnyH_take (i := 4) (oi := { dst := some 65, op := Op.move (Operand.tmp 3), type := 22, pos := "more.go:26", after := #[], guard := none }) (v := ?_) rfl (by kernel_rfl) (by kernel_rfl) (by kernel_rfl) (fun _ _ _ h => h) (Or.inl ⟨by rfl, ?_⟩) (by assumption) ?_
          rotate_left
          · (intro w hSw; (try dsimp only at hSw); go_simp; try with_reducible rfl)
          try simp only [Act.put, List.setIfInBounds_toArray, List.set_cons_zero, List.set_cons_succ]
          refine wpAnyH_take (i := 5) (oi := { dst := some 66, op := Op.call { callee := Callee.builtin Builtin.len, args := #[Operand.tmp 65], argTypes := #[22] }, type := 3, pos := "more.go:26", after := #[{ on := 4, ground := Ground.data }], guard := none }) (v := ?_) rfl (by kernel_rfl) (by kernel_rfl) (by kernel_rfl) (fun _ _ _ h => h) (Or.inl ⟨by rfl, ?_⟩) (by assumption) ?_
          rotate_left
          · (intro w hSw; (try dsimp only at hSw); go_simp; try with_reducible rfl)
          try simp only [Act.put, List.setIfInBounds_toArray, List.set_cons_zero, List.set_cons_succ]
          refine wpAnyH_take (i := 6) (oi := { dst := some 67, op := Op.convert 3 39 (Operand.tmp 66), type := 39, pos := "more.go:26", after := #[{ on := 5, ground := Ground.data }], guard := none }) (v := ?_) rfl (by kernel_rfl) (by kernel_rfl) (by kernel_rfl) (fun _ _ _ h => h) (Or.inl ⟨by rfl, ?_⟩) (by assumption) ?_
          rotate_left
          · (intro w hSw; (try dsimp only at hSw); go_simp; try with_reducible rfl)
          try simp only [Act.put, List.setIfInBounds_toArray, List.set_cons_zero, List.set_cons_succ]
          refine wpAnyH_take (i := 7) (oi := { dst := some 68, op := Op.binOp BinOp.geq 39 (Operand.tmp 64) (Operand.tmp 67) 39, type := 4, pos := "more.go:26", after := #[{ on := 3, ground := Ground.data }, { on := 6, ground := Ground.data }], guard := none }) (v := ?_) rfl (by kernel_rfl) (by kernel_rfl) (by kernel_rfl) (fun _ _ _ h => h) (Or.inl ⟨by rfl, ?_⟩) (by assumption) ?_
          rotate_left
          · (intro w hSw; (try dsimp only at hSw); go_simp; try with_reducible rfl)
          try simp only [Act.put, List.setIfInBounds_toArray, List.set_cons_zero, List.set_cons_succ]
          refine wpAnyH_take (i := 8) (oi := { dst := some 69, op := Op.move (Operand.tmp 68), type := 4, pos := "more.go:26", after := #[{ on := 7, ground := Ground.data }], guard := none }) (v := ?_) rfl (by kernel_rfl) (by kernel_rfl) (by kernel_rfl) (fun _ _ _ h => h) (Or.inl ⟨by rfl, ?_⟩) (by assumption) ?_
          rotate_left
          · (intro w hSw; (try dsimp only at hSw); go_simp; try with_reducible rfl)
          try simp only [Act.put, List.setIfInBounds_toArray, List.set_cons_zero, List.set_cons_succ]
          refine wpAnyH_take (i := 9) (oi := { dst := some 70, op := Op.move (Operand.tmp 3), type := 22, pos := "more.go:26", after := #[{ on := 8, ground := Ground.guard }], guard := some (8, false) }) (v := ?_) rfl (by kernel_rfl) (by kernel_rfl) (by kernel_rfl) (fun _ _ _ h => h) (Or.inl ⟨by rfl, ?_⟩) (by assumption) ?_
          rotate_left
          · (intro w hSw; (try dsimp only at hSw); go_simp; try with_reducible rfl)
          try simp only [Act.put, List.setIfInBounds_toArray, List.set_cons_zero, List.set_cons_succ]
          refine wpAnyH_take (i := 10) (oi := { dst := some 71, op := Op.move (Operand.tmp 4), type := 25, pos := "more.go:26", after := #[{ on := 8, ground := Ground.guard }], guard := some (8, false) }) (v := ?_) rfl (by kernel_rfl) (by kernel_rfl) (by kernel_rfl) (fun _ _ _ h => h) (Or.inl ⟨by rfl, ?_⟩) (by assumption) ?_
          rotate_left
          · (intro w hSw; (try dsimp only at hSw); go_simp; try with_reducible rfl)
          try simp only [Act.put, List.setIfInBounds_toArray, List.set_cons_zero, List.set_cons_succ]
          refine wpAnyH_take (i := 11) (oi := { dst := some 72, op := Op.move (Operand.tmp 10), type := 3, pos := "more.go:26", after := #[{ on := 8, ground := Ground.guard }], guard := some (8, false) }) (v := ?_) rfl (by kernel_rfl) (by kernel_rfl) (by kernel_rfl) (fun _ _ _ h => h) (Or.inl ⟨by rfl, ?_⟩) (by assumption) ?_
          rotate_left
          · (intro w hSw; (try dsimp only at hSw); go_simp; try with_reducible rfl)
          try simp only [Act.put, List.setIfInBounds_toArray, List.set_cons_zero, List.set_cons_succ]
          refine wpAnyH_take (i := 12) (oi := { dst := some 73, op := Op.indexAddr 25 (Operand.tmp 71) (Operand.tmp 72), type := 0, pos := "more.go:26", after := #[{ on := 10, ground := Ground.data }, { on := 11, ground := Ground.data }, { on := 8, ground := Ground.guard }], guard := some (8, false) }) (v := ?_) rfl (by kernel_rfl) (by kernel_rfl) (by kernel_rfl) (fun _ _ _ h => h) (Or.inl ⟨by rfl, ?_⟩) (by assumption) ?_
          rotate_left
          · (intro w hSw; (try dsimp only at hSw); go_simp; try with_reducible rfl)
          try simp only [Act.put, List.setIfInBounds_toArray, List.set_cons_zero, List.set_cons_succ]
          refine wpAnyH_take (i := 13) (oi := { dst := some 74, op := Op.load 39 (Operand.tmp 73), type := 39, pos := "more.go:26", after := #[{ on := 12, ground := Ground.data }, { on := 8, ground := Ground.guard }], guard := some (8, false) }) (v := ?_) rfl (by kernel_rfl) (by kernel_rfl) (by kernel_rfl) (fun _ _ _ h => h) (Or.inl ⟨by rfl, ?_⟩) (by assumption) ?_
          rotate_left
          · (intro w hSw; (try dsimp only at hSw); go_simp; try with_reducible rfl)
          try simp only [Act.put, List.setIfInBounds_toArray, List.set_cons_zero, List.set_cons_succ]
          refine wpAnyH_take (i := 14) (oi := { dst := some 75, op := Op.indexAddr 22 (Operand.tmp 70) (Operand.tmp 74), type := 0, pos := "more.go:26", after := #[{ on := 9, ground := Ground.data }, { on := 13, ground := Ground.data }, { on := 8, ground := Ground.guard }], guard := some (8, false) }) (v := ?_) rfl (by kernel_rfl) (by kernel_rfl) (by kernel_rfl) (fun _ _ _ h => h) (Or.inl ⟨by rfl, ?_⟩) (by assumption) ?_
          rotate_left
          · (intro w hSw; (try dsimp only at hSw); go_simp; try with_reducible rfl)
          try simp only [Act.put, List.setIfInBounds_toArray, List.set_cons_zero, List.set_cons_succ]
          refine wpAnyH_take (i := 15) (oi := { dst := some 76, op := Op.load 9 (Operand.tmp 75), type := 9, pos := "more.go:26", after := #[{ on := 14, ground := Ground.data }, { on := 8, ground := Ground.guard }], guard := some (8, false) }) (v := ?_) rfl (by kernel_rfl) (by kernel_rfl) (by kernel_rfl) (fun _ _ _ h => h) (Or.inl ⟨by rfl, ?_⟩) (by assumption) ?_
          rotate_left
          · (intro w hSw; (try dsimp only at hSw); go_simp; try with_reducible rfl)
          try simp only [Act.put, List.setIfInBounds_toArray, List.set_cons_zero, List.set_cons_succ]
          refine wpAnyH_take (i := 16) (oi := { dst := some 77, op := Op.move (Operand.tmp 0), type := 22, pos := "more.go:26", after := #[{ on := 8, ground := Ground.guard }], guard := some (8, false) }) (v := ?_) rfl (by kernel_rfl) (by kernel_rfl) (by kernel_rfl) (fun _ _ _ h => h) (Or.inl ⟨by rfl, ?_⟩) (by assumption) ?_
          rotate_left
          · (intro w hSw; (try dsimp only at hSw); go_simp; try with_reducible rfl)
          try simp only [Act.put, List.setIfInBounds_toArray, List.set_cons_zero, List.set_cons_succ]
          refine wpAnyH_take (i := 17) (oi := { dst := some 78, op := Op.move (Operand.tmp 10), type := 3, pos := "more.go:26", after := #[{ on := 8, ground := Ground.guard }], guard := some (8, false) }) (v := ?_) rfl (by kernel_rfl) (by kernel_rfl) (by kernel_rfl) (fun _ _ _ h => h) (Or.inl ⟨by rfl, ?_⟩) (by assumption) ?_
          rotate_left
          · (intro w hSw; (try dsimp only at hSw); go_simp; try with_reducible rfl)
          try simp only [Act.put, List.setIfInBounds_toArray, List.set_cons_zero, List.set_cons_succ]
          refine wpAnyH_take (i := 18) (oi := { dst := some 79, op := Op.indexAddr 22 (Operand.tmp 77) (Operand.tmp 78), type := 0, pos := "more.go:26", after := #[{ on := 16, ground := Ground.data }, { on := 17, ground := Ground.data }, { on := 8, ground := Ground.guard }], guard := some (8, false) }) (v := ?_) rfl (by kernel_rfl) (by kernel_rfl) (by kernel_rfl) (fun _ _ _ h => h) (Or.inl ⟨by rfl, ?_⟩) (by assumption) ?_
          rotate_left
          · (intro w hSw; (try dsimp only at hSw); go_simp; try with_reducible rfl)
          try simp only [Act.put, List.setIfInBounds_toArray, List.set_cons_zero, List.set_cons_succ]
          refine wpAnyH_take (i := 19) (oi := { dst := some 80, op := Op.load 9 (Operand.tmp 79), type := 9, pos := "more.go:26", after := #[{ on := 18, ground := Ground.data }, { on := 8, ground := Ground.guard }], guard := some (8, false) }) (v := ?_) rfl (by kernel_rfl) (by kernel_rfl) (by kernel_rfl) (fun _ _ _ h => h) (Or.inl ⟨by rfl, ?_⟩) (by assumption) ?_
          rotate_left
          · (intro w hSw; (try dsimp only at hSw); go_simp; try with_reducible rfl)
          try simp only [Act.put, List.setIfInBounds_toArray, List.set_cons_zero, List.set_cons_succ]
          refine wpAnyH_take (i := 20) (oi := { dst := some 81, op := Op.binOp BinOp.neq 9 (Operand.tmp 76) (Operand.tmp 80) 9, type := 4, pos := "more.go:26", after := #[{ on := 15, ground := Ground.data }, { on := 19, ground := Ground.data }, { on := 8, ground := Ground.guard }], guard := some (8, false) }) (v := ?_) rfl (by kernel_rfl) (by kernel_rfl) (by kernel_rfl) (fun _ _ _ h => h) (Or.inl ⟨by rfl, ?_⟩) (by assumption) ?_
          rotate_left
          · (intro w hSw; (try dsimp only at hSw); go_simp; try with_reducible rfl)
          try simp only [Act.put, List.setIfInBounds_toArray, List.set_cons_zero, List.set_cons_succ]
          refine wpAnyH_take (i := 21) (oi := { dst := some 82, op := Op.pick (Operand.tmp 69) (Operand.const (Value.bool true)) (Operand.tmp 81), type := 4, pos := "more.go:26", after := #[{ on := 8, ground := Ground.data }, { on := 20, ground := Ground.data }], guard := none }) (v := ?_) rfl (by kernel_rfl) (by kernel_rfl) (by kernel_rfl) (fun _ _ _ h => h) (Or.inl ⟨by rfl, ?_⟩) (by assumption) ?_
          rotate_left
          · (intro w hSw; (try dsimp only at hSw); go_simp; try with_reducible rfl)
          try simp only [Act.put, List.setIfInBounds_toArray, List.set_cons_zero, List.set_cons_succ]
          refine wpAnyH_done (by kernel_rfl) ?_ _
          refine NoPanic.normal ?_
          go_wp2_with fail
          exact ⟨⟨i + 1, by omega, rfl, Lib.hid (HV2.out).drew, _, Lib.hid HN.out⟩, by (simp [intO]; try omega)⟩
        · obtain rfl : i = j := by omega
          have d1 : decide ((i : Int) < i) = false := by simp
          have d1' : decide (i < i) = false := by simp
          have hB9 := H7.out.below HV.out
          have HT : Hid (∀ q y, S[q]? = some y → bs[q]? = some true) := Lib.hid (by
            intro q y hq
            have hy : y ∈ l := (hB9.mem y).1 (List.mem_of_getElem? hq)
            have := HD.out.2.2 y (by rw [List.take_of_length_le (by rw [HL.out]; exact Nat.le_refl _)]; exact hy)
            rwa [idx_self hB9.up hq] at this)
          have HQB := Lib.hid HD.out.1
          have HVV := HV
          clear hB9 HD HV
          go_wp2_with fail
          go_loopw [11] (fun t wr' => ∃ q : Nat, q ≤ k ∧ t = .int .i64 q ∧ Hid (Below w7.heap.size w7 wr') ∧ Hid (BQ wr' ab bs)) (fun t _ => k - (intO t).toNat)
          case atStart => exact ⟨0, Nat.zero_le _, rfl, HVV, HQB⟩
          case round =>
            obtain ⟨q, hq, rfl, HV, HD⟩ := hrel
            by_cases hqk : q < k
            · have e1 : decide ((q : Int) < k) = true := decide_eq_true (by omega)
              have e1' : decide (q < k) = true := decide_eq_true hqk
              have hB9 := H7.out.below HV.out
              obtain ⟨x, hx⟩ : ∃ x, S[q]? = some x := ⟨_, List.getElem?_eq_getElem (by rw [HK.out]; exact hqk)⟩
              have q1 := HD.out.cell (HT.out q x hx)
              have q3 := hB9.sy.cell (i := q) (x := x) (by rw [List.getElem?_append_left (by rw [HK.out]; exact hqk)]; exact hx)
              by_cases hq0 : q = 0
              · subst hq0
                clear hB9 hx q3
                go_upto_region 24 with fail
                refine wp_region_noPanic ?_
                refine wp_region_held_drew (S := (fun W => W.cell? ⟨ab, 0, none⟩ = some (.bool true))) (by kernel_rfl) ?_ (fun hHeld => ?_)
                · exact q1
                refine wpAnyH_take (i := 0) (oi := { dst := some 95, op := Op.move (Operand.tmp 9), type := 38, pos := "more.go:32", after := #[], guard := none }) (v := ?_) rfl (by kernel_rfl) (by kernel_rfl) (by kernel_rfl) (fun _ _ _ h => h) (Or.inl ⟨by rfl, ?_⟩) (by assumption) ?_
                rotate_left
                · (intro w hSw; (try dsimp only at hSw); go_simp; try with_reducible rfl)
                try simp only [Act.put, List.setIfInBounds_toArray, List.set_cons_zero, List.set_cons_succ]
                refine wpAnyH_take (i := 1) (oi := { dst := some 96, op := Op.move (Operand.tmp 11), type := 3, pos := "more.go:32", after := #[], guard := none }) (v := ?_) rfl (by kernel_rfl) (by kernel_rfl) (by kernel_rfl) (fun _ _ _ h => h) (Or.inl ⟨by rfl, ?_⟩) (by assumption) ?_
                rotate_left
                · (intro w hSw; (try dsimp only at hSw); go_simp; try with_reducible rfl)
                try simp only [Act.put, List.setIfInBounds_toArray, List.set_cons_zero, List.set_cons_succ]
                refine wpAnyH_take (i := 2) (oi := { dst := some 97, op := Op.indexAddr 38 (Operand.tmp 95) (Operand.tmp 96), type := 0, pos := "more.go:32", after := #[{ on := 0, ground := Ground.data }, { on := 1, ground := Ground.data }], guard := none }) (v := ?_) rfl (by kernel_rfl) (by kernel_rfl) (by kernel_rfl) (fun _ _ _ h => h) (Or.inl ⟨by rfl, ?_⟩) (by assumption) ?_
                rotate_left
                · (intro w hSw; (try dsimp only at hSw); go_simp; try with_reducible rfl)
                try simp only [Act.put, List.setIfInBounds_toArray, List.set_cons_zero, List.set_cons_succ]
                refine wpAnyH_take (i := 3) (oi := { dst := some 98, op := Op.load 4 (Operand.tmp 97), type := 4, pos := "more.go:32", after := #[{ on := 2, ground := Ground.data }], guard := none }) (v := ?_) rfl (by kernel_rfl) (by kernel_rfl) (by kernel_rfl) (fun _ _ _ h => h) (Or.inl ⟨by rfl, ?_⟩) (by assumption) ?_
                rotate_left
                · (intro w hSw; (try dsimp only at hSw); go_simp; try with_reducible rfl)
                try simp only [Act.put, List.setIfInBounds_toArray, List.set_cons_zero, List.set_cons_succ]
                refine wpAnyH_take (i := 4) (oi := { dst := some 99, op := Op.unOp UnOp.not 4 (Operand.tmp 98), type := 4, pos := "more.go:32", after := #[{ on := 3, ground := Ground.data }], guard := none }) (v := ?_) rfl (by kernel_rfl) (by kernel_rfl) (by kernel_rfl) (fun _ _ _ h => h) (Or.inl ⟨by rfl, ?_⟩) (by assumption) ?_
                rotate_left
                · (intro w hSw; (try dsimp only at hSw); go_simp; try with_reducible rfl)
                try simp only [Act.put, List.setIfInBounds_toArray, List.set_cons_zero, List.set_cons_succ]
                refine wpAnyH_take (i := 5) (oi := { dst := some 100, op := Op.move (Operand.tmp 99), type := 4, pos := "more.go:32", after := #[{ on := 4, ground := Ground.data }], guard := none }) (v := ?_) rfl (by kernel_rfl) (by kernel_rfl) (by kernel_rfl) (fun _ _ _ h => h) (Or.inl ⟨by rfl, ?_⟩) (by assumption) ?_
                rotate_left
                · (intro w hSw; (try dsimp only at hSw); go_simp; try with_reducible rfl)
                try simp only [Act.put, List.setIfInBounds_toArray, List.set_cons_zero, List.set_cons_succ]
                refine wpAnyH_take (i := 6) (oi := { dst := some 101, op := Op.move (Operand.tmp 11), type := 3, pos := "more.go:32", after := #[{ on := 5, ground := Ground.guard }], guard := some (5, false) }) (v := ?_) rfl (by kernel_rfl) (by kernel_rfl) (by kernel_rfl) (fun _ _ _ h => h) (Or.inl ⟨by rfl, ?_⟩) (by assumption) ?_
                rotate_left
                · (intro w hSw; (try dsimp only at hSw); go_simp; try with_reducible rfl)
                try simp only [Act.put, List.setIfInBounds_toArray, List.set_cons_zero, List.set_cons_succ]
                refine wpAnyH_take (i := 7) (oi := { dst := some 102, op := Op.binOp BinOp.gtr 3 (Operand.tmp 101) (Operand.const (Value.int IntKind.i64 0)) 3, type := 4, pos := "more.go:32", after := #[{ on := 6, ground := Ground.data }, { on := 5, ground := Ground.guard }], guard := some (5, false) }) (v := ?_) rfl (by kernel_rfl) (by kernel_rfl) (by kernel_rfl) (fun _ _ _ h => h) (Or.inl ⟨by rfl, ?_⟩) (by assumption) ?_
                rotate_left
                · (intro w hSw; (try dsimp only at hSw); go_simp; try with_reducible rfl)
                try simp only [Act.put, List.setIfInBounds_toArray, List.set_cons_zero, List.set_cons_succ]
                refine wpAnyH_take (i := 8) (oi := { dst := some 103, op := Op.move (Operand.tmp 102), type := 4, pos := "more.go:32", after := #[{ on := 7, ground := Ground.data }, { on := 5, ground := Ground.chain }, { on := 5, ground := Ground.guard }], guard := some (5, false) }) (v := ?_) rfl (by kernel_rfl) (by kernel_rfl) (by kernel_rfl) (fun _ _ _ h => h) (Or.inl ⟨by rfl, ?_⟩) (by assumption) ?_
                rotate_left
                · (intro w hSw; (try dsimp only at hSw); go_simp; try with_reducible rfl)
                try simp only [Act.put, List.setIfInBounds_toArray, List.set_cons_zero, List.set_cons_succ]
                refine wpAnyH_take (i := 9) (oi := { dst := some 104, op := Op.move (Operand.tmp 3), type := 22, pos := "more.go:32", after := #[{ on := 8, ground := Ground.guard }], guard := some (8, true) }) (v := undef) rfl (by kernel_rfl) (by kernel_rfl) (by kernel_rfl) (fun _ _ _ h => h) (Or.inr ⟨by rfl, rfl⟩) (by assumption) ?_
                try simp only [Act.put, List.setIfInBounds_toArray, List.set_cons_zero, List.set_cons_succ]
                refine wpAnyH_take (i := 10) (oi := { dst := some 105, op := Op.move (Operand.tmp 11), type := 3, pos := "more.go:32", after := #[{ on := 8, ground := Ground.guard }], guard := some (8, true) }) (v := undef) rfl (by kernel_rfl) (by kernel_rfl) (by kernel_rfl) (fun _ _ _ h => h) (Or.inr ⟨by rfl, rfl⟩) (by assumption) ?_
                try simp only [Act.put, List.setIfInBounds_toArray, List.set_cons_zero, List.set_cons_succ]
                refine wpAnyH_take (i := 11) (oi := { dst := some 106, op := Op.binOp BinOp.sub 3 (Operand.tmp 105) (Operand.const (Value.int IntKind.i64 1)) 3, type := 3, pos := "more.go:32", after := #[{ on := 10, ground := Ground.data }, { on := 8, ground := Ground.guard }], guard := some (8, true) }) (v := undef) rfl (by kernel_rfl) (by kernel_rfl) (by kernel_rfl) (fun _ _ _ h => h) (Or.inr ⟨by rfl, rfl⟩) (by assumption) ?_
                try simp only [Act.put, List.setIfInBounds_toArray, List.set_cons_zero, List.set_cons_succ]
                refine wpAnyH_take (i := 12) (oi := { dst := some 107, op := Op.indexAddr 22 (Operand.tmp 104) (Operand.tmp 106), type := 0, pos := "more.go:32", after := #[{ on := 9, ground := Ground.data }, { on := 11, ground := Ground.data }, { on := 8, ground := Ground.guard }], guard := some (8, true) }) (v := undef) rfl (by kernel_rfl) (by kernel_rfl) (by kernel_rfl) (fun _ _ _ h => h) (Or.inr ⟨by rfl, rfl⟩) (by assumption) ?_
                try simp only [Act.put, List.setIfInBounds_toArray, List.set_cons_zero, List.set_cons_succ]
                refine wpAnyH_take (i := 13) (oi := { dst := some 108, op := Op.load 9 (Operand.tmp 107), type := 9, pos := "more.go:32", after := #[{ on := 12, ground := Ground.data }, { on := 8, ground := Ground.guard }], guard := some (8, true) }) (v := undef) rfl (by kernel_rfl) (by kernel_rfl) (by kernel_rfl) (fun _ _ _ h => h) (Or.inr ⟨by rfl, rfl⟩) (by assumption) ?_
                try simp only [Act.put, List.setIfInBounds_toArray, List.set_cons_zero, List.set_cons_succ]
                refine wpAnyH_take (i := 14) (oi := { dst := some 109, op := Op.move (Operand.tmp 3), type := 22, pos := "more.go:32", after := #[{ on := 8, ground := Ground.guard }], guard := some (8, true) }) (v := undef) rfl (by kernel_rfl) (by kernel_rfl) (by kernel_rfl) (fun _ _ _ h => h) (Or.inr ⟨by rfl, rfl⟩) (by assumption) ?_
                try simp only [Act.put, List.setIfInBounds_toArray, List.set_cons_zero, List.set_cons_succ]
                refine wpAnyH_take (i := 15) (oi := { dst := some 110, op := Op.move (Operand.tmp 11), type := 3, pos := "more.go:32", after := #[{ on := 8, ground := Ground.guard }], guard := some (8, true) }) (v := undef) rfl (by kernel_rfl) (by kernel_rfl) (by kernel_rfl) (fun _ _ _ h => h) (Or.inr ⟨by rfl, rfl⟩) (by assumption) ?_
                try simp only [Act.put, List.setIfInBounds_toArray, List.set_cons_zero, List.set_cons_succ]
                refine wpAnyH_take (i := 16) (oi := { dst := some 111, op := Op.indexAddr 22 (Operand.tmp 109) (Operand.tmp 110), type := 0, pos := "more.go:32", after := #[{ on := 14, ground := Ground.data }, { on := 15, ground := Ground.data }, { on := 8, ground := Ground.guard }], guard := some (8, true) }) (v := undef) rfl (by kernel_rfl) (by kernel_rfl) (by kernel_rfl) (fun _ _ _ h => h) (Or.inr ⟨by rfl, rfl⟩) (by assumption) ?_
                try simp only [Act.put, List.setIfInBounds_toArray, List.set_cons_zero, List.set_cons_succ]
                refine wpAnyH_take (i := 17) (oi := { dst := some 112, op := Op.load 9 (Operand.tmp 111), type := 9, pos := "more.go:32", after := #[{ on := 16, ground := Ground.data }, { on := 8, ground := Ground.guard }], guard := some (8, true) }) (v := undef) rfl (by kernel_rfl) (by kernel_rfl) (by kernel_rfl) (fun _ _ _ h => h) (Or.inr ⟨by rfl, rfl⟩) (by assumption) ?_
                try simp only [Act.put, List.setIfInBounds_toArray, List.set_cons_zero, List.set_cons_succ]
                refine wpAnyH_take (i := 18) (oi := { dst := some 113, op := Op.binOp BinOp.geq 9 (Operand.tmp 108) (Operand.tmp 112) 9, type := 4, pos := "more.go:32", after := #[{ on := 13, ground := Ground.data }, { on := 17, ground := Ground.data }, { on := 8, ground := Ground.guard }], guard := some (8, true) }) (v := undef) rfl (by kernel_rfl) (by kernel_rfl) (by kernel_rfl) (fun _ _ _ h => h) (Or.inr ⟨by rfl, rfl⟩) (by assumption) ?_
                try simp only [Act.put, List.setIfInBounds_toArray, List.set_cons_zero, List.set_cons_succ]
                refine wpAnyH_take (i := 19) (oi := { dst := some 114, op := Op.pick (Operand.tmp 103) (Operand.tmp 113) (Operand.const (Value.bool false)), type := 4, pos := "more.go:32", after := #[{ on := 8, ground := Ground.data }, { on := 18, ground := Ground.data }, { on := 5, ground := Ground.guard }], guard := some (5, false) }) (v := ?_) rfl (by kernel_rfl) (by kernel_rfl) (by kernel_rfl) (fun _ _ _ h => h) (Or.inl ⟨by rfl, ?_⟩) (by assumption) ?_
                rotate_left
                · (intro w hSw; (try dsimp only at hSw); go_simp; try with_reducible rfl)
                try simp only [Act.put, List.setIfInBounds_toArray, List.set_cons_zero, List.set_cons_succ]
                refine wpAnyH_take (i := 20) (oi := { dst := some 115, op := Op.pick (Operand.tmp 100) (Operand.const (Value.bool true)) (Operand.tmp 114), type := 4, pos := "more.go:32", after := #[{ on := 5, ground := Ground.data }, { on := 19, ground := Ground.data }], guard := none }) (v := ?_) rfl (by kernel_rfl) (by kernel_rfl) (by kernel_rfl) (fun _ _ _ h => h) (Or.inl ⟨by rfl, ?_⟩) (by assumption) ?_
                rotate_left
                · (intro w hSw; (try dsimp only at hSw); go_simp; try with_reducible rfl)
                try simp only [Act.put, List.setIfInBounds_toArray, List.set_cons_zero, List.set_cons_succ]
                refine wpAnyH_done (by kernel_rfl) ?_ _
                refine NoPanic.normal ?_
                go_wp2_with fail
                exact ⟨⟨1, by omega, rfl, Lib.hid (HV.out).drew, Lib.hid HD.out⟩, by (simp [intO]; try omega)⟩
              · obtain ⟨p, hqp⟩ : ∃ p, q = p + 1 := ⟨q - 1, by omega⟩
                obtain ⟨y, hy⟩ : ∃ y, S[p]? = some y := ⟨_, List.getElem?_eq_getElem (by rw [HK.out]; omega)⟩
                have q2 := hB9.sy.cell (i := p) (x := y) (by rw [List.getElem?_append_left (by rw [HK.out]; omega)]; exact hy)
                have hlt : lt y x = true := by
                  have := List.pairwise_iff_getElem.1 hB9.up p q (List.getElem?_eq_some_iff.1 hy).1 (List.getElem?_eq_some_iff.1 hx).1 (by omega)
                  rwa [(List.getElem?_eq_some_iff.1 hy).2, (List.getElem?_eq_some_iff.1 hx).2] at this
                have hb := (lss_str y x).trans hlt
                have hb' := (bytesLess_eq y x).trans hlt
                have hge := geq_str y x hlt
                have g1 : decide ((0 : Int) < (q : Int)) = true := decide_eq_true (by omega)
                have g1' : decide (0 < q) = true := decide_eq_true (by omega)
                have g2 : IntKind.i64.wrap ((q : Int) - 1) = (p : Int) := by have := H7.out.kn; rw [wrapi (by omega) (by omega)]; omega
                have g2' : (q : Int) - 1 = (p : Int) := by omega
                have g2'' : IntKind.i64.wrap (p : Int) = (p : Int) := by have := H7.out.kn; exact wrapi (by omega) (by omega)
                have HQP := Lib.hid hqp
                have g3 : decide ((p : Int) < k) = true := decide_eq_true (by omega)
                have g4 : p < k := by omega
                clear hB9 hx hy hlt hq0 hqp
                go_upto_region 24 with fail
                refine wp_region_noPanic ?_
                refine wp_region_held_drew (S := (fun W => W.cell? ⟨ab, q, none⟩ = some (.bool true) ∧ W.cell? ⟨b, p, none⟩ = some (encStr y) ∧ W.cell? ⟨b, q, none⟩ = some (encStr x))) (by kernel_rfl) ?_ (fun hHeld => ?_)
                · exact ⟨q1, q2, q3⟩
                refine wpAnyH_take (i := 0) (oi := { dst := some 95, op := Op.move (Operand.tmp 9), type := 38, pos := "more.go:32", after := #[], guard := none }) (v := ?_) rfl (by kernel_rfl) (by kernel_rfl) (by kernel_rfl) (fun _ _ _ h => h) (Or.inl ⟨by rfl, ?_⟩) (by assumption) ?_
                rotate_left
                · (intro w hSw; (try dsimp only at hSw); go_simp; try with_reducible rfl)
                try simp only [Act.put, List.setIfInBounds_toArray, List.set_cons_zero, List.set_cons_succ]
                refine wpAnyH_take (i := 1) (oi := { dst := some 96, op := Op.move (Operand.tmp 11), type := 3, pos := "more.go:32", after := #[], guard := none }) (v := ?_) rfl (by kernel_rfl) (by kernel_rfl) (by kernel_rfl) (fun _ _ _ h => h) (Or.inl ⟨by rfl, ?_⟩) (by assumption) ?_
                rotate_left
                · (intro w hSw; (try dsimp only at hSw); go_simp; try with_reducible rfl)
                try simp only [Act.put, List.setIfInBounds_toArray, List.set_cons_zero, List.set_cons_succ]
                refine wpAnyH_take (i := 2) (oi := { dst := some 97, op := Op.indexAddr 38 (Operand.tmp 95) (Operand.tmp 96), type := 0, pos := "more.go:32", after := #[{ on := 0, ground := Ground.data }, { on := 1, ground := Ground.data }], guard := none }) (v := ?_) rfl (by kernel_rfl) (by kernel_rfl) (by kernel_rfl) (fun _ _ _ h => h) (Or.inl ⟨by rfl, ?_⟩) (by assumption) ?_
                rotate_left
                · (intro w hSw; (try dsimp only at hSw); go_simp; try with_reducible rfl)
                try simp only [Act.put, List.setIfInBounds_toArray, List.set_cons_zero, List.set_cons_succ]
                refine wpAnyH_take (i := 3) (oi := { dst := some 98, op := Op.load 4 (Operand.tmp 97), type := 4, pos := "more.go:32", after := #[{ on := 2, ground := Ground.data }], guard := none }) (v := ?_) rfl (by kernel_rfl) (by kernel_rfl) (by kernel_rfl) (fun _ _ _ h => h) (Or.inl ⟨by rfl, ?_⟩) (by assumption) ?_
                rotate_left
                · (intro w hSw; (try dsimp only at hSw); go_simp; try with_reducible rfl)
                try simp only [Act.put, List.setIfInBounds_toArray, List.set_cons_zero, List.set_cons_succ]
                refine wpAnyH_take (i := 4) (oi := { dst := some 99, op := Op.unOp UnOp.not 4 (Operand.tmp 98), type := 4, pos := "more.go:32", after := #[{ on := 3, ground := Ground.data }], guard := none }) (v := ?_) rfl (by kernel_rfl) (by kernel_rfl) (by kernel_rfl) (fun _ _ _ h => h) (Or.inl ⟨by rfl, ?_⟩) (by assumption) ?_
                rotate_left
                · (intro w hSw; (try dsimp only at hSw); go_simp; try with_reducible rfl)
                try simp only [Act.put, List.setIfInBounds_toArray, List.set_cons_zero, List.set_cons_succ]
                refine wpAnyH_take (i := 5) (oi := { dst := some 100, op := Op.move (Operand.tmp 99), type := 4, pos := "more.go:32", after := #[{ on := 4, ground := Ground.data }], guard := none }) (v := ?_) rfl (by kernel_rfl) (by kernel_rfl) (by kernel_rfl) (fun _ _ _ h => h) (Or.inl ⟨by rfl, ?_⟩) (by assumption) ?_
                rotate_left
                · (intro w hSw; (try dsimp only at hSw); go_simp; try with_reducible rfl)
                try simp only [Act.put, List.setIfInBounds_toArray, List.set_cons_zero, List.set_cons_succ]
                refine wpAnyH_take (i := 6) (oi := { dst := some 101, op := Op.move (Operand.tmp 11), type := 3, pos := "more.go:32", after := #[{ on := 5, ground := Ground.guard }], guard := some (5, false) }) (v := ?_) rfl (by kernel_rfl) (by kernel_rfl) (by kernel_rfl) (fun _ _ _ h => h) (Or.inl ⟨by rfl, ?_⟩) (by assumption) ?_
                rotate_left
                · (intro w hSw; (try dsimp only at hSw); go_simp; try with_reducible rfl)
                try simp only [Act.put, List.setIfInBounds_toArray, List.set_cons_zero, List.set_cons_succ]
                refine wpAnyH_take (i := 7) (oi := { dst := some 102, op := Op.binOp BinOp.gtr 3 (Operand.tmp 101) (Operand.const (Value.int IntKind.i64 0)) 3, type := 4, pos := "more.go:32", after := #[{ on := 6, ground := Ground.data }, { on := 5, ground := Ground.guard }], guard := some (5, false) }) (v := ?_) rfl (by kernel_rfl) (by kernel_rfl) (by kernel_rfl) (fun _ _ _ h => h) (Or.inl ⟨by rfl, ?_⟩) (by assumption) ?_
                rotate_left
                · (intro w hSw; (try dsimp only at hSw); go_simp; try with_reducible rfl)
                try simp only [Act.put, List.setIfInBounds_toArray, List.set_cons_zero, List.set_cons_succ]
                refine wpAnyH_take (i := 8) (oi := { dst := some 103, op := Op.move (Operand.tmp 102), type := 4, pos := "more.go:32", after := #[{ on := 7, ground := Ground.data }, { on := 5, ground := Ground.chain }, { on := 5, ground := Ground.guard }], guard := some (5, false) }) (v := ?_) rfl (by kernel_rfl) (by kernel_rfl) (by kernel_rfl) (fun _ _ _ h => h) (Or.inl ⟨by rfl, ?_⟩) (by assumption) ?_
                rotate_left
                · (intro w hSw; (try dsimp only at hSw); go_simp; try with_reducible rfl)
                try simp only [Act.put, List.setIfInBounds_toArray, List.set_cons_zero, List.set_cons_succ]
                refine wpAnyH_take (i := 9) (oi := { dst := some 104, op := Op.move (Operand.tmp 3), type := 22, pos := "more.go:32", after := #[{ on := 8, ground := Ground.guard }], guard := some (8, true) }) (v := ?_) rfl (by kernel_rfl) (by kernel_rfl) (by kernel_rfl) (fun _ _ _ h => h) (Or.inl ⟨by rfl, ?_⟩) (by assumption) ?_
                rotate_left
                · (intro w hSw; (try dsimp only at hSw); go_simp; try with_reducible rfl)
                try simp only [Act.put, List.setIfInBounds_toArray, List.set_cons_zero, List.set_cons_succ]
                refine wpAnyH_take (i := 10) (oi := { dst := some 105, op := Op.move (Operand.tmp 11), type := 3, pos := "more.go:32", after := #[{ on := 8, ground := Ground.guard }], guard := some (8, true) }) (v := ?_) rfl (by kernel_rfl) (by kernel_rfl) (by kernel_rfl) (fun _ _ _ h => h) (Or.inl ⟨by rfl, ?_⟩) (by assumption) ?_
                rotate_left
                · (intro w hSw; (try dsimp only at hSw); go_simp; try with_reducible rfl)
                try simp only [Act.put, List.setIfInBounds_toArray, List.set_cons_zero, List.set_cons_succ]
                refine wpAnyH_take (i := 11) (oi := { dst := some 106, op := Op.binOp BinOp.sub 3 (Operand.tmp 105) (Operand.const (Value.int IntKind.i64 1)) 3, type := 3, pos := "more.go:32", after := #[{ on := 10, ground := Ground.data }, { on := 8, ground := Ground.guard }], guard := some (8, true) }) (v := ?_) rfl (by kernel_rfl) (by kernel_rfl) (by kernel_rfl) (fun _ _ _ h => h) (Or.inl ⟨by rfl, ?_⟩) (by assumption) ?_
                rotate_left
                · (intro w hSw; (try dsimp only at hSw); go_simp; try with_reducible rfl)
                try simp only [Act.put, List.setIfInBounds_toArray, List.set_cons_zero, List.set_cons_succ]
                refine wpAnyH_take (i := 12) (oi := { dst := some 107, op := Op.indexAddr 22 (Operand.tmp 104) (Operand.tmp 106), type := 0, pos := "more.go:32", after := #[{ on := 9, ground := Ground.data }, { on := 11, ground := Ground.data }, { on := 8, ground := Ground.guard }], guard := some (8, true) }) (v := ?_) rfl (by kernel_rfl) (by kernel_rfl) (by kernel_rfl) (fun _ _ _ h => h) (Or.inl ⟨by rfl, ?_⟩) (by assumption) ?_
                rotate_left
                · (intro w hSw; (try dsimp only at hSw); go_simp; try with_reducible rfl)
                try simp only [Act.put, List.setIfInBounds_toArray, List.set_cons_zero, List.set_cons_succ]
                refine wpAnyH_take (i := 13) (oi := { dst := some 108, op := Op.load 9 (Operand.tmp 107), type := 9, pos := "more.go:32", after := #[{ on := 12, ground := Ground.data }, { on := 8, ground := Ground.guard }], guard := some (8, true) }) (v := ?_) rfl (by kernel_rfl) (by kernel_rfl) (by kernel_rfl) (fun _ _ _ h => h) (Or.inl ⟨by rfl, ?_⟩) (by assumption) ?_
                rotate_left
                · (intro w hSw; (try dsimp only at hSw); go_simp; try with_reducible rfl)
                try simp only [Act.put, List.setIfInBounds_toArray, List.set_cons_zero, List.set_cons_succ]
                refine wpAnyH_take (i := 14) (oi := { dst := some 109, op := Op.move (Operand.tmp 3), type := 22, pos := "more.go:32", after := #[{ on := 8, ground := Ground.guard }], guard := some (8, true) }) (v := ?_) rfl (by kernel_rfl) (by kernel_rfl) (by kernel_rfl) (fun _ _ _ h => h) (Or.inl ⟨by rfl, ?_⟩) (by assumption) ?_
                rotate_left
                · (intro w hSw; (try dsimp only at hSw); go_simp; try with_reducible rfl)
                try simp only [Act.put, List.setIfInBounds_toArray, List.set_cons_zero, List.set_cons_succ]
                refine wpAnyH_take (i := 15) (oi := { dst := some 110, op := Op.move (Operand.tmp 11), type := 3, pos := "more.go:32", after := #[{ on := 8, ground := Ground.guard }], guard := some (8, true) }) (v := ?_) rfl (by kernel_rfl) (by kernel_rfl) (by kernel_rfl) (fun _ _ _ h => h) (Or.inl ⟨by rfl, ?_⟩) (by assumption) ?_
                rotate_left
                · (intro w hSw; (try dsimp only at hSw); go_simp; try with_reducible rfl)
                try simp only [Act.put, List.setIfInBounds_toArray, List.set_cons_zero, List.set_cons_succ]
                refine wpAnyH_take (i := 16) (oi := { dst := some 111, op := Op.indexAddr 22 (Operand.tmp 109) (Operand.tmp 110), type := 0, pos := "more.go:32", after := #[{ on := 14, ground := Ground.data }, { on := 15, ground := Ground.data }, { on := 8, ground := Ground.guard }], guard := some (8, true) }) (v := ?_) rfl (by kernel_rfl) (by kernel_rfl) (by kernel_rfl) (fun _ _ _ h => h) (Or.inl ⟨by rfl, ?_⟩) (by assumption) ?_
                rotate_left
                · (intro w hSw; (try dsimp only at hSw); go_simp; try with_reducible rfl)
                try simp only [Act.put, List.setIfInBounds_toArray, List.set_cons_zero, List.set_cons_succ]
                refine wpAnyH_take (i := 17) (oi := { dst := some 112, op := Op.load 9 (Operand.tmp 111), type := 9, pos := "more.go:32", after := #[{ on := 16, ground := Ground.data }, { on := 8, ground := Ground.guard }], guard := some (8, true) }) (v := ?_) rfl (by kernel_rfl) (by kernel_rfl) (by kernel_rfl) (fun _ _ _ h => h) (Or.inl ⟨by rfl, ?_⟩) (by assumption) ?_
                rotate_left
                · (intro w hSw; (try dsimp only at hSw); go_simp; try with_reducible rfl)
                try simp only [Act.put, List.setIfInBounds_toArray, List.set_cons_zero, List.set_cons_succ]
                refine wpAnyH_take (i := 18) (oi := { dst := some 113, op := Op.binOp BinOp.geq 9 (Operand.tmp 108) (Operand.tmp 112) 9, type := 4, pos := "more.go:32", after := #[{ on := 13, ground := Ground.data }, { on := 17, ground := Ground.data }, { on := 8, ground := Ground.guard }], guard := some (8, true) }) (v := ?_) rfl (by kernel_rfl) (by kernel_rfl) (by kernel_rfl) (fun _ _ _ h => h) (Or.inl ⟨by rfl, ?_⟩) (by assumption) ?_
                rotate_left
                · (intro w hSw; (try dsimp only at hSw); go_simp; try with_reducible rfl)
                try simp only [Act.put, List.setIfInBounds_toArray, List.set_cons_zero, List.set_cons_succ]
                refine wpAnyH_take (i := 19) (oi := { dst := some 114, op := Op.pick (Operand.tmp 103) (Operand.tmp 113) (Operand.const (Value.bool false)), type := 4, pos := "more.go:32", after := #[{ on := 8, ground := Ground.data }, { on := 18, ground := Ground.data }, { on := 5, ground := Ground.guard }], guard := some (5, false) }) (v := ?_) rfl (by kernel_rfl) (by kernel_rfl) (by kernel_rfl) (fun _ _ _ h => h) (Or.inl ⟨by rfl, ?_⟩) (by assumption) ?_
                rotate_left
                · (intro w hSw; (try dsimp only at hSw); go_simp; try with_reducible rfl)
                try simp only [Act.put, List.setIfInBounds_toArray, List.set_cons_zero, List.set_cons_succ]
                refine wpAnyH_take (i := 20) (oi := { dst := some 115, op := Op.pick (Operand.tmp 100) (Operand.const (Value.bool true)) (Operand.tmp 114), type := 4, pos := "more.go:32", after := #[{ on := 5, ground := Ground.data }, { on := 19, ground := Ground.data }], guard := none }) (v := ?_) rfl (by kernel_rfl) (by kernel_rfl) (by kernel_rfl) (fun _ _ _ h => h) (Or.inl ⟨by rfl, ?_⟩) (by assumption) ?_
                rotate_left
                · (intro w hSw; (try dsimp only at hSw); go_simp; try with_reducible rfl)
                try simp only [Act.put, List.setIfInBounds_toArray, List.set_cons_zero, List.set_cons_succ]
                refine wpAnyH_done (by kernel_rfl) ?_ _
                refine NoPanic.normal ?_
                go_wp2_with fail
                have hqp := HQP.out
                exact ⟨⟨q + 1, by omega, rfl, Lib.hid (HV.out).drew, Lib.hid HD.out⟩, by (simp [intO]; try omega)⟩
            · obtain rfl : q = k := by omega
              have e1 : decide ((q : Int) < q) = false := by simp
              have e1' : decide (q < q) = false := by simp
              go_wp2_with fail
              go_ret
              exact ⟨rfl, HW7.out.trans (HV.out.mono HW7.out.size)⟩
end Go.Proofs
end

section
namespace Go.Proofs
open Go.RowKit NT Go.Shelf Go.Lib Go.Sort
set_option maxRecDepth 100000
set_option maxHeartbeats 1000000 in
theorem Try.order0 (a : Option Addr) (m : Nat) (w : World) (hm : a = none → m = 0) :
    Calls Try.prog 4 #[.slice a 0 m] w fun e w' => e = .returned (.bool true) ∧ Below w.heap.size w w' := by
  obtain ⟨i4, hi4, hy0, hy1, hy2⟩ := info_parts Try.info4
  go_enter Try.func4, Try.ntmps4
  go_wp2_with fail
  refine (Try.known6 w).mono ?_
  rintro e1 w1 ⟨rfl, hb1⟩
  have HB1 := Lib.hid hb1
  clear hb1
  go_wp2_with fail
  refine (Try.few a 0 m w1 (by omega) [] rfl (by simp)).mono ?_
  rintro e2 w2 ⟨rfl, rfl⟩
  rw [show decide (∀ x ∈ ([] : List Str), x.length ≤ 400) = true by simp]
  go_wp2_with fail
  refine (Try.build0 a m w2 hm).mono ?_
  rintro e3 w3 ⟨⟨a1, c1, b, c, rfl⟩, hB⟩
  have HB3 := Lib.hid (HB1.out.trans (hB.mono HB1.out.size))
  clear hB
  go_wp2_with fail
  go_loopw [5, 6] (fun t5 t6 wr => t5 = .slice none 0 0 ∧ t6 = .int .i64 (-1) ∧ wr = w3) (fun _ _ _ => 0)
  case atStart => exact ⟨rfl, rfl, rfl⟩
  case round =>
    obtain ⟨rfl, rfl, rfl⟩ := hrel
    go_wp2_with fail
    refine (Try.build0 none 0 wr (fun _ => rfl)).mono ?_
    rintro e6 w6 ⟨⟨a2, c2, b2, cc2, rfl⟩, hB2⟩
    have HB6 := Lib.hid (HB3.out.trans (hB2.mono HB3.out.size))
    clear hB2
    go_wp2_with fail
    refine (Try.words a2 a1 0 _ _ w6 [] rfl (by omega) (fun j x h => by simp at h) (fun j x h => by simp at h)).mono ?_
    rintro e7 w7 ⟨rfl, hb7⟩
    have HB7 := Lib.hid (HB6.out.trans (hb7.mono HB6.out.size))
    clear hb7
    go_wp2_with (at_make; refine wpList_mk _ rfl _ _ 38 rfl 4 i4 (.bool false) Try.underlying38 hi4 hy0 hy1 (by omega) rfl _ _ _ _ 0 0 rfl rfl (by omega) (by omega) (Nat.le_refl _) (by omega) ?_)
    generalize hw8 : w7.alloc _ = w8
    have HB : Hid (Below w.heap.size w w8) := Lib.hid (by rw [← hw8]; exact HB7.out.alloc HB7.out.size _)
    clear hw8
    go_loopw [10] (fun t wr' => t = .int .i64 0 ∧ wr' = w8) (fun t _ => 0)
    case atStart => exact ⟨rfl, rfl⟩
    case round =>
      obtain ⟨rfl, rfl⟩ := hrel
      go_wp2_with fail
      rename_i w9
      go_loopw [11] (fun t wr' => t = .int .i64 0 ∧ Hid (Below w.heap.size w wr')) (fun t _ => 0)
      case atStart => exact ⟨rfl, HB⟩
      case round =>
        obtain ⟨rfl, HE⟩ := hrel
        go_wp2_with fail
        go_ret
        exact ⟨rfl, HE.out⟩
end Go.Proofs
end
