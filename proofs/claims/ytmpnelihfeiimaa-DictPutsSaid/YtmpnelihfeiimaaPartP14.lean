/-
  Texts of a proof over the translated program: proved evaluators and walks, part 14 of 19.
-/
import Derived.Test.YtmpnelihfeiimaaPartP13
import Derived.Below
import Derived.Deep.Cut
import Derived.Deep.RegionHeld3
import Derived.Deep.RegionLaw
import Derived.Deep.RegionLawGrows
import Derived.Deep.RegionWith
import Derived.Handy
import Derived.IntWalk
import Derived.Laws.AppendOwn
import Derived.Laws.MakeOwn
import Derived.Lib.Hide
import Derived.LoopTactic
import Derived.Outline
import Derived.OwnWalk
import Derived.Scope
import Derived.ScopeJumps
import Derived.Shelf.Slices.CompactS
import Derived.Shelf.Spec.SearchS
import Derived.Sort.EncStr
import Derived.Sort.Walk0
import Derived.Test.YtmpnelihfeiimaaProg
import Derived.WalkKit
import Derived.WalkMore
import Derived.WalkSpells
set_option linter.unusedVariables false
set_option linter.unusedSimpArgs false
set_option linter.unusedSectionVars false
set_option linter.unnecessarySimpa false
section
namespace Go.Proofs
open Go.RowKit NT Go.Shelf
set_option maxRecDepth 100000
def Try.searchA_ren : Shelf.Ren where
  f := fun x => match x with
    | 26 => 17
    | 33 => 30
    | 34 => 31
    | 38 => 39
    | n => n
  t := fun x => match x with
    | 0 => 0
    | 3 => 3
    | 4 => 4
    | 9 => 9
    | 24 => 22
    | 40 => 54
    | n => n
  g := fun n => n
set_option maxRecDepth 100000 in
theorem Try.searchA : Lays2.n26 Try.prog Try.searchA_ren where
  mixed := by kernel_rfl
  f26 := Eq.trans Try.func17 (by kernel_rfl)
  f33 := Eq.trans Try.func30 (by kernel_rfl)
  f34 := Eq.trans Try.func31 (by kernel_rfl)
  f38 := Eq.trans Try.func39 (by kernel_rfl)
  t0 := Try.underlying0
  a0 := Try.isAgg0
  z0 := Try.sizeOf0
  v0 := Try.zeroValue0
  t3 := Try.underlying3
  a3 := Try.isAgg3
  z3 := Try.sizeOf3
  v3 := Try.zeroValue3
  t4 := Try.underlying4
  a4 := Try.isAgg4
  z4 := Try.sizeOf4
  v4 := Try.zeroValue4
  t9 := Try.underlying9
  a9 := Try.isAgg9
  z9 := Try.sizeOf9
  v9 := Try.zeroValue9
  t24 := Try.underlying22
  a24 := Try.isAgg22
  z24 := Try.sizeOf22
  v24 := Try.zeroValue22
  t40 := Try.underlying54
  a40 := Try.isAgg54
  z40 := Try.sizeOf54
  v40 := Try.zeroValue54
def Try.compactA_ren : Shelf.Ren where
  f := fun x => match x with
    | 194 => 15
    | n => n
  t := fun x => match x with
    | 0 => 0
    | 3 => 3
    | 4 => 4
    | 9 => 9
    | 31 => 22
    | n => n
  g := fun n => n
set_option maxRecDepth 100000 in
theorem Try.compactA : Lays.n194 Try.prog Try.compactA_ren where
  mixed := by kernel_rfl
  f194 := Eq.trans Try.func15 (by kernel_rfl)
  t0 := Try.underlying0
  a0 := Try.isAgg0
  z0 := Try.sizeOf0
  v0 := Try.zeroValue0
  t3 := Try.underlying3
  a3 := Try.isAgg3
  z3 := Try.sizeOf3
  v3 := Try.zeroValue3
  t4 := Try.underlying4
  a4 := Try.isAgg4
  z4 := Try.sizeOf4
  v4 := Try.zeroValue4
  t9 := Try.underlying9
  a9 := Try.isAgg9
  z9 := Try.sizeOf9
  v9 := Try.zeroValue9
  t31 := Try.underlying22
  a31 := Try.isAgg22
  z31 := Try.sizeOf22
  v31 := Try.zeroValue22
end Go.Proofs
end

section
namespace Go.Proofs
open Go.RowKit NT Go.Shelf Go.Lib Go.Sort
set_option maxRecDepth 100000
namespace NT
theorem le_lt {a b c : Str} (h : le a b = true) (h' : lt b c = true) : lt a c = true := by
  simp only [le, Bool.not_eq_true'] at h
  cases e : lt a b
  · have := tri e h; subst this; exact h'
  · exact lt_trans e h'
theorem lt_of {a b : Str} (h : le a b = true) (hn : b ≠ a) : lt a b = true := by
  simp only [le, Bool.not_eq_true'] at h
  cases e : lt a b
  · exact absurd (tri e h).symm hn
  · rfl
def Sup (l : List Str) : Prop := l.Pairwise (fun a b => lt a b = true)
theorem get_bang (zs : List Str) (j : Nat) (hj : j < zs.length) : zs.toArray[j]! = zs[j] := by simp [getElem!_pos, hj]
theorem compact_inv {zs : List Str} (h : Up zs) : ∀ m, m ≤ zs.length → (∀ x, x ∈ compactUpTo zs.toArray m ↔ ∃ j, j < m ∧ zs.toArray[j]! = x) ∧ Sup (compactUpTo zs.toArray m)
  | 0, _ => by
    refine ⟨fun x => ?_, ?_⟩
    · simp [compactUpTo]
    · simp [compactUpTo, Sup]
  | m + 1, hm => by
    obtain ⟨h1, h2⟩ := compact_inv h m (by omega)
    have hge : ∀ j, j < m → le zs.toArray[j]! zs.toArray[m]! = true := by
      intro j hj
      rw [get_bang zs j (by omega), get_bang zs m (by omega)]
      exact List.pairwise_iff_getElem.1 h j m (by omega) (by omega) hj
    rw [compactUpTo_succ]
    by_cases hk : keeps zs.toArray m = true
    · rw [if_pos hk]
      refine ⟨fun x => ?_, ?_⟩
      · rw [List.mem_append, h1, List.mem_singleton]
        constructor
        · rintro (⟨j, hj, rfl⟩ | rfl)
          · exact ⟨j, by omega, rfl⟩
          · exact ⟨m, by omega, rfl⟩
        · rintro ⟨j, hj, rfl⟩
          by_cases hjm : j < m
          · exact .inl ⟨j, hjm, rfl⟩
          · have : j = m := by omega
            subst this; exact .inr rfl
      · refine List.pairwise_append.2 ⟨h2, by simp, ?_⟩
        intro a ha b hb
        rw [List.mem_singleton] at hb
        subst hb
        obtain ⟨j, hj, rfl⟩ := (h1 a).1 ha
        have hk' : m = 0 ∨ zs.toArray[m]! ≠ zs.toArray[m - 1]! := by simpa [keeps] using hk
        have hne : zs.toArray[m]! ≠ zs.toArray[m - 1]! := by rcases hk' with q | q; omega; exact q
        have hl := lt_of (hge (m - 1) (by omega)) hne
        refine le_lt ?_ hl
        by_cases hj' : j = m - 1
        · rw [hj']; exact le_refl _
        · rw [get_bang zs j (by omega), get_bang zs (m - 1) (by omega)]
          exact List.pairwise_iff_getElem.1 h j (m - 1) (by omega) (by omega) (by omega)
    · rw [if_neg hk, List.append_nil]
      have hk' : ¬ m = 0 ∧ zs.toArray[m]! = zs.toArray[m - 1]! := by
        have : ¬ (m = 0 ∨ zs.toArray[m]! ≠ zs.toArray[m - 1]!) := by simpa [keeps] using hk
        exact ⟨fun q => this (.inl q), Classical.not_not.1 fun q => this (.inr q)⟩
      refine ⟨fun x => ?_, h2⟩
      rw [h1]
      constructor
      · rintro ⟨j, hj, rfl⟩; exact ⟨j, by omega, rfl⟩
      · rintro ⟨j, hj, rfl⟩
        by_cases hjm : j < m
        · exact ⟨j, hjm, rfl⟩
        · have : j = m := by omega
          subst this
          exact ⟨j - 1, by omega, hk'.2.symm⟩
theorem compact_sup {zs : List Str} (h : Up zs) : Sup (compact zs) := (compact_inv h zs.length (Nat.le_refl _)).2
theorem compact_mem {zs : List Str} (h : Up zs) (x : Str) : x ∈ compact zs ↔ x ∈ zs := by
  unfold compact
  rw [(compact_inv h zs.length (Nat.le_refl _)).1, List.mem_iff_getElem]
  constructor
  · rintro ⟨j, hj, rfl⟩; exact ⟨j, hj, (get_bang zs j hj).symm⟩
  · rintro ⟨j, hj, rfl⟩; exact ⟨j, hj, get_bang zs j hj⟩
theorem compact_len (zs : List Str) : (compact zs).length ≤ zs.length := by
  unfold compact compactUpTo
  rw [List.length_map]
  exact Nat.le_trans (List.length_filter_le ..) (by simp)
end NT
theorem SY.holds {w : World} {b : Nat} {l : List Str} {c : Nat} (h : SY w b l c) : Holds encStr w b 0 l.toArray := by
  intro j hj
  have hj' : j < l.length := by simpa using hj
  rw [Nat.zero_add]
  refine ⟨?_, h.z j⟩
  rw [get_bang l j hj']
  exact h.cell (List.getElem?_eq_getElem hj')
theorem SY.put {w : World} {b : Nat} {l : List Str} {c : Nat} (h : SY w b l c) (q : Nat) (ys : List Str) (hy : ys.length = l.length) : SY (putRow encStr (Sort.ahead w q) b 0 ys.toArray) b ys c := by
  obtain ⟨pad, h1, h2, h3⟩ := h
  refine ⟨pad, ?_, by omega, h3⟩
  have h1' : (Sort.ahead w q).heap[b]? = some (.cells (l.map encStr ++ pad).toArray 9 (0, 0)) := h1
  simp only [putRow, mapBlock, Array.getElem?_modify, h1', if_true, Option.map_some, onCells]
  congr 2
  apply Array.toList_inj.1
  apply List.ext_getElem?
  intro j
  simp only [putCells, Array.toList_mapIdx, List.getElem?_mapIdx, List.getElem?_append, List.length_map, List.size_toArray, List.getElem?_map, Nat.zero_le, true_and, Nat.zero_add, Nat.sub_zero, hy]
  by_cases hj : j < l.length
  · simp [hj, hy, getElem!_pos]
  · simp [hj, hy]
theorem only_put (w : World) (b q : Nat) (d : Array Str) : Only w (putRow encStr (Sort.ahead w q) b 0 d) b :=
  ⟨rfl, rfl, rfl, by simp [putRow, mapBlock, Sort.ahead], fun k hk => by simp [putRow, mapBlock, Sort.ahead, Array.getElem?_modify, Ne.symm hk]⟩
theorem Try.compactS (w : World) (b n c c' : Nat) (ys : List Str) (h : SY w b ys c) (hn : ys.length = n) (hb : n ≤ 65536) (hc : n ≤ c') :
    Calls Try.prog 15 #[.slice (some ⟨b, 0, none⟩) n c'] w fun e w' => e = .returned (.slice (some ⟨b, 0, none⟩) (compact ys).length c') ∧ (∃ r, SY w' b (compact ys ++ r) c ∧ (compact ys ++ r).length = n) ∧ Only w w' b := by
  subst hn
  refine (Any.slices_Compact_string Try.compactA b 0 c' ys w h.holds (by omega) hc).mono ?_
  rintro e w' ⟨rfl, q, rfl⟩
  have hl : (compact ys ++ List.replicate (ys.length - (compact ys).length) []).length = ys.length := by
    have := compact_len ys
    simp; omega
  exact ⟨rfl, ⟨_, h.put q _ hl, hl⟩, only_put ..⟩
end Go.Proofs
end

section
namespace Go.Proofs
open Go.RowKit NT Go.Shelf Go.Lib Go.Sort
set_option maxRecDepth 100000
def sx (S : List Str) (x : Str) (t : Nat) : ByteArray := ⟨(match S[t]? with | some y => y | none => x).toArray⟩
theorem sx_less (S : List Str) (x : Str) (t : Nat) : Op.bytesLess (sx S x t).toList (ByteArray.mk x.toArray).toList = (match S[t]? with | some y => lt y x | none => false) := by
  unfold sx
  rw [lss_str]
  cases S[t]? with
  | none => exact lt_irrefl x
  | some y => rfl
theorem search_at {S : List Str} {x : Str} {p : Nat} (hS : Sup S) (hp : S[p]? = some x) : bsGo (fun t => Op.bytesLess (sx S x t).toList (ByteArray.mk x.toArray).toList) S.length 0 S.length = p := by
  have hpl := (List.getElem?_eq_some_iff.1 hp).1
  have hpx := (List.getElem?_eq_some_iff.1 hp).2
  refine bsGo_spec _ p ?_ ?_ _ _ _ (by omega) (Nat.zero_le _) (by omega)
  · intro t ht
    show Op.bytesLess _ _ = true
    rw [sx_less, List.getElem?_eq_getElem (by omega)]
    dsimp only
    have := List.pairwise_iff_getElem.1 hS t p (by omega) hpl ht
    rwa [hpx] at this
  · intro t ht
    show Op.bytesLess _ _ = false
    rw [sx_less]
    by_cases h : t < S.length
    · rw [List.getElem?_eq_getElem h]
      dsimp only
      by_cases e : t = p
      · subst e; rw [hpx]; exact lt_irrefl x
      · have := List.pairwise_iff_getElem.1 hS p t hpl h (by omega)
        rw [hpx] at this
        exact asymm this
    · rw [List.getElem?_eq_none (by omega)]
theorem Try.search (w : World) (b c c' p : Nat) (S r : List Str) (x : Str) (h : SY w b (S ++ r) c) (hS : Sup S) (hp : S[p]? = some x) (hb : S.length ≤ 65536) :
    Calls Try.prog 17 #[.slice (some ⟨b, 0, none⟩) S.length c', encStr x] w fun e w' => e = .returned (.tuple #[.int .i64 p, .bool true]) ∧ ∃ q, w' = w.drewN q := by
  have hc : ∀ j, j < S.length → w.cell? ⟨b, 0 + j, none⟩ = some (.string (sx S x j)) := by
    intro j hj
    rw [Nat.zero_add, h.cell (x := S[j]) (by rw [List.getElem?_append_left hj, List.getElem?_eq_getElem hj])]
    unfold sx
    rw [List.getElem?_eq_getElem hj]
  refine (Any2.slices_BinarySearch_string Try.searchA b 0 S.length c' (sx S x) ⟨x.toArray⟩ w (by omega) hc).mono ?_
  rintro e w' ⟨rfl, hq⟩
  refine ⟨?_, hq⟩
  rw [search_at hS hp]
  have hpl := (List.getElem?_eq_some_iff.1 hp).1
  have : decide (p < S.length ∧ sx S x p = ⟨x.toArray⟩) = true := decide_eq_true ⟨hpl, by unfold sx; rw [hp]⟩
  rw [this]
theorem Try.clip (w : World) (b k c : Nat) (hk : k ≤ c) (h0 : 0 < k) : Calls Try.prog 18 #[.slice (some ⟨b, 0, none⟩) k c] w fun e w' => e = .returned (.slice (some ⟨b, 0, none⟩) k k) ∧ w' = w := by
  have h1 : (k : Int) ≤ c := by omega
  have h2 : ¬ c = 0 := by omega
  have h3 : ¬ k = 0 := by omega
  go_enter Try.func18, Try.ntmps18
  go_wp2_with fail
  go_ret
  exact ⟨by simp [h2, h3], rfl⟩
end Go.Proofs
end

section
namespace Go.Proofs
open Go.RowKit NT Go.Shelf Go.Lib Go.Sort
set_option maxRecDepth 100000
theorem Try.info39 : (Try.prog.info? 39).map (fun i => (i.zero, i.size, i.bytes)) = some (some (.int .u64 0), 1, 8) := by kernel_rfl
def u64v (x : Nat) : Value := .int .u64 x
def UY (w : World) (b : Nat) (l : List Nat) : Prop := w.heap[b]? = some (.cells (l.map u64v).toArray 39 (0, 0))
theorem UY.congr {w w' : World} {b : Nat} {l : List Nat} (h : UY w b l) (e : w'.heap[b]? = w.heap[b]?) : UY w' b l := e.trans h
theorem UY.lt {w : World} {b : Nat} {l : List Nat} (h : UY w b l) : b < w.heap.size := (Array.getElem?_eq_some_iff.1 h).1
theorem UY.z {w : World} {b : Nat} {l : List Nat} (h : UY w b l) (i : Nat) : w.frozen? ⟨b, i, none⟩ = false := frozen_of_row w b i _ 39 h
theorem UY.cell {w : World} {b : Nat} {l : List Nat} (h : UY w b l) {i x : Nat} (hi : l[i]? = some x) : w.cell? ⟨b, i, none⟩ = some (.int .u64 x) := by
  rw [cell_of_row w b i _ 39 (0, 0) h]
  simp [hi, u64v]
theorem UY.set {w : World} {b : Nat} {l : List Nat} (h : UY w b l) (i x : Nat) : UY (w.setCell ⟨b, i, none⟩ (.int .u64 x)) b (l.set i x) := by
  unfold UY
  rw [heap_setCell_same w b i _ 39 _ h]
  simp [List.map_set, u64v]
theorem wpList_mk {P : Program} (w : World) {ops : Array Oper} {rest : List Oper} {o : Oper} {a : Act} {Q : Exit → Act → World → Prop}
    (hg : o.guard = none) (l c : Operand) (t : TypeId) (hop : o.op = Op.makeSlice t l c)
    (e : TypeId) (i : TypeInfo) (z : Value) (h1 : P.underlying t = some (.slice e)) (h2 : P.info? e = some i) (h3 : i.zero = some z) (h4 : i.size = 1) (h5 : i.bytes ≤ 16) (h6 : z.cells = #[z])
    (kl kc : IntKind) (L C : Int) (n m : Nat) (hl : a.eval l = .int kl L) (hc : a.eval c = .int kc C) (hL : L = (n : Int)) (hC : C = (m : Int)) (hnm : n ≤ m) (hm : m ≤ 65536)
    (hK : wpList P ops Q rest (a.put o.dst (.slice (some ⟨w.heap.size, 0, none⟩) n m)) (w.alloc (.cells (List.replicate m z).toArray e))) :
    wpList P ops Q (o :: rest) a w := by
  refine wpList_plain hg fun K hK' => ?_
  subst hL
  subst hC
  have hr := run_make (P := P) w t e i z h1 h2 h3 kl kc n m (by omega) (by omega) (by have : i.bytes * m ≤ 16 * m := Nat.mul_le_mul_right _ h5; omega) (by omega)
  have hmc : madeCells z.cells ((m : Int).toNat * i.size) = (List.replicate m z).toArray := by
    rw [h4, h6, Int.toNat_natCast, Nat.mul_one]
    apply Array.toList_inj.1
    rw [toList_madeCells_one]
  rw [hmc] at hr
  simp only [Int.toNat_natCast] at hr
  unfold Oper.wp
  simp [execOp, hop, hl, hc, hr, Result.andThen]
  exact hK' _ _ hK
structure BLD (w w' : World) (n : Nat) (l : List Str) (b k c pb : Nat) (S r : List Str) : Prop where
  sy : SY w' b (S ++ r) c
  uy : UY w' pb (l.map (S.idxOf ·))
  ne : b ≠ pb
  g1 : w.heap.size ≤ b
  g2 : w.heap.size ≤ pb
  kl : S.length = k
  up : Sup S
  mem : ∀ x, x ∈ S ↔ x ∈ l
  bel : Below w.heap.size w w'
  kn : k ≤ n
structure BL (w w' : World) (n : Nat) (l : List Str) (b k c c' pb i : Nat) (S r : List Str) : Prop where
  sy : SY w' b (S ++ r) c
  uy : UY w' pb ((l.take i).map (S.idxOf ·) ++ List.replicate (n - i) 0)
  ne : b ≠ pb
  g1 : w.heap.size ≤ b
  g2 : w.heap.size ≤ pb
  kl : S.length = k
  up : Sup S
  mem : ∀ x, x ∈ S ↔ x ∈ l
  bel : Below w.heap.size w w'
  kc : k ≤ c'
  k0 : 0 < k
  kn : k ≤ n
theorem BL.drewN {w w' : World} {n : Nat} {l : List Str} {b k c c' pb i : Nat} {S r : List Str} (h : BL w w' n l b k c c' pb i S r) (q : Nat) : BL w (w'.drewN q) n l b k c c' pb i S r :=
  ⟨h.sy.congr rfl, h.uy.congr rfl, h.ne, h.g1, h.g2, h.kl, h.up, h.mem, ⟨h.bel.os, h.bel.tape, h.bel.output, h.bel.size, h.bel.block⟩, h.kc, h.k0, h.kn⟩
theorem BL.step {w w' : World} {n : Nat} {l : List Str} {b k c c' pb i : Nat} {S r : List Str} (h : BL w w' n l b k c c' pb i S r) (hl : l.length = n) {x : Str} (hx : l[i]? = some x) :
    BL w (w'.setCell ⟨pb, i, none⟩ (.int .u64 (S.idxOf x : Nat))) n l b k c c' pb (i + 1) S r := by
  have hi := (List.getElem?_eq_some_iff.1 hx).1
  have hxx := (List.getElem?_eq_some_iff.1 hx).2
  have he : ((l.take i).map (S.idxOf ·) ++ List.replicate (n - i) 0).set i (S.idxOf x) = (l.take (i + 1)).map (S.idxOf ·) ++ List.replicate (n - (i + 1)) 0 := by
    have h1 : ((l.take i).map (S.idxOf ·)).length = i := by simp; omega
    rw [List.set_append_right _ _ (by omega), h1, Nat.sub_self, show n - i = (n - (i + 1)) + 1 by omega, List.replicate_succ, List.set_cons_zero, List.take_succ_eq_append_getElem hi, hxx]
    simp [List.append_assoc]
  refine ⟨h.sy.congr (heap_setCell_other w' ⟨pb, i, none⟩ b _ h.ne), ?_, h.ne, h.g1, h.g2, h.kl, h.up, h.mem, ?_, h.kc, h.k0, h.kn⟩
  · have := h.uy.set i (S.idxOf x)
    rwa [he] at this
  · refine h.bel.trans ⟨rfl, rfl, rfl, by simp [World.setCell], fun k hk => heap_setCell_other w' ⟨pb, i, none⟩ k _ ?_⟩
    have := h.g2
    show k ≠ pb
    omega
theorem only_below {w w1 w2 : World} {b : Nat} (h : Below w.heap.size w w1) (h' : Only w1 w2 b) (hb : w.heap.size ≤ b) : Below w.heap.size w w2 :=
  h.trans ⟨h'.os, h'.tape, h'.output, Nat.le_of_eq h'.size.symm, fun k hk => h'.block k (by omega)⟩
theorem idx_at {S : List Str} {x : Str} (h : x ∈ S) : S[S.idxOf x]? = some x := by
  rw [List.getElem?_eq_getElem (List.idxOf_lt_length_of_mem h), List.getElem_idxOf]
theorem wrapu {x : Int} (h1 : 0 ≤ x) (h2 : x < 18446744073709551616) : IntKind.u64.wrap x = x := by rw [IntKind.wrap_u64]; omega
set_option maxHeartbeats 1000000 in
theorem Try.build (A : Addr) (n m : Nat) (w : World) (h0 : 0 < n) (hn : n ≤ 65536) (l : List Str) (hl : l.length = n) (hc : ∀ j u, (l.map encStr)[j]? = some u → w.cell? (A.add j) = some u) :
    Calls Try.prog 8 #[.slice (some A) n m] w fun e w' => ∃ b k c pb S r, e = .returned (.tuple #[.slice (some ⟨b, 0, none⟩) k k, .slice (some ⟨pb, 0, none⟩) n n]) ∧ BLD w w' n l b k c pb S r := by
  have HC := Lib.hid hc
  have HL := Lib.hid hl
  obtain ⟨i39, hi39, hz0, hz1, hz2⟩ := info_parts Try.info39
  clear hc hl
  go_enter Try.func8, Try.ntmps8
  go_wp2_with fail
  refine (Try.sorted A n m w h0 hn l HL.out HC.out).mono ?_
  rintro e1 w1 ⟨b, c, c', ys, rfl, hb, hnc, hcc, hsy, hyl, hyu, hyp, hbel⟩
  go_wp2_with fail
  refine (Try.compactS w1 b n c c' ys hsy hyl hn hnc).mono ?_
  rintro e2 w2 ⟨rfl, ⟨r, hs2, hrl⟩, ho2⟩
  obtain ⟨S, hS⟩ : ∃ S, compact ys = S := ⟨_, rfl⟩
  have hup := compact_sup hyu
  have hmem : ∀ x, x ∈ compact ys ↔ x ∈ l := fun x => (compact_mem hyu x).trans hyp.mem_iff
  rw [hS] at hs2 hrl hup hmem
  rw [hS]
  obtain ⟨k, hk⟩ : ∃ k, S.length = k := ⟨_, rfl⟩
  rw [hk]
  have hb2 := only_below hbel ho2 hb
  have hkn : k ≤ n := by rw [List.length_append, hk] at hrl; omega
  have hk0 : 0 < k := by
    rw [← hk]
    have : l[0]'(by rw [HL.out]; exact h0) ∈ S := (hmem _).2 (List.getElem_mem _)
    exact List.length_pos_of_mem this
  have H2 : Hid (SY w2 b (S ++ r) c ∧ Sup S ∧ (∀ x, x ∈ S ↔ x ∈ l) ∧ S.length = k ∧ Below w.heap.size w w2 ∧ w.heap.size ≤ b ∧ k ≤ c' ∧ 0 < k ∧ k ≤ n) := Lib.hid ⟨hs2, hup, hmem, hk, hb2, hb, by omega, hk0, hkn⟩
  clear hsy hyl hyu hyp hbel ho2 hS hs2 hrl hup hmem hk hb2 hkn hk0 hb hnc hcc
  go_wp2_with (at_make; refine wpList_mk _ rfl _ _ 25 rfl 39 i39 (.int .u64 0) Try.underlying25 hi39 hz0 hz1 (by omega) rfl _ _ _ _ n n rfl rfl (by omega) (by omega) (Nat.le_refl _) hn ?_)
  obtain ⟨pb, hpb⟩ : ∃ pb, w2.heap.size = pb := ⟨_, rfl⟩
  have hB : BL w (w2.alloc (.cells (List.replicate n (Value.int .u64 0)).toArray 39)) n l b k c c' pb 0 S r := by
    obtain ⟨q1, q2, q3, q4, q5, q6, q7, q8, q9⟩ := H2.out
    have hx := q1.lt
    refine ⟨q1.congr (heap_alloc_old w2 _ hx), ?_, by omega, q6, by rw [← hpb]; exact q5.size, q4, q2, q3, q5.alloc q5.size _, q7, q8, q9⟩
    unfold UY
    rw [← hpb, heap_alloc_new]
    simp [u64v]
  rw [hpb]
  rw [List.toArray_replicate] at hB
  generalize w2.alloc (.cells (Array.replicate n (Value.int .u64 0)) 39) = w3 at hB ⊢
  have HB := Lib.hid hB
  clear hB H2 hpb
  go_loopw [18] (fun t wr => ∃ i : Nat, i ≤ n ∧ t = .int .i64 i ∧ Hid (BL w wr n l b k c c' pb i S r)) (fun t _ => n - (intO t).toNat)
  case atStart => exact ⟨0, Nat.zero_le _, rfl, HB⟩
  case round =>
    obtain ⟨i, hi, rfl, HJ⟩ := hrel
    by_cases hlt : i < n
    · have d1 : decide ((i : Int) < n) = true := decide_eq_true (by omega)
      have d1' : decide (i < n) = true := decide_eq_true hlt
      obtain ⟨x, hx⟩ : ∃ x, l[i]? = some x := ⟨_, List.getElem?_eq_getElem (by rw [HL.out]; exact hlt)⟩
      have hcx0 := HC.out i (encStr x) (by rw [List.getElem?_map, hx]; rfl)
      have hcx : wr.cell? (A.add i) = some (encStr x) := (World.cell?_of_block (HJ.out.bel.block _ (block_lt_of_cell hcx0))).trans hcx0
      have hxS : x ∈ S := (HJ.out.mem x).2 (List.mem_of_getElem? hx)
      have hsr := Try.search wr b c c' (S.idxOf x) S r x HJ.out.sy HJ.out.up (idx_at hxS) (by have := HJ.out.kl; have := HJ.out.kn; omega)
      rw [HJ.out.kl] at hsr
      have hpk : S.idxOf x < k := by rw [← HJ.out.kl]; exact List.idxOf_lt_length_of_mem hxS
      obtain ⟨z, hz⟩ : ∃ z, ((l.take i).map (S.idxOf ·) ++ List.replicate (n - i) 0)[i]? = some z := ⟨_, List.getElem?_eq_getElem (by have := HL.out; simp; omega)⟩
      have c0 := HJ.out.uy.cell hz
      have f0 := HJ.out.uy.z i
      have HP := Lib.hid (HJ.out.step HL.out hx)
      have HST : ∀ q, Hid (BL w ((wr.drewN q).setCell ⟨pb, i, none⟩ (.int .u64 (S.idxOf x : Nat))) n l b k c c' pb (i + 1) S r) := fun q => Lib.hid ((HJ.out.drewN q).step HL.out hx)
      have hkn := HJ.out.kn
      clear hz hx hcx0 hxS HP
      generalize S.idxOf x = p at hsr hpk HST
      have s1 : IntKind.u64.wrap (p : Int) = p := wrapu (by omega) (by omega)
      have HSR := Lib.hid hsr
      clear hsr
      go_wp2_with fail
      refine HSR.out.mono ?_
      rintro e4 w4 ⟨rfl, q, rfl⟩
      go_wp2_with fail
      exact ⟨⟨i + 1, by omega, rfl, HST q⟩, by simp [intO]; omega⟩
    · obtain rfl : i = n := by omega
      have d1 : decide ((i : Int) < i) = false := by simp
      have d1' : decide (i < i) = false := by simp
      go_wp2_with fail
      refine (Try.clip wr b k c' HJ.out.kc HJ.out.k0).mono ?_
      rintro e4 w4 ⟨rfl, rfl⟩
      go_wp2_with fail
      go_ret2
      refine ⟨b, k, c, pb, S, r, rfl, ⟨HJ.out.sy, ?_, HJ.out.ne, HJ.out.g1, HJ.out.g2, HJ.out.kl, HJ.out.up, HJ.out.mem, HJ.out.bel, HJ.out.kn⟩⟩
      have := HJ.out.uy
      rwa [Nat.sub_self, List.replicate_zero, List.append_nil, List.take_of_length_le (by rw [HL.out]; exact Nat.le_refl _)] at this
end Go.Proofs
end
