/-
  Texts of a proof over the translated program: proved evaluators and walks, part 21 of 23.
-/
import Derived.Test.YtcogajgikmcfpaaGreatDoorPartQ20
import Derived.Below
import Derived.BigQuiet
import Derived.Deep.Cut
import Derived.Deep.Draws
import Derived.Deep.QuietTactic
import Derived.Deep.RegionHeld3
import Derived.Deep.RegionWith
import Derived.Handy
import Derived.IntWalk
import Derived.Laws.AppendOwn
import Derived.Laws.Cells
import Derived.Laws.CopyRow
import Derived.Laws.Externs
import Derived.Laws.OwnMore
import Derived.Laws.Rows
import Derived.Laws.Strings
import Derived.Laws.Strings2
import Derived.Laws.Strings3
import Derived.Laws.StructEq
import Derived.Lib.AppendIntMem
import Derived.Lib.AppendStr
import Derived.Lib.Builder
import Derived.Lib.Bytealg
import Derived.Lib.Hide
import Derived.Lib.ItoaLen
import Derived.LoopTactic
import Derived.Outline
import Derived.OwnWalk
import Derived.ProofKit
import Derived.Scope
import Derived.ScopeJumps
import Derived.Shelf.LaysC
import Derived.Shelf.LaysM
import Derived.Shelf.Small.Strs
import Derived.Shelf.Strconv.Clone
import Derived.Shelf.Strconv.ErrVarParseInt
import Derived.Shelf.Strconv.Itoa0
import Derived.Shelf.Strconv.Itoa1
import Derived.Shelf.Strconv.Itoa2
import Derived.Shelf.Strconv.Itoa3
import Derived.Shelf.Strconv.Itoa4
import Derived.Shelf.Strconv.Lower
import Derived.Shelf.Strconv.ParseInt10
import Derived.Shelf.Strconv.ParseInt10All
import Derived.Shelf.Strconv.ParseInt10At16
import Derived.Shelf.Strconv.ParseInt10At32
import Derived.Shelf.Strconv.ParseInt10At64
import Derived.Shelf.Strconv.ParseInt10At8
import Derived.Shelf.Strconv.ParseIntEmpty
import Derived.Shelf.Strconv.ParseIntPublic10
import Derived.Shelf.Strconv.ParseUint10
import Derived.Shelf.Strconv.ParseUint10Any
import Derived.Shelf.Strconv.ParseUint10At
import Derived.Shelf.Strconv.ParseUint10Empty
import Derived.Shelf.Strconv.ParseUint10b16
import Derived.Shelf.Strconv.ParseUint10b32
import Derived.Shelf.Strconv.ParseUint10b64
import Derived.Shelf.Strconv.ParseUint10b8
import Derived.Shelf.Strconv.ParseUintEmpty
import Derived.Shelf.Strconv.RangeError
import Derived.Shelf.Strconv.SyntaxError
import Derived.Shelf.Strconv.ToError
import Derived.Shelf.Strconv.ToErrorRange
import Derived.Shelf.Strings.Builder1
import Derived.Shelf.Strings.BuilderF
import Derived.Shelf.Strings.BuilderK
import Derived.Shelf.Strings.Prefix
import Derived.Shelf.Strings.Search1
import Derived.Test.YtcogajgikmcfpaaGreatDoorProg
import Derived.WalkKit
import Derived.WalkMore
import Derived.WalkSpells
import Derived.Laws.IdiomStrings
set_option linter.unusedVariables false
set_option linter.unusedSimpArgs false
set_option linter.unusedSectionVars false
set_option linter.unnecessarySimpa false
section
namespace Go.Proofs.YtcogajgikmcfpaaGreatDoor
open Go.RowKit Go.NW Go.NR
set_option maxRecDepth 100000
def Stay (b : Nat) (w w' : World) : Prop := ∀ (k : Nat) (cs : Array Value) (t : Nat), t ≠ 5 → k ≠ b → w.heap[k]? = some (.cells cs t (0, 0)) → w'.heap[k]? = some (.cells cs t (0, 0))
theorem Stay.refl (b : Nat) (w : World) : Stay b w w := fun _ _ _ _ _ h => h
theorem Stay.trans {b : Nat} {w w1 w2 : World} (h : Stay b w w1) (h' : Stay b w1 w2) : Stay b w w2 := fun k cs t h1 h2 h3 => h' k cs t h1 h2 (h k cs t h1 h2 h3)
theorem Stay.below {b : Nat} {w w' : World} (h : Below w.heap.size w w') : Stay b w w' := fun k cs t h1 h2 h3 => (h.block k (heap_lt h3)).trans h3
theorem Stay.set {b i : Nat} {w : World} {v : Value} : Stay b w (w.setCell ⟨b, i, none⟩ v) := fun k cs t h1 h2 h3 => (Below.heap_setCell w ⟨b, i, none⟩ v k h2).trans h3
theorem Stay.grown {b B n : Nat} {w w' : World} {v : Value} {xs : List Value} (ho : w.ownsRow B 5 1 v n xs) (h : w.grownBy w' v.ownBlock) : Stay b w w' := fun k cs t h1 h2 h3 => (h.block k (heap_lt h3) (fun e => by
  rcases ho.2 with ⟨rfl, _⟩ | ⟨g, cap, cur, rfl, _, hg, _⟩
  · simp [Value.ownBlock] at e
  · simp [Value.ownBlock] at e
    subst e
    rw [hg] at h3
    simp at h3
    exact h1 h3.2.symm)).trans h3
theorem Tryz.copyCheckS (B b : Nat) (xs : List Value) (w : World) (h : Lib.IsBuilder 90 5 B b xs w) :
    Calls Tryz.prog 65 #[.pointer (some ⟨b, 0, none⟩)] w fun e w' => e = .returned (.tuple #[]) ∧ (Lib.BuilderAt 90 5 B b (.pointer (some ⟨b, 0, none⟩)) xs w' ∧ Below B w w' ∧ Stay b w w') := by
  rcases h with h | h
  · refine (Tryz.check1 b w h.cell0 h.shape h.frozen0).mono ?_
    rintro e w' ⟨rfl, rfl⟩
    exact ⟨rfl, h.used _, (Below.refl B w).setCell (p := ⟨b, 0, none⟩) h.1 _, Stay.set⟩
  · refine (Tryz.check2 b w h.cell0).mono ?_
    rintro e w' ⟨rfl, rfl⟩
    exact ⟨rfl, h, Below.refl B _, Stay.refl _ _⟩
theorem Tryz.writeByteS (B b : Nat) (xs : List Value) (c : Int) (w : World) (h : Lib.IsBuilder 90 5 B b xs w) (hlen : xs.length + 1 ≤ 140737488355328) (hBw : B ≤ w.heap.size) :
    Calls Tryz.prog 50 #[.pointer (some ⟨b, 0, none⟩), .int .u8 c] w fun e w' => e = .returned .nilIface ∧ (Lib.IsBuilder 90 5 B b (xs ++ [.int .u8 c]) w' ∧ Below B w w' ∧ Stay b w w') := by
  obtain ⟨i0, hi, hz0, hz1, hz2⟩ := info_parts Tryz.Builder_Extra_169.infoByte
  go_enter Tryz.func50, Tryz.ntmps50
  go_wp2_with (go_at_call 65; refine (Tryz.copyCheckS B b xs _ h).mono ?_)
  rintro e w1 ⟨rfl, h1, hb1, hs1⟩
  obtain ⟨hB, v, hbk, hown, hne⟩ := h1
  have c0 : w1.cell? ⟨b, 0, none⟩ = some (.pointer (some ⟨b, 0, none⟩)) := by rw [Lib.cell_of_heap hbk]; rfl
  have c1 : w1.cell? ⟨b, 1, none⟩ = some v := by rw [Lib.cell_of_heap hbk]; rfl
  go_wp2_with (at_builtin; refine wpList_append_own _ rfl _ _ 71 rfl B 5 i0 (.int .u8 0) 1 1 Tryz.underlying71 hi hz0 hz1 hz2 rfl (by decide) _ _ _ rfl (hown.alloc _) ⟨w1.heap.size, 0, none⟩ 1 1 [.int .u8 c] rfl rfl ?c1 ?c2 ?c3 ?c4 ?c5 ?_)
  case c1 =>
    intro j u hj
    match j, hj with
    | 0, hj => simp at hj; subst hj; simp [Addr.add]
  case c2 => intro u hu; simp at hu; subst hu; rfl
  case c3 => unfold maxLen; omega
  case c4 => omega
  case c5 => have := hb1.size; simp; omega
  intro v' w2 hown' hgrow _
  have hlt : b < w1.heap.size := by
    rcases Nat.lt_or_ge b w1.heap.size with h' | h'
    · exact h'
    · simp [Array.getElem?_eq_none h'] at hbk
  have hb2 : w2.heap[b]? = some (.cells #[.pointer (some ⟨b, 0, none⟩), v] 90 (0, 0)) := by
    rw [hgrow.block b (by simp; omega) (fun e => hne e.symm), Lib.alloc_old w1 _ b hlt]
    exact hbk
  have d0 : w2.cell? ⟨b, 0, none⟩ = some (.pointer (some ⟨b, 0, none⟩)) := by rw [Lib.cell_of_heap hb2]; rfl
  have d1 : w2.cell? ⟨b, 1, none⟩ = some v := by rw [Lib.cell_of_heap hb2]; rfl
  have f1 : w2.frozen? ⟨b, 1, none⟩ = false := Lib.frozen_of_heap hb2 1
  obtain ⟨g, cap, rfl⟩ : ∃ g cap, v' = .slice (some ⟨g, 0, none⟩) (xs.length + 1) cap := by
    rcases hown'.2 with ⟨_, h0⟩ | ⟨g, cap, cur, hv, _⟩
    · omega
    · exact ⟨g, cap, hv⟩
  have hst := Stay.grown (b := b) (hown.alloc (.cells #[.int .u8 c] 5)) hgrow
  go_wp2
  go_ret
  refine ⟨rfl, .inr ?_, ?_, ?_⟩
  · exact Lib.BuilderAt.put (T := 90) (e := 5) hB hb2 (bs' := xs ++ [.int .u8 c]) (by simpa using hown') (by decide)
  · exact ((hb1.alloc (by have := hb1.size; omega) _).grown hgrow (by have := hb1.size; simp; omega) (fun k hk => (hown.lt k hk).1)).setCell (p := ⟨b, 1, none⟩) hB _
  · exact ((hs1.trans (Stay.below ((Below.refl _ w1).alloc (Nat.le_refl _) _))).trans hst).trans Stay.set
theorem strCells_bs (l : List UInt8) : Lib.strCells (bs l) = Lib.byteCells l := by simp [Lib.strCells, Lib.byteCells, bs]
theorem Tryz.writeStringS (B b : Nat) (xs : List Value) (l : List UInt8) (hl0 : l ≠ []) (w : World) (h : Lib.IsBuilder 90 5 B b xs w) (hlen : xs.length + l.length ≤ 1073741824) (hBw : B ≤ w.heap.size) :
    Calls Tryz.prog 43 #[.pointer (some ⟨b, 0, none⟩), .string (bs l)] w fun e w' => e = .returned (.tuple #[.int .i64 (l.length : Int), .nilIface]) ∧ (Lib.IsBuilder 90 5 B b (xs ++ Lib.byteCells l) w' ∧ Below B w w' ∧ Stay b w w') := by
  obtain ⟨i0, hi, hz0, hz1, hz2⟩ := info_parts Tryz.Builder_Extra_169.infoByte
  have hsz : (bs l).size = l.length := bs_size l
  have hl1 : 0 < l.length := by
    cases l with
    | nil => exact absurd rfl hl0
    | cons a b => simp
  go_enter Tryz.func43, Tryz.ntmps43
  go_wp2_with (go_at_call 65; refine (Tryz.copyCheckS B b xs _ h).mono ?_)
  rintro e w1 ⟨rfl, h1, hb1, hs1⟩
  obtain ⟨hB, v, hbk, hown, hne⟩ := h1
  have c0 : w1.cell? ⟨b, 0, none⟩ = some (.pointer (some ⟨b, 0, none⟩)) := by rw [Lib.cell_of_heap hbk]; rfl
  have c1 : w1.cell? ⟨b, 1, none⟩ = some v := by rw [Lib.cell_of_heap hbk]; rfl
  go_wp2_with (at_builtin; refine Lib.wpList_append_own_string _ rfl _ _ 71 9 rfl B 5 i0 Tryz.underlying71 Tryz.underlying9 hi hz0 hz1 hz2 v xs.length xs rfl hown (bs l) rfl ?c3 ?c4 ?c5 ?_)
  case c3 => unfold maxLen; omega
  case c4 => omega
  case c5 => have := hb1.size; omega
  intro v' w2 hown' hgrow _
  rw [strCells_bs] at hown'
  have hlt : b < w1.heap.size := heap_lt hbk
  have hb2 : w2.heap[b]? = some (.cells #[.pointer (some ⟨b, 0, none⟩), v] 90 (0, 0)) := by
    rw [hgrow.block b (by omega) (fun e => hne e.symm)]
    exact hbk
  have d0 : w2.cell? ⟨b, 0, none⟩ = some (.pointer (some ⟨b, 0, none⟩)) := by rw [Lib.cell_of_heap hb2]; rfl
  have d1 : w2.cell? ⟨b, 1, none⟩ = some v := by rw [Lib.cell_of_heap hb2]; rfl
  have f1 : w2.frozen? ⟨b, 1, none⟩ = false := Lib.frozen_of_heap hb2 1
  obtain ⟨g, cap, rfl⟩ : ∃ g cap, v' = .slice (some ⟨g, 0, none⟩) (xs.length + l.length) cap := by
    rcases hown'.2 with ⟨_, h0⟩ | ⟨g, cap, cur, hv, _⟩
    · omega
    · exact ⟨g, cap, hv⟩
  have hst := Stay.grown (b := b) hown hgrow
  go_wp2
  go_ret2
  refine ⟨rfl, .inr ?_, ?_, ?_⟩
  · exact Lib.BuilderAt.put (T := 90) (e := 5) hB hb2 (bs' := xs ++ Lib.byteCells l) (by simpa [Lib.byteCells_length] using hown') (by decide)
  · exact (hb1.grown hgrow (by have := hb1.size; omega) (fun k hk => (hown.lt k hk).1)).setCell (p := ⟨b, 1, none⟩) hB _
  · exact (hs1.trans hst).trans Stay.set
end Go.Proofs.YtcogajgikmcfpaaGreatDoor
end

section
namespace Go.Proofs.YtcogajgikmcfpaaGreatDoor
open Go.RowKit Go.NW Go.NR
set_option maxRecDepth 100000
theorem ib_below {T e : TypeId} {B b : Nat} {xs : List Value} {w w' : World} (h : Lib.IsBuilder T e B b xs w) (hb : Below w.heap.size w w') : Lib.IsBuilder T e B b xs w' := by
  rcases h with ⟨h1, v, h2, h3, h4⟩ | ⟨h1, v, h2, h3, h4⟩
  · exact .inl ⟨h1, v, (hb.block b (heap_lt h2)).trans h2, own_below h3 hb, h4⟩
  · exact .inr ⟨h1, v, (hb.block b (heap_lt h2)).trans h2, own_below h3 hb, h4⟩
theorem bcl (l : List UInt8) : (Lib.byteCells l).length = l.length := Lib.byteCells_length l
theorem bca (l k : List UInt8) : Lib.byteCells l ++ Lib.byteCells k = Lib.byteCells (l ++ k) := by simp [Lib.byteCells]
theorem rT_take (r : List Int) (k : Nat) (x : Int) (h : r[k]? = some x) : rT (r.take (k + 1)) = rT (r.take k) ++ ((if k = 0 then [] else [44]) ++ Lib.itoa x) := by
  rw [List.take_add_one, h]
  by_cases hk : k = 0
  · subst hk; simp [rT, tV]
  · have hl := (List.getElem?_eq_some_iff.1 h).1
    have hne : r.take k ≠ [] := by
      intro e
      have : (List.take k r).length = 0 := by rw [e]; rfl
      rw [List.length_take] at this
      omega
    simp only [Option.toList]
    rw [rT_snoc _ _ hne, if_neg hk]
    rfl
theorem RT_take (R : List (List Int)) (k : Nat) (x : List Int) (h : R[k]? = some x) : RT (R.take (k + 1)) = RT (R.take k) ++ (if k = 0 then [] else [59]) ++ rT x := by
  rw [List.take_add_one, h]
  by_cases hk : k = 0
  · subst hk; simp [RT, tR]
  · have hl := (List.getElem?_eq_some_iff.1 h).1
    have hne : R.take k ≠ [] := by
      intro e
      have : (List.take k R).length = 0 := by rw [e]; rfl
      rw [List.length_take] at this
      omega
    simp only [Option.toList]
    rw [RT_snoc _ _ hne, if_neg hk]
    simp
theorem RT_take_le (R : List (List Int)) : ∀ k, (RT (R.take k)).length ≤ (RT R).length := by
  have h1 : ∀ (R : List (List Int)) k, (tR (R.take k)).length ≤ (tR R).length := by
    intro R
    induction R with
    | nil => intro k; simp [tR]
    | cons r R ih =>
      intro k
      cases k with
      | zero => simp [tR]
      | succ k => have := ih k; simp [tR]; omega
  intro k
  cases R with
  | nil => simp
  | cons r R =>
    cases k with
    | zero => simp [RT]
    | succ k => have := h1 R k; simp [RT]; omega
theorem rT_take_le (r : List Int) : ∀ k, (rT (r.take k)).length ≤ (rT r).length := by
  have h1 : ∀ (R : List Int) k, (tV (R.take k)).length ≤ (tV R).length := by
    intro R
    induction R with
    | nil => intro k; simp [tV]
    | cons r R ih =>
      intro k
      cases k with
      | zero => simp [tV]
      | succ k => have := ih k; simp [tV]; omega
  intro k
  cases r with
  | nil => simp
  | cons r R =>
    cases k with
    | zero => simp [rT]
    | succ k => have := h1 R k; simp [rT]; omega
set_option maxHeartbeats 4000000 in
theorem Tryz.rowsText {B : Nat} {w : World} (hD : DoorI B w) (hB : B ≤ w.heap.size) (G N C : Nat) (R : List (List Int)) (hN : R.length = N) (hR : RA w G R) (hi : GR R) (hlen : (RT R).length < 2 ^ 18) (hNC : N ≤ C) (hC : C ≤ maxLen) (hcnt : R.length ≤ 1073741824) :
    Calls Tryz.prog 23 #[.slice (some ⟨G, 0, none⟩) N C] w fun e w' => e = .returned (.string (bs (RT R))) ∧ Below w.heap.size w w' := by
  have hsc := storeC
  have HD := Lib.hid hD
  have HN := Lib.hid hN
  have HR := Lib.hid hR
  have HG := Lib.hid hi
  have HLEN := Lib.hid hlen
  have hN18 : N ≤ 1073741824 := by rw [← hN]; exact hcnt
  unfold maxLen at hC
  clear hD hN hR hi hlen
  go_enter Tryz.func23, Tryz.ntmps23
  go_wp2
  have hfb := Lib.fresh_isBuilder 90 5 w
  have HF : Hid (Lib.IsBuilder 90 5 w.heap.size w.heap.size (Lib.byteCells (RT (R.take 0))) (w.alloc (.cells #[.pointer none, .slice none 0 0] 90))) := Lib.hid (by simpa [RT, Lib.byteCells] using hfb)
  have HB0 : Hid (Below w.heap.size w (w.alloc (.cells #[.pointer none, .slice none 0 0] 90))) := Lib.hid ((Below.refl _ w).alloc (Nat.le_refl _) _)
  clear hfb
  refine wp_scope_once 0 (fun a' wr => ∃ i : Nat, i ≤ N ∧ Hid (Lib.IsBuilder 90 5 w.heap.size w.heap.size (Lib.byteCells (RT (R.take i))) wr) ∧ Hid (Below w.heap.size w wr) ∧ ∃ u1 u2 u5 u6 u7 u8 u9 u10 u11 u12 u13 u14 u15 u16 u17 u18 u19 u20 u21 u22 u23 u24 u25 u26 u27 u28 u29 u30 u31 u32 u33 : Value, a' = { tmps := #[.slice (some ⟨G, 0, none⟩) N C, u1, u2, .pointer (some ⟨w.heap.size, 0, none⟩), .int .i64 (i : Int), u5, u6, u7, u8, u9, u10, u11, u12, u13, u14, u15, u16, u17, u18, u19, u20, u21, u22, u23, u24, u25, u26, u27, u28, u29, u30, u31, u32, u33], defers := [] }) (fun a' wr => N - (intO (a'.tmps.getD 4 undef)).toNat) rfl ?_ ?_
  · intro hL
    go_wp2_with (refine wp_label ?_; rename_i Q0 K0 hK; refine hK _ _ (hL _ _ ?_); exact ⟨0, Nat.zero_le _, HF, HB0, _, _, _, _, _, _, _, _, _, _, _, _, _, _, _, _, _, _, _, _, _, _, _, _, _, _, _, _, _, _, _, rfl⟩)
  · rintro a' wr ⟨i, hi, HI1, HB1, u1, u2, u5, u6, u7, u8, u9, u10, u11, u12, u13, u14, u15, u16, u17, u18, u19, u20, u21, u22, u23, u24, u25, u26, u27, u28, u29, u30, u31, u32, u33, rfl⟩
    by_cases hlt : i < N
    · have d1 : decide ((i : Int) = N) = false := decide_eq_false (by omega)
      have d1' : ((i : Int) == N) = false := by simp; omega
      have d1'' : decide (i = N) = false := decide_eq_false (by omega)
      have d2 : decide ((i : Int) < N) = true := decide_eq_true (by omega)
      have d2' : decide (i < N) = true := decide_eq_true hlt
      obtain ⟨r, hr⟩ : ∃ r, R[i]? = some r := ⟨_, List.getElem?_eq_getElem (by rw [HN.out]; exact hlt)⟩
      obtain ⟨g, c, hc, hrc, hcm, hva⟩ := HR.out i r hr
      unfold maxLen at hcm
      have HVA := Lib.hid hva
      have HI := Lib.hid (HG.out r (List.mem_of_getElem? hr))
      have HRT0 := Lib.hid (RT_take R i r hr)
      have HTL : Hid ((RT (R.take (i + 1))).length ≤ (RT R).length) := Lib.hid (RT_take_le R (i + 1))
      have hlc := block_lt_of_cell hc
      obtain ⟨m, hm⟩ : ∃ m, r.length = m := ⟨_, rfl⟩
      rw [hm] at hc hrc
      have HM := Lib.hid hm
      have HC := Lib.hid hc
      clear hva hr hm hc
      by_cases hi0 : i = 0
      · have d3 : decide ((i : Int) > 0) = false := decide_eq_false (by omega)
        have d3' : decide (0 < (i : Int)) = false := decide_eq_false (by omega)
        have d3'' : decide (0 < i) = false := decide_eq_false (by omega)
        have hc2 : wr.cell? ⟨G, i, none⟩ = some (.slice (some ⟨g, 0, none⟩) m c) := (HB1.out.cell (p := ⟨G, i, none⟩) hlc).trans HC.out
        obtain ⟨X, hX⟩ : ∃ X, RT (R.take i) = X := ⟨_, rfl⟩
        have HX : Hid (Lib.IsBuilder 90 5 w.heap.size w.heap.size (Lib.byteCells X) wr) := Lib.hid (by rw [← hX]; exact HI1.out)
        have HRT : Hid (RT (R.take (i + 1)) = X ++ rT r) := Lib.hid (by rw [HRT0.out, if_pos hi0, hX]; simp)
        have HXX : Hid (X.length + (rT r).length < 2 ^ 18) := Lib.hid (by have h1 := HTL.out; rw [HRT.out] at h1; have := HLEN.out; simp at h1; omega)
        have HB : Hid (Hid (Below w.heap.size w wr) ∧ True) := Lib.hid ⟨HB1, trivial⟩
        clear hX hi0 HI1 HRT0
        go_wp2_with fail
        go_loopw [20] (fun t20 W => ∃ k : Nat, k ≤ m ∧ t20 = .int .i64 k ∧ Hid (Lib.IsBuilder 90 5 w.heap.size w.heap.size (Lib.byteCells (X ++ rT (r.take k))) W) ∧ Hid (Below w.heap.size w W)) (fun t20 _ => m - (intO t20).toNat)
        case atStart => exact ⟨0, Nat.zero_le _, rfl, Lib.hid (by simpa [rT] using HX.out), HB.out.1⟩
        case round =>
          rename World => W
          obtain ⟨k, hk, rfl, HI2, HB2⟩ := hrel
          by_cases hlk : k < m
          · have k1 : decide ((k : Int) < m) = true := decide_eq_true (by omega)
            have k2 : decide (k < m) = true := decide_eq_true hlk
            obtain ⟨x, hx⟩ : ∃ x, r[k]? = some x := ⟨_, List.getElem?_eq_getElem (by rw [HM.out]; exact hlk)⟩
            obtain ⟨e1, e2, e3, e4⟩ := (HVA.out.below HB2.out) k x hx
            have hxi : I64 x := HI.out.2 x (List.mem_of_getElem? hx)
            have HXI := Lib.hid hxi
            have HRX := Lib.hid (rT_take r k x hx)
            have HXL : Hid ((X ++ rT (r.take k)).length ≤ 2 ^ 19) := Lib.hid (by have := HXX.out; have := rT_take_le r k; simp at *; omega)
            have hil := Lib.itoa_length_le x hxi.1 hxi.2
            have HIL := Lib.hid hil
            have WB : Hid (Below w.heap.size w (W.alloc (.cells #[.int .i64 1, .int .i64 x, .string ⟨#[]⟩, .complex .f64 0 0] 25))) := Lib.hid (HB2.out.alloc HB2.out.size _)
            have IB : Hid (Lib.IsBuilder 90 5 w.heap.size w.heap.size (Lib.byteCells (X ++ rT (r.take k))) (W.alloc (.cells #[.int .i64 1, .int .i64 x, .string ⟨#[]⟩, .complex .f64 0 0] 25))) := Lib.hid (ib_below HI2.out ((Below.refl _ W).alloc (Nat.le_refl _) _))
            have CB : Hid ((W.alloc (.cells #[.int .i64 1, .int .i64 x, .string ⟨#[]⟩, .complex .f64 0 0] 25)).heap[W.heap.size]? = some (.cells (cells4 1 x ⟨#[]⟩ 0 0) 25 (0, 0))) := Lib.hid (heap_alloc_new W _)
            have hne : W.heap.size ≠ w.heap.size := by have := IB.out; rcases HI2.out with ⟨_, v, q, _⟩ | ⟨_, v, q, _⟩ <;> (have := heap_lt q; omega)
            have HNE := Lib.hid hne
            clear hx hxi hil hne
            by_cases hk0 : k = 0
            · subst hk0
              have k3 : decide ((0 : Int) > 0) = false := by decide
              go_wp2_with (refine nw_load_row _ rfl 25 (.tmp 6) rfl W.heap.size 25 (cells4 1 x ⟨#[]⟩ 0 0) _ rfl CB.out (Tryz.size25 _ rfl) Tryz.st25 ?_)
              refine (Tryz.textN (HD.out.on (WB.out.mono hB)) (Nat.le_trans hB WB.out.size) x HXI.out.1 HXI.out.2).mono ?_
              rintro e W3 ⟨rfl, b3⟩
              have B3 := Lib.hid (WB.out.trans (b3.mono WB.out.size))
              have I3 := Lib.hid (ib_below IB.out b3)
              clear b3
              go_wp2_with fail
              refine (Tryz.writeStringS w.heap.size w.heap.size _ (Lib.itoa x) (itoa_ne x) W3 I3.out (by rw [bcl]; have := HXL.out; have := HIL.out; omega) B3.out.size).mono ?_
              rintro e W4 ⟨rfl, i4, b4, s4⟩
              rw [bca, List.append_assoc] at i4
              have I4 : Hid (Lib.IsBuilder 90 5 w.heap.size w.heap.size (Lib.byteCells (X ++ rT (r.take (0 + 1)))) W4) := Lib.hid (by rw [HRX.out]; exact i4)
              have B4 := Lib.hid (B3.out.trans b4)
              clear i4 b4 s4
              go_wp2_with fail
              exact ⟨⟨0 + 1, by omega, rfl, I4, B4⟩, by simp [intO]; omega⟩
            · have k3 : decide ((k : Int) > 0) = true := decide_eq_true (by omega)
              have k3' : decide (0 < (k : Int)) = true := decide_eq_true (by omega)
              have k4 : decide (0 < k) = true := decide_eq_true (by omega)
              have HK0 := Lib.hid hk0
              clear hk0
              go_wp2_with fail
              refine (Tryz.writeByteS w.heap.size w.heap.size _ 44 _ IB.out (by rw [bcl]; have := HXL.out; omega) WB.out.size).mono ?_
              rintro e W2 ⟨rfl, i2, b2, s2⟩
              rw [show (Value.int .u8 44) = .int .u8 ((44 : UInt8).toNat : Int) from rfl, bc_snoc] at i2
              have I2 := Lib.hid i2
              have B2 := Lib.hid (WB.out.trans b2)
              have C2 : Hid (W2.heap[W.heap.size]? = some (.cells (cells4 1 x ⟨#[]⟩ 0 0) 25 (0, 0))) := Lib.hid (s2 _ _ _ (by decide) HNE.out CB.out)
              clear i2 b2 s2
              go_wp2_with (refine nw_load_row _ rfl 25 (.tmp 6) rfl W.heap.size 25 (cells4 1 x ⟨#[]⟩ 0 0) _ rfl C2.out (Tryz.size25 _ rfl) Tryz.st25 ?_)
              refine (Tryz.textN (HD.out.on (B2.out.mono hB)) (Nat.le_trans hB B2.out.size) x HXI.out.1 HXI.out.2).mono ?_
              rintro e W3 ⟨rfl, b3⟩
              have B3 := Lib.hid (B2.out.trans (b3.mono B2.out.size))
              have I3 := Lib.hid (ib_below I2.out b3)
              clear b3
              go_wp2_with fail
              refine (Tryz.writeStringS w.heap.size w.heap.size _ (Lib.itoa x) (itoa_ne x) W3 I3.out (by rw [bcl]; have := HXL.out; have := HIL.out; simp at *; omega) B3.out.size).mono ?_
              rintro e W4 ⟨rfl, i4, b4, s4⟩
              rw [bca, List.append_assoc, List.append_assoc] at i4
              have I4 : Hid (Lib.IsBuilder 90 5 w.heap.size w.heap.size (Lib.byteCells (X ++ rT (r.take (k + 1)))) W4) := Lib.hid (by rw [HRX.out, if_neg HK0.out]; exact i4)
              have B4 := Lib.hid (B3.out.trans b4)
              clear i4 b4 s4
              go_wp2_with fail
              exact ⟨⟨k + 1, by omega, rfl, I4, B4⟩, by simp [intO]; omega⟩
          · obtain rfl : k = m := by omega
            have k1 : decide ((k : Int) < k) = false := decide_eq_false (by omega)
            have k2 : decide (k < k) = false := decide_eq_false (by omega)
            have II : Hid (Lib.IsBuilder 90 5 w.heap.size w.heap.size (Lib.byteCells (RT (R.take (i + 1)))) W) := Lib.hid (by
              have := HI2.out
              rw [show r.take k = r by rw [← HM.out, List.take_length]] at this
              rw [HRT.out]; exact this)
            go_wp2_with fail
            refine wp_goto ?_
            refine ⟨rfl, ⟨i + 1, by omega, II, HB2, _, _, _, _, _, _, _, _, _, _, _, _, _, _, _, _, _, _, _, _, _, _, _, _, _, _, _, _, _, _, _, rfl⟩, ?_⟩
            simp [intO]
            omega
      · have d3 : decide ((i : Int) > 0) = true := decide_eq_true (by omega)
        have d3' : decide (0 < (i : Int)) = true := decide_eq_true (by omega)
        have d3'' : decide (0 < i) = true := decide_eq_true (by omega)
        have HI0 := Lib.hid hi0
        clear hi0
        go_wp2_with fail
        refine (Tryz.writeByteS w.heap.size w.heap.size _ 59 _ HI1.out (by rw [bcl]; have := RT_take_le R i; have := HLEN.out; omega) HB1.out.size).mono ?_
        rintro e wx ⟨rfl, i2, b2, s2⟩
        rw [show (Value.int .u8 59) = .int .u8 ((59 : UInt8).toNat : Int) from rfl, bc_snoc] at i2
        obtain ⟨X, hX⟩ : ∃ X, RT (R.take i) ++ [59] = X := ⟨_, rfl⟩
        rw [hX] at i2
        have HX := Lib.hid i2
        have HRT : Hid (RT (R.take (i + 1)) = X ++ rT r) := Lib.hid (by rw [HRT0.out, if_neg HI0.out, ← hX])
        have HXX : Hid (X.length + (rT r).length < 2 ^ 18) := Lib.hid (by have h1 := HTL.out; rw [HRT.out] at h1; have := HLEN.out; simp at h1; omega)
        have HB : Hid (Hid (Below w.heap.size w wx) ∧ True) := Lib.hid ⟨Lib.hid (HB1.out.trans b2), trivial⟩
        have hc2 : wx.cell? ⟨G, i, none⟩ = some (.slice (some ⟨g, 0, none⟩) m c) := (HB.out.1.out.cell (p := ⟨G, i, none⟩) hlc).trans HC.out
        clear i2 b2 s2 hX HI1 HRT0 HB1
        go_wp2_with fail
        go_loopw [20] (fun t20 W => ∃ k : Nat, k ≤ m ∧ t20 = .int .i64 k ∧ Hid (Lib.IsBuilder 90 5 w.heap.size w.heap.size (Lib.byteCells (X ++ rT (r.take k))) W) ∧ Hid (Below w.heap.size w W)) (fun t20 _ => m - (intO t20).toNat)
        case atStart => exact ⟨0, Nat.zero_le _, rfl, Lib.hid (by simpa [rT] using HX.out), HB.out.1⟩
        case round =>
          rename World => W
          obtain ⟨k, hk, rfl, HI2, HB2⟩ := hrel
          by_cases hlk : k < m
          · have k1 : decide ((k : Int) < m) = true := decide_eq_true (by omega)
            have k2 : decide (k < m) = true := decide_eq_true hlk
            obtain ⟨x, hx⟩ : ∃ x, r[k]? = some x := ⟨_, List.getElem?_eq_getElem (by rw [HM.out]; exact hlk)⟩
            obtain ⟨e1, e2, e3, e4⟩ := (HVA.out.below HB2.out) k x hx
            have hxi : I64 x := HI.out.2 x (List.mem_of_getElem? hx)
            have HXI := Lib.hid hxi
            have HRX := Lib.hid (rT_take r k x hx)
            have HXL : Hid ((X ++ rT (r.take k)).length ≤ 2 ^ 19) := Lib.hid (by have := HXX.out; have := rT_take_le r k; simp at *; omega)
            have hil := Lib.itoa_length_le x hxi.1 hxi.2
            have HIL := Lib.hid hil
            have WB : Hid (Below w.heap.size w (W.alloc (.cells #[.int .i64 1, .int .i64 x, .string ⟨#[]⟩, .complex .f64 0 0] 25))) := Lib.hid (HB2.out.alloc HB2.out.size _)
            have IB : Hid (Lib.IsBuilder 90 5 w.heap.size w.heap.size (Lib.byteCells (X ++ rT (r.take k))) (W.alloc (.cells #[.int .i64 1, .int .i64 x, .string ⟨#[]⟩, .complex .f64 0 0] 25))) := Lib.hid (ib_below HI2.out ((Below.refl _ W).alloc (Nat.le_refl _) _))
            have CB : Hid ((W.alloc (.cells #[.int .i64 1, .int .i64 x, .string ⟨#[]⟩, .complex .f64 0 0] 25)).heap[W.heap.size]? = some (.cells (cells4 1 x ⟨#[]⟩ 0 0) 25 (0, 0))) := Lib.hid (heap_alloc_new W _)
            have hne : W.heap.size ≠ w.heap.size := by have := IB.out; rcases HI2.out with ⟨_, v, q, _⟩ | ⟨_, v, q, _⟩ <;> (have := heap_lt q; omega)
            have HNE := Lib.hid hne
            clear hx hxi hil hne
            by_cases hk0 : k = 0
            · subst hk0
              have k3 : decide ((0 : Int) > 0) = false := by decide
              go_wp2_with (refine nw_load_row _ rfl 25 (.tmp 6) rfl W.heap.size 25 (cells4 1 x ⟨#[]⟩ 0 0) _ rfl CB.out (Tryz.size25 _ rfl) Tryz.st25 ?_)
              refine (Tryz.textN (HD.out.on (WB.out.mono hB)) (Nat.le_trans hB WB.out.size) x HXI.out.1 HXI.out.2).mono ?_
              rintro e W3 ⟨rfl, b3⟩
              have B3 := Lib.hid (WB.out.trans (b3.mono WB.out.size))
              have I3 := Lib.hid (ib_below IB.out b3)
              clear b3
              go_wp2_with fail
              refine (Tryz.writeStringS w.heap.size w.heap.size _ (Lib.itoa x) (itoa_ne x) W3 I3.out (by rw [bcl]; have := HXL.out; have := HIL.out; omega) B3.out.size).mono ?_
              rintro e W4 ⟨rfl, i4, b4, s4⟩
              rw [bca, List.append_assoc] at i4
              have I4 : Hid (Lib.IsBuilder 90 5 w.heap.size w.heap.size (Lib.byteCells (X ++ rT (r.take (0 + 1)))) W4) := Lib.hid (by rw [HRX.out]; exact i4)
              have B4 := Lib.hid (B3.out.trans b4)
              clear i4 b4 s4
              go_wp2_with fail
              exact ⟨⟨0 + 1, by omega, rfl, I4, B4⟩, by simp [intO]; omega⟩
            · have k3 : decide ((k : Int) > 0) = true := decide_eq_true (by omega)
              have k3' : decide (0 < (k : Int)) = true := decide_eq_true (by omega)
              have k4 : decide (0 < k) = true := decide_eq_true (by omega)
              have HK0 := Lib.hid hk0
              clear hk0
              go_wp2_with fail
              refine (Tryz.writeByteS w.heap.size w.heap.size _ 44 _ IB.out (by rw [bcl]; have := HXL.out; omega) WB.out.size).mono ?_
              rintro e W2 ⟨rfl, i2, b2, s2⟩
              rw [show (Value.int .u8 44) = .int .u8 ((44 : UInt8).toNat : Int) from rfl, bc_snoc] at i2
              have I2 := Lib.hid i2
              have B2 := Lib.hid (WB.out.trans b2)
              have C2 : Hid (W2.heap[W.heap.size]? = some (.cells (cells4 1 x ⟨#[]⟩ 0 0) 25 (0, 0))) := Lib.hid (s2 _ _ _ (by decide) HNE.out CB.out)
              clear i2 b2 s2
              go_wp2_with (refine nw_load_row _ rfl 25 (.tmp 6) rfl W.heap.size 25 (cells4 1 x ⟨#[]⟩ 0 0) _ rfl C2.out (Tryz.size25 _ rfl) Tryz.st25 ?_)
              refine (Tryz.textN (HD.out.on (B2.out.mono hB)) (Nat.le_trans hB B2.out.size) x HXI.out.1 HXI.out.2).mono ?_
              rintro e W3 ⟨rfl, b3⟩
              have B3 := Lib.hid (B2.out.trans (b3.mono B2.out.size))
              have I3 := Lib.hid (ib_below I2.out b3)
              clear b3
              go_wp2_with fail
              refine (Tryz.writeStringS w.heap.size w.heap.size _ (Lib.itoa x) (itoa_ne x) W3 I3.out (by rw [bcl]; have := HXL.out; have := HIL.out; simp at *; omega) B3.out.size).mono ?_
              rintro e W4 ⟨rfl, i4, b4, s4⟩
              rw [bca, List.append_assoc, List.append_assoc] at i4
              have I4 : Hid (Lib.IsBuilder 90 5 w.heap.size w.heap.size (Lib.byteCells (X ++ rT (r.take (k + 1)))) W4) := Lib.hid (by rw [HRX.out, if_neg HK0.out]; exact i4)
              have B4 := Lib.hid (B3.out.trans b4)
              clear i4 b4 s4
              go_wp2_with fail
              exact ⟨⟨k + 1, by omega, rfl, I4, B4⟩, by simp [intO]; omega⟩
          · obtain rfl : k = m := by omega
            have k1 : decide ((k : Int) < k) = false := decide_eq_false (by omega)
            have k2 : decide (k < k) = false := decide_eq_false (by omega)
            have II : Hid (Lib.IsBuilder 90 5 w.heap.size w.heap.size (Lib.byteCells (RT (R.take (i + 1)))) W) := Lib.hid (by
              have := HI2.out
              rw [show r.take k = r by rw [← HM.out, List.take_length]] at this
              rw [HRT.out]; exact this)
            go_wp2_with fail
            refine wp_goto ?_
            refine ⟨rfl, ⟨i + 1, by omega, II, HB2, _, _, _, _, _, _, _, _, _, _, _, _, _, _, _, _, _, _, _, _, _, _, _, _, _, _, _, _, _, _, _, rfl⟩, ?_⟩
            simp [intO]
            omega
    · obtain rfl : i = N := by omega
      have d1 : decide ((i : Int) = i) = true := by simp
      have HJ : Hid (Lib.IsBuilder 90 5 w.heap.size w.heap.size (Lib.byteCells (RT R)) wr) := Lib.hid (by have := HI1.out; rwa [show R.take i = R by rw [← HN.out, List.take_length]] at this)
      clear HI1
      go_wp2_with fail
      refine (Tryz.Builder_String_any _ _ _ _ HJ.out HB1.out.size).mono ?_
      rintro e W1 ⟨rfl, hb1⟩
      have B1 := Lib.hid (HB1.out.trans hb1)
      clear hb1
      go_wp2_with fail
      simp only [Exit.jump]
      go_ret
      exact ⟨rfl, B1.out⟩
end Go.Proofs.YtcogajgikmcfpaaGreatDoor
end

section
namespace Go.Proofs.YtcogajgikmcfpaaGreatDoor
open Go.RowKit Go.NW Go.NR
set_option maxRecDepth 100000
theorem Tryz.vcheckN (n : Int) (w : World) : Calls Tryz.prog 41 #[vN n] w fun e w' => e = .returned (.int .i64 0) ∧ Below w.heap.size w w' := by
  unfold vN
  have hsc := storeC
  have hz : ∀ (w : World), (binOp .neq 25 (.agg #[.int .i64 1, .int .i64 0, .string ⟨#[]⟩, .complex .f64 0 0]) (.agg #[.int .i64 1, .int .i64 0, .string ⟨#[]⟩, .complex .f64 0 0])).run Tryz.prog w = .ok (.bool false) w := fun w => by
    rw [neqV w 1 0 1 0 _ _ 0 0 0 0 true (eqC0 w 9998)]
    simp
  have hgd := eqG
  go_enter Tryz.func41, Tryz.ntmps41
  go_wp2
  refine wp_scope_fwd 2 ?_
  go_wp2_with fail
  go_step3
  refine ⟨_, rfl, ?_⟩
  go_wp2_with fail
  go_step3
  refine ⟨_, rfl, ?_⟩
  go_wp2_with fail
  refine (Fwd.other (by intro l; simp)).2 ?_
  go_ret
  refine ⟨rfl, ?_⟩
  exact ((Below.refl _ w).alloc (Nat.le_refl _) _).alloc (by simp) _
def pred9 : Array Value := #[.int .i64 0, .int .i64 0, .int .i64 0, .int .i64 0, .string ⟨#[]⟩, .complex .f64 0 0, .complex .f64 0 0, .complex .f64 0 0, .slice none 0 0]
end Go.Proofs.YtcogajgikmcfpaaGreatDoor
end

section
namespace Go.Proofs.YtcogajgikmcfpaaGreatDoor
open Go.RowKit Go.NW Go.NR
set_option maxRecDepth 100000
set_option maxHeartbeats 1000000 in
theorem Tryz.shaped (hP : ∀ W : World, Calls Tryz.prog 9 #[.agg pred9, .agg pred9] W fun e w' => e = .returned (.bool true) ∧ Below W.heap.size W w') {w : World} (G N C : Nat) (R : List (List Int)) (hN : R.length = N) (hN0 : 0 < N) (hR : RA w G R) (hi : GR R) (hNC : N ≤ C) (hC : C ≤ maxLen) :
    Calls Tryz.prog 39 #[.agg (reqC (.slice (some ⟨G, 0, none⟩) N C))] w fun e w' => e = .returned (.bool true) ∧ Below w.heap.size w w' := by
  unfold maxLen at hC
  have hsc := storeC
  have HN := Lib.hid hN
  have HR := Lib.hid hR
  have HG := Lib.hid hi
  have HP := Lib.hid hP
  clear hN hR hi hP
  obtain ⟨O, hO⟩ : ∃ O, Obj.cells (reqC (.slice (some ⟨G, 0, none⟩) N C)) 38 = O := ⟨_, rfl⟩
  have hcp := HP.out (w.alloc O)
  rw [← hO] at hcp
  have HCP := Lib.hid hcp
  have HO := Lib.hid hO
  clear hcp hO
  unfold reqC at HCP ⊢
  go_enter Tryz.func39, Tryz.ntmps39
  go_wp2_with fail
  refine HCP.out.mono ?_
  rintro e w1 ⟨rfl, b1⟩
  have B1 : Hid (Below w.heap.size w w1) := Lib.hid (((Below.refl _ w).alloc (Nat.le_refl _) _).trans (b1.mono (by simp)))
  have hb : w1.heap[w.heap.size]? = some (.cells (reqC (.slice (some ⟨G, 0, none⟩) N C)) 38 (0, 0)) := (b1.block _ (by simp)).trans (heap_alloc_new w _)
  have c0 : w1.cell? ⟨w.heap.size, 0, none⟩ = some (.int .i64 4) := by rw [cell_of_block hb]; rfl
  have c1 : w1.cell? ⟨w.heap.size, 1, none⟩ = some (.int .i64 0) := by rw [cell_of_block hb]; rfl
  have c12 : w1.cell? ⟨w.heap.size, 12, none⟩ = some (.slice (some ⟨G, 0, none⟩) N C) := by rw [cell_of_block hb]; rfl
  have HC := Lib.hid (And.intro c0 c1)
  clear b1 hb HCP HO hsc
  go_wp2_with fail
  go_loopw [51] (fun t W => ∃ i : Nat, i ≤ N ∧ t = .int .i64 i ∧ W = w1) (fun t _ => N - (intO t).toNat)
  case atStart => exact ⟨0, Nat.zero_le _, rfl, rfl⟩
  case round =>
    obtain ⟨i, hi, rfl, rfl⟩ := hrel
    by_cases hlt : i < N
    · have d2 : decide ((i : Int) < N) = true := decide_eq_true (by omega)
      have d2' : decide (i < N) = true := decide_eq_true hlt
      obtain ⟨r, hr⟩ : ∃ r, R[i]? = some r := ⟨_, List.getElem?_eq_getElem (by rw [HN.out]; exact hlt)⟩
      obtain ⟨g, c, hc, hrc, hcm, hva⟩ := (HR.out.below B1.out) i r hr
      have hr0 := (HG.out r (List.mem_of_getElem? hr)).1
      obtain ⟨m, hm⟩ : ∃ m, r.length = m := ⟨_, rfl⟩
      have hm0 : 0 < m := by
        rw [← hm]
        cases r with
        | nil => exact absurd rfl hr0
        | cons a b => simp
      rw [hm] at hc hrc
      have d3 : decide ((m : Int) = 0) = false := decide_eq_false (by omega)
      have d3' : ((m : Int) == 0) = false := by simp; omega
      have d3'' : decide (m = 0) = false := decide_eq_false (by omega)
      clear hva hr hm hr0 hcm
      go_wp2_with fail
      exact ⟨⟨i + 1, by omega, rfl, trivial⟩, by simp [intO]; omega⟩
    · obtain rfl : i = N := by omega
      have d1 : decide ((i : Int) < i) = false := by simp
      have d2 : decide (i < i) = false := by simp
      go_wp2_with fail
      go_ret
      exact ⟨rfl, B1.out⟩
set_option maxHeartbeats 1000000 in
theorem Tryz.check (hP : ∀ W : World, Calls Tryz.prog 9 #[.agg pred9, .agg pred9] W fun e w' => e = .returned (.bool true) ∧ Below W.heap.size W w') {w : World} (G N C : Nat) (R : List (List Int)) (hN : R.length = N) (hN0 : 0 < N) (hR : RA w G R) (hi : GR R) (hNC : N ≤ C) (hC : C ≤ maxLen) :
    Calls Tryz.prog 19 #[.agg (reqC (.slice (some ⟨G, 0, none⟩) N C))] w fun e w' => e = .returned (.int .i64 0) ∧ Below w.heap.size w w' := by
  have hsc := storeC
  obtain ⟨O, hO⟩ : ∃ O, Obj.cells (reqC (.slice (some ⟨G, 0, none⟩) N C)) 38 = O := ⟨_, rfl⟩
  have hsh := Tryz.shaped hP (w := w.alloc O) G N C R hN hN0 (hR.below ((Below.refl _ w).alloc (Nat.le_refl _) _)) hi hNC hC
  unfold maxLen at hC
  have HN := Lib.hid hN
  have HR := Lib.hid hR
  have HG := Lib.hid hi
  rw [← hO] at hsh
  have HSH := Lib.hid hsh
  clear hsh hO hP hN hR hi
  unfold reqC at HSH ⊢
  go_enter Tryz.func19, Tryz.ntmps19
  go_wp2_with fail
  refine HSH.out.mono ?_
  rintro e w1 ⟨rfl, b1⟩
  have B1 : Hid (Below w.heap.size w w1) := Lib.hid (((Below.refl _ w).alloc (Nat.le_refl _) _).trans (b1.mono (by simp)))
  have hb : w1.heap[w.heap.size]? = some (.cells (reqC (.slice (some ⟨G, 0, none⟩) N C)) 38 (0, 0)) := (b1.block _ (by simp)).trans (heap_alloc_new w _)
  have c0 : w1.cell? ⟨w.heap.size, 0, none⟩ = some (.int .i64 4) := by rw [cell_of_block hb]; rfl
  have c2 : w1.cell? ⟨w.heap.size, 2, none⟩ = some (.slice none 0 0) := by rw [cell_of_block hb]; rfl
  have c12 : w1.cell? ⟨w.heap.size, 12, none⟩ = some (.slice (some ⟨G, 0, none⟩) N C) := by rw [cell_of_block hb]; rfl
  clear b1 hb HSH hsc
  have d00 : decide ((0 : Int) < 0) = false := by decide
  go_wp2_with fail
  go_loopw [16] (fun t W => t = .int .i64 0 ∧ W = w1) (fun t _ => 0)
  case atStart => exact ⟨rfl, rfl⟩
  case round =>
    obtain ⟨rfl, rfl⟩ := hrel
    go_wp2_with fail
    go_loopw [33] (fun t W => ∃ i : Nat, i ≤ N ∧ t = .int .i64 i ∧ Hid (Below w.heap.size w W)) (fun t _ => N - (intO t).toNat)
    case atStart => exact ⟨0, Nat.zero_le _, rfl, B1⟩
    case round =>
      rename World => W
      obtain ⟨i, hi, rfl, HB⟩ := hrel
      by_cases hlt : i < N
      · have d2 : decide ((i : Int) < N) = true := decide_eq_true (by omega)
        have d2' : decide (i < N) = true := decide_eq_true hlt
        obtain ⟨r, hr⟩ : ∃ r, R[i]? = some r := ⟨_, List.getElem?_eq_getElem (by rw [HN.out]; exact hlt)⟩
        obtain ⟨g, c, hc, hrc, hcm, hva⟩ := (HR.out.below HB.out) i r hr
        unfold maxLen at hcm
        obtain ⟨m, hm⟩ : ∃ m, r.length = m := ⟨_, rfl⟩
        rw [hm] at hc hrc
        have HM := Lib.hid hm
        have HVA := Lib.hid hva
        clear hva hr hm
        go_wp2_with fail
        go_loopw [39] (fun t V => ∃ k : Nat, k ≤ m ∧ t = .int .i64 k ∧ Hid (Below W.heap.size W V)) (fun t _ => m - (intO t).toNat)
        case atStart => exact ⟨0, Nat.zero_le _, rfl, Lib.hid (Below.refl _ _)⟩
        case round =>
          rename World => V
          obtain ⟨k, hk, rfl, HV⟩ := hrel
          by_cases hlk : k < m
          · have k1 : decide ((k : Int) < m) = true := decide_eq_true (by omega)
            have k2 : decide (k < m) = true := decide_eq_true hlk
            obtain ⟨x, hx⟩ : ∃ x, r[k]? = some x := ⟨_, List.getElem?_eq_getElem (by rw [HM.out]; exact hlk)⟩
            obtain ⟨e1, e2, e3, e4⟩ := (HVA.out.below HV.out) k x hx
            have hsc := storeC
            have hv := Tryz.vcheckN x (V.alloc (.cells #[.int .i64 1, .int .i64 x, .string ⟨#[]⟩, .complex .f64 0 0] 25))
            have HVC := Lib.hid hv
            clear hx hv
            go_wp2_with fail
            refine HVC.out.mono ?_
            rintro e V2 ⟨rfl, b2⟩
            have V2B : Hid (Below W.heap.size W V2) := Lib.hid ((HV.out.alloc HV.out.size _).trans (b2.mono (by have := HV.out.size; simp; omega)))
            clear b2
            go_wp2_with fail
            exact ⟨⟨k + 1, by omega, rfl, V2B⟩, by simp [intO]; omega⟩
          · obtain rfl : k = m := by omega
            have k1 : decide ((k : Int) < k) = false := by simp
            have k2 : decide (k < k) = false := by simp
            have HB2 : Hid (Below w.heap.size w V) := Lib.hid (HB.out.trans (HV.out.mono HB.out.size))
            go_wp2_with fail
            exact ⟨⟨i + 1, by omega, rfl, HB2⟩, by simp [intO]; omega⟩
      · obtain rfl : i = N := by omega
        have d1 : decide ((i : Int) < i) = false := by simp
        have d2 : decide (i < i) = false := by simp
        go_wp2_with fail
        go_ret
        exact ⟨rfl, HB.out⟩
end Go.Proofs.YtcogajgikmcfpaaGreatDoor
end

section
namespace Go.Proofs.YtcogajgikmcfpaaGreatDoor
open Go.RowKit Go.NW Go.NR
set_option maxRecDepth 100000
theorem bs_app (l k : List UInt8) : bs l ++ bs k = bs (l ++ k) := by
  unfold bs
  ext1
  simp
set_option maxHeartbeats 1000000 in
theorem Tryz.textA (hP : ∀ W : World, Calls Tryz.prog 9 #[.agg pred9, .agg pred9] W fun e w' => e = .returned (.bool true) ∧ Below W.heap.size W w') {B : Nat} {w : World} (hD : DoorI B w) (hB : B ≤ w.heap.size) (G N C : Nat) (R : List (List Int)) (hN : R.length = N) (hN0 : 0 < N) (hR : RA w G R) (hi : GR R) (hlen : (RT R).length < 2 ^ 18) (hNC : N ≤ C) (hC : C ≤ maxLen) (hcnt : R.length ≤ 1073741824) :
    Calls Tryz.prog 7 #[.agg (reqC (.slice (some ⟨G, 0, none⟩) N C))] w fun e w' => e = .returned (.tuple #[.string (bs (appendB ++ RT R)), .int .i64 0]) ∧ Below w.heap.size w w' := by
  have hsc := storeC
  obtain ⟨O, hO⟩ : ∃ O, Obj.cells (reqC (.slice (some ⟨G, 0, none⟩) N C)) 38 = O := ⟨_, rfl⟩
  have hA := (Below.refl _ w).alloc (Nat.le_refl _) O
  have hck := Tryz.check hP (w := w.alloc O) G N C R hN hN0 (hR.below hA) hi hNC hC
  have ht : ∀ w1, Below w.heap.size w w1 → Calls Tryz.prog 23 #[.slice (some ⟨G, 0, none⟩) N C] w1 fun e w' => e = .returned (.string (bs (RT R))) ∧ Below w1.heap.size w1 w' := fun w1 h1 => Tryz.rowsText (hD.on (h1.mono hB)) (Nat.le_trans hB h1.size) G N C R hN (hR.below h1) hi hlen hNC hC hcnt
  rw [← hO] at hck
  have HCK := Lib.hid hck
  obtain ⟨M, hM⟩ : ∃ M, (RT R).length = M := ⟨_, rfl⟩
  have hsz : (bs (RT R)).size = M := by rw [bs_size, hM]
  have hM18 : M < 2 ^ 18 := by rw [← hM]; exact hlen
  clear hM
  have HT := Lib.hid ht
  clear hck ht hO hA hP hN hR hi hD hlen hcnt hC hNC hN0
  unfold reqC at HCK ⊢
  go_enter Tryz.func7, Tryz.ntmps7
  go_wp2_with fail
  refine HCK.out.mono ?_
  rintro e w1 ⟨rfl, b1⟩
  have B1 : Hid (Below w.heap.size w w1) := Lib.hid (((Below.refl _ w).alloc (Nat.le_refl _) _).trans (b1.mono (by simp)))
  have hb : w1.heap[w.heap.size]? = some (.cells (reqC (.slice (some ⟨G, 0, none⟩) N C)) 38 (0, 0)) := (b1.block _ (by simp)).trans (heap_alloc_new w _)
  have c0 : w1.cell? ⟨w.heap.size, 0, none⟩ = some (.int .i64 4) := by rw [cell_of_block hb]; rfl
  have c12 : w1.cell? ⟨w.heap.size, 12, none⟩ = some (.slice (some ⟨G, 0, none⟩) N C) := by rw [cell_of_block hb]; rfl
  clear b1 hb HCK hsc
  go_wp2_with fail
  refine (HT.out _ B1.out).mono ?_
  rintro e w2 ⟨rfl, b2⟩
  have B2 : Hid (Below w.heap.size w w2) := Lib.hid (B1.out.trans (b2.mono B1.out.size))
  clear b2
  go_wp2_with fail
  go_ret2
  exact ⟨by rw [← bs_app]; rfl, B2.out⟩
end Go.Proofs.YtcogajgikmcfpaaGreatDoor
end

section
namespace Go.Proofs.YtcogajgikmcfpaaGreatDoor
open Go.RowKit Go.NW Go.NR
set_option maxRecDepth 100000
theorem conv1 (d : UInt8) (z : Int) (hz : z = (d.toNat : Int)) (w : World) : (convert 71 9 (.slice (some ⟨w.heap.size, 0, none⟩) 1 1)).run Tryz.prog (w.alloc (.cells #[.int .u8 z] 5)) = .ok (.string (bs [d])) (w.alloc (.cells #[.int .u8 z] 5)) := by
  subst hz
  refine run_convert_bytes_back _ 71 9 5 ⟨w.heap.size, 0, none⟩ 1 [d] Tryz.underlying71 Tryz.underlying5 Tryz.underlying9 ?_
  intro j hj
  have hj0 : j = 0 := by simpa using hj
  subst hj0
  have e : (⟨w.heap.size, 0, none⟩ : Addr).add 0 = ⟨w.heap.size, 0, none⟩ := by unfold Addr.add; split <;> simp_all
  rw [e, cell_of_block (heap_alloc_new w _) 0]
  rfl
def dgt (k : Nat) : UInt8 := UInt8.ofNat (48 + k)
theorem dec_lt {u : Nat} (h : u < 10) : Lib.decDigits u = [dgt u] := by unfold Lib.decDigits; rw [dif_pos h]; rfl
theorem dec_ge {u : Nat} (h : 10 ≤ u) : Lib.decDigits u = Lib.decDigits (u / 10) ++ [dgt (u % 10)] := by
  conv => lhs; unfold Lib.decDigits
  rw [dif_neg (by omega)]
  rfl
def DS (u q : Nat) (s : List UInt8) : Prop := (q < 10 → s = Lib.decDigits u) ∧ (10 ≤ q → Lib.decDigits u = Lib.decDigits (q / 10) ++ s)
theorem DS.start (u : Nat) : DS u u [dgt (u % 10)] := by
  refine ⟨fun h => ?_, fun h => dec_ge h⟩
  rw [dec_lt h, Nat.mod_eq_of_lt h]
theorem DS.step {u q : Nat} {s : List UInt8} (h : DS u q s) (hq : 10 ≤ q) : DS u (q / 10) ([dgt (q / 10 % 10)] ++ s) := by
  have h2 := h.2 hq
  refine ⟨fun hl => ?_, fun hl => ?_⟩
  · rw [h2, dec_lt hl, Nat.mod_eq_of_lt hl]
  · rw [h2, dec_ge hl]; simp
theorem DS.len {u q : Nat} {s : List UInt8} (h : DS u q s) : s.length ≤ (Lib.decDigits u).length := by
  by_cases hq : q < 10
  · rw [h.1 hq]; exact Nat.le_refl _
  · rw [h.2 (by omega)]; simp
theorem ofNat48 (k : Nat) (h : k < 10) : ((dgt k).toNat : Int) = 48 + (k : Int) := by
  unfold dgt
  rw [ofNat_digit k h]; omega
set_option maxHeartbeats 1000000 in
theorem Tryz.decimalP (u : Nat) (hu : u < 9223372036854775808) (w : World) :
    Calls Tryz.prog 11 #[.int .i64 (u : Int)] w fun e w' => e = .returned (.string (bs (Lib.decDigits u))) ∧ Below w.heap.size w w' := by
  have h0 : decide ((u : Int) < 0) = false := decide_eq_false (by omega)
  have hu' : (u : Int) < 9223372036854775808 := by omega
  have hd : (0 : Int) ≤ (u : Int) % 10 := by omega
  have hd2 : (u : Int) % 10 < 10 := by omega
  have hlen : (Lib.decDigits u).length ≤ 21 := by
    have := Lib.itoa_length_le (u : Int) (by omega) (by omega)
    unfold Lib.itoa at this
    rw [if_neg (by omega)] at this
    simpa using this
  have HL := Lib.hid hlen
  have S0 := Lib.hid (DS.start u)
  have hc := conv1 (dgt (u % 10)) (48 + (u : Int) % 10) (by rw [ofNat48 _ (by omega)]; omega) w
  have HC := Lib.hid hc
  clear hlen hc
  go_enter Tryz.func11, Tryz.ntmps11
  go_wp2_with fail
  rw [HC.out]
  simp only [Result.andThen]
  rw [Oper.upon_value]
  have B0 : Hid (Below w.heap.size w (w.alloc (.cells #[.int .u8 (48 + (u : Int) % 10)] 5))) := Lib.hid ((Below.refl _ w).alloc (Nat.le_refl _) _)
  clear HC
  go_wp2_with fail
  go_loopw [0, 3] (fun t0 t3 W => ∃ (q : Nat) (s : List UInt8), q < 9223372036854775808 ∧ t0 = .int .i64 (q : Int) ∧ t3 = .string (bs s) ∧ Hid (DS u q s) ∧ Hid (Below w.heap.size w W)) (fun t0 _ _ => (intO t0).toNat)
  case atStart => exact ⟨u, _, hu, rfl, rfl, S0, B0⟩
  case round =>
    rename World => W
    obtain ⟨q, s, hq, rfl, rfl, HS, HB⟩ := hrel
    by_cases h10 : 10 ≤ q
    · have e1 : decide ((q : Int) ≥ 10) = true := decide_eq_true (by omega)
      have e2 : decide ((10 : Int) ≤ q) = true := decide_eq_true (by omega)
      have e3 : decide (10 ≤ q) = true := decide_eq_true (by omega)
      obtain ⟨p, hp⟩ : ∃ p, q / 10 = p := ⟨_, rfl⟩
      have hpI : (q : Int) / 10 = (p : Int) := by omega
      have hp0 : (0 : Int) ≤ (p : Int) % 10 := by omega
      have hp1 : (p : Int) % 10 < 10 := by omega
      have hp2 : p < q := by omega
      have hp3 : (p : Int) < 9223372036854775808 := by omega
      have hq0 : (0 : Int) ≤ (q : Int) := by omega
      have hst := HS.out.step h10
      rw [hp] at hst
      have HST := Lib.hid hst
      have hl2 := HS.out.len
      have hsz : (bs s).size = s.length := bs_size s
      have hl3 : s.length ≤ 21 := Nat.le_trans hl2 HL.out
      obtain ⟨M, hM⟩ : ∃ M, s.length = M := ⟨_, rfl⟩
      rw [hM] at hsz hl3
      have hsz1 : (bs [dgt (p % 10)]).size = 1 := by rw [bs_size]; rfl
      have hc := conv1 (dgt (p % 10)) (48 + (p : Int) % 10) (by rw [ofNat48 _ (by omega)]; omega) W
      have HC := Lib.hid hc
      have B1 : Hid (Below w.heap.size w (W.alloc (.cells #[.int .u8 (48 + (p : Int) % 10)] 5))) := Lib.hid (HB.out.alloc HB.out.size _)
      have hba := bs_app
      clear hp hst hl2 hM hc
      go_wp2_with fail
      rw [HC.out]
      simp only [Result.andThen]
      rw [Oper.upon_value]
      clear HC
      go_wp2_with fail
      exact ⟨⟨p, _, by omega, rfl, rfl, HST, B1⟩, by simp [intO]; omega⟩
    · have e1 : decide ((q : Int) ≥ 10) = false := decide_eq_false (by omega)
      have e2 : decide ((10 : Int) ≤ q) = false := decide_eq_false (by omega)
      have e3 : decide (10 ≤ q) = false := decide_eq_false (by omega)
      obtain rfl := HS.out.1 (by omega)
      go_wp2_with fail
      go_ret
      exact ⟨rfl, HB.out⟩
end Go.Proofs.YtcogajgikmcfpaaGreatDoor
end

section
namespace Go.Proofs.YtcogajgikmcfpaaGreatDoor
open Go.RowKit Go.NW Go.NR
set_option maxRecDepth 100000
theorem itoa_neg (u : Nat) (h : 0 < u) : Lib.itoa (-(u : Int)) = 45 :: Lib.decDigits u := by
  unfold Lib.itoa
  rw [if_pos (by omega)]
  simp
set_option maxHeartbeats 1000000 in
theorem Tryz.decimalM (u : Nat) (h0 : 0 < u) (hu : u ≤ 9223372036854775808) (w : World) :
    Calls Tryz.prog 11 #[.int .i64 (-(u : Int))] w fun e w' => e = .returned (.string (bs (Lib.itoa (-(u : Int))))) ∧ Below w.heap.size w w' := by
  induction u using Nat.strongRecOn generalizing w with
  | _ u ih =>
    have d0 : decide (-(u : Int) < 0) = true := decide_eq_true (by omega)
    have hI : (-9223372036854775808 : Int) ≤ -(u : Int) := by omega
    have hI2 : (0 : Int) < (u : Int) := by omega
    rw [itoa_neg u h0]
    have hba := bs_app
    have hlen : (Lib.decDigits u).length ≤ 21 := by
      have := Lib.itoa_length_le (-(u : Int)) (by omega) (by omega)
      rw [itoa_neg u h0] at this
      simp at this
      omega
    by_cases h10 : u < 10
    · have d1 : decide (-(u : Int) > -10) = true := decide_eq_true (by omega)
      have d1' : decide (-10 < -(u : Int)) = true := decide_eq_true (by omega)
      have hI3 : (u : Int) < 10 := by omega
      obtain ⟨M, hM⟩ : ∃ M, (Lib.decDigits u).length = M := ⟨_, rfl⟩
      have hsz : (bs (Lib.decDigits u)).size = M := by rw [bs_size, hM]
      rw [hM] at hlen
      have HP := Lib.hid (Tryz.decimalP u (by omega))
      clear ih hM
      go_enter Tryz.func11, Tryz.ntmps11
      go_wp2_with fail
      refine (HP.out _).mono ?_
      rintro e w1 ⟨rfl, b1⟩
      have B1 := Lib.hid b1
      clear b1
      go_wp2_with fail
      go_ret
      exact ⟨by rw [show (45 : UInt8) :: Lib.decDigits u = [45] ++ Lib.decDigits u from rfl, ← bs_app]; rfl, B1.out⟩
    · have d1 : decide (-(u : Int) > -10) = false := decide_eq_false (by omega)
      have d1' : decide (-10 < -(u : Int)) = false := decide_eq_false (by omega)
      have h10' : 10 ≤ u := by omega
      obtain ⟨p, hp⟩ : ∃ p, u / 10 = p := ⟨_, rfl⟩
      obtain ⟨r, hr⟩ : ∃ r, u % 10 = r := ⟨_, rfl⟩
      have hpI : (u : Int) / 10 = (p : Int) := by omega
      have hrI : (u : Int) % 10 = (r : Int) := by omega
      have hr10 : r < 10 := by omega
      have hdu : Lib.decDigits u = Lib.decDigits p ++ [dgt r] := by rw [dec_ge h10', hp, hr]
      have hdr : Lib.decDigits r = [dgt r] := dec_lt hr10
      have HQ := Lib.hid (ih p (by omega) (by omega) (by omega))
      have HR := Lib.hid (Tryz.decimalP r (by omega))
      have hlp : (Lib.decDigits p).length ≤ 21 := by rw [hdu] at hlen; simp at hlen; omega
      obtain ⟨M, hM⟩ : ∃ M, (Lib.itoa (-(p : Int))).length = M := ⟨_, rfl⟩
      have hM22 : M ≤ 22 := by rw [← hM, itoa_neg p (by omega)]; simp; omega
      have hsz : (bs (Lib.itoa (-(p : Int)))).size = M := by rw [bs_size, hM]
      have hsz2 : (bs (Lib.decDigits r)).size = 1 := by rw [bs_size, hdr]; rfl
      have hfin : Lib.itoa (-(p : Int)) ++ Lib.decDigits r = 45 :: Lib.decDigits u := by rw [itoa_neg p (by omega), hdr, hdu]; rfl
      have HF := Lib.hid hfin
      clear ih hp hr hdu hdr hlp hM hlen hfin
      go_enter Tryz.func11, Tryz.ntmps11
      go_wp2_with fail
      refine (HQ.out _).mono ?_
      rintro e w1 ⟨rfl, b1⟩
      have B1 := Lib.hid b1
      clear b1
      go_wp2_with fail
      refine (HR.out _).mono ?_
      rintro e w2 ⟨rfl, b2⟩
      have B2 := Lib.hid (B1.out.trans (b2.mono B1.out.size))
      clear b2
      go_wp2_with fail
      rw [HF.out]
      go_ret
      exact ⟨rfl, B2.out⟩
theorem Tryz.decimalAny (n : Int) (hn : I64 n) (w : World) : Calls Tryz.prog 11 #[.int .i64 n] w fun e w' => e = .returned (.string (bs (Lib.itoa n))) ∧ Below w.heap.size w w' := by
  by_cases h : n < 0
  · obtain ⟨u, rfl⟩ : ∃ u : Nat, n = -(u : Int) := ⟨n.natAbs, by omega⟩
    exact Tryz.decimalM u (by omega) (by have := hn.1; omega) w
  · obtain ⟨u, rfl⟩ : ∃ u : Nat, n = (u : Int) := ⟨n.toNat, by omega⟩
    have e : Lib.itoa (u : Int) = Lib.decDigits u := by unfold Lib.itoa; rw [if_neg h]; simp
    rw [e]
    exact Tryz.decimalP u (by have := hn.2; omega) w
end Go.Proofs.YtcogajgikmcfpaaGreatDoor
end

section
namespace Go.Proofs.YtcogajgikmcfpaaGreatDoor
open Go.RowKit Go.NW Go.NR
set_option maxRecDepth 100000
theorem Tryz.size112 : ∀ n, n = 4 → (Tryz.prog.info? 112).map (·.size) = some n := fun n h => by subst h; kernel_rfl
theorem Tryz.st112 : Tryz.prog.underlying 112 = some (.struct (Tryz.prog.fieldsOf 112)) := by kernel_rfl
theorem Tryz.held112 : Tryz.prog.stoodInHeld 112 = false := by kernel_rfl
theorem Tryz.guard112 : Tryz.prog.eqGuardType Tryz.prog.depth 112 = false := by kernel_rfl
theorem fields112 : ∃ f1 f2 f3 f4 : Field, (Tryz.prog.fieldsOf 112).toList = [f1, f2, f3, f4] ∧ (f1.name ≠ "_" ∧ f1.type = 3 ∧ f1.offset = 0) ∧ (f2.name ≠ "_" ∧ f2.type = 2 ∧ f2.offset = 1) ∧ (f3.name ≠ "_" ∧ f3.type = 9 ∧ f3.offset = 2) ∧ (f4.name ≠ "_" ∧ f4.type = 23 ∧ f4.offset = 3) :=
  by
  have h : (Tryz.prog.fieldsOf 112).toList.map (fun f => (f.name == "_", f.type, f.offset)) = [(false, 3, 0), (false, 2, 1), (false, 9, 2), (false, 23, 3)] := by kernel_rfl
  generalize (Tryz.prog.fieldsOf 112).toList = L at h
  rcases L with _ | ⟨f1, _ | ⟨f2, _ | ⟨f3, _ | ⟨f4, _ | ⟨f5, L⟩⟩⟩⟩⟩ <;> simp at h
  exact ⟨f1, f2, f3, f4, rfl, h.1, h.2.1, h.2.2.1, h.2.2.2⟩
theorem neq112 (n : Int) (w : World) : (binOp .neq 112 (vN n) (vN n)).run Tryz.prog w = .ok (.bool false) w := by
  have hq := eqC0 w 9998
  have key : (Op.equalIn 10000 112 (vN n) (vN n)).run Tryz.prog w = .ok true w := by
    unfold vN
    rw [run_equalIn_agg w 9999 112 _ _ Tryz.st112 Tryz.held112]
    obtain ⟨f1, f2, f3, f4, h, ⟨a1, a2, a3⟩, ⟨b1, b2, b3⟩, ⟨c1, c2, c3⟩, d1, d2, d3⟩ := fields112
    rw [h]
    have q3 : (Op.equalIn 9999 3 (.int .i64 1) (.int .i64 1)).run Tryz.prog w = .ok (1 == 1) w := run_equalIn_int w 9998 3 .i64 .i64 1 1 Tryz.underlying3
    have q2 : (Op.equalIn 9999 2 (.int .i64 n) (.int .i64 n)).run Tryz.prog w = .ok (n == n) w := run_equalIn_int w 9998 2 .i64 .i64 n n Tryz.underlying2
    have q9 : (Op.equalIn 9999 9 (.string ⟨#[]⟩) (.string ⟨#[]⟩)).run Tryz.prog w = .ok ((⟨#[]⟩ : ByteArray).toList == (⟨#[]⟩ : ByteArray).toList) w := run_equalIn_string w 9998 9 _ _ Tryz.underlying9
    simp only [Op.eqFields, a1, a2, a3, b1, b2, b3, c1, c2, c3, d1, d2, d3, if_true, ne_eq, not_false_eq_true]
    simp [part, go_sem, q3, q2, q9, hq]
  unfold vN at key ⊢
  rw [run_neq_struct, key, Result.andThen_ok]
  rfl
theorem guardN (op : BinOp) (x y : Operand) (xs ys : Array Value) (w : World) : (eqGuard op 112 x y (.agg xs) (.agg ys)).run Tryz.prog w = .ok () w := run_eqGuard_agg w op 112 x y xs ys Tryz.guard112
theorem Tryz.ofN (n : Int) (w : World) : Calls Tryz.prog 62 #[vN n] w fun e w' => e = .returned (vN n) ∧ Below w.heap.size w w' := by
  have hsc := storeC
  have hA : (w.alloc (.cells #[.int .i64 1, .int .i64 n, .string ⟨#[]⟩, .complex .f64 0 0] 25)).heap.size = w.heap.size + 1 := by simp
  have hc2 : ((w.alloc (.cells #[.int .i64 1, .int .i64 n, .string ⟨#[]⟩, .complex .f64 0 0] 25)).alloc (.cells #[.int .i64 0, .int .i64 0, .string ⟨#[]⟩, .complex .f64 0 0] 112)).heap[w.heap.size + 1]? = some (.cells zero4 112 (0, 0)) := by
    rw [← hA]; exact heap_alloc_new _ _
  have HC2 := Lib.hid hc2
  clear hA hc2
  unfold vN
  go_enter Tryz.func62, Tryz.ntmps62
  go_wp2_with (refine nw_store_row _ rfl 112 (.tmp 2) (.tmp 11) rfl (w.heap.size + 1) 112 (cells4 1 n ⟨#[]⟩ 0 0) zero4 rfl rfl HC2.out rfl (Tryz.size112 _ rfl) (one4 _ _ _ _ _) ?_)
  refine bodyPost_ret (v := vN n) (nz_result1 (show Tryz.f62.results = #[.cell 2 112] from rfl) _ _ (w.heap.size + 1) 112 (cells4 1 n ⟨#[]⟩ 0 0) _ rfl (setRow_here _ _ _ _ _ HC2.out) (Tryz.size112 _ rfl) Tryz.st112) rfl ⟨rfl, ?_⟩
  exact below_setRow (((Below.refl _ w).alloc (Nat.le_refl _) _).alloc (by simp) _) (by omega) _
set_option maxHeartbeats 1000000 in
theorem Tryz.ofAll {w : World} (g m c : Nat) (r : List Int) (hm : r.length = m) (hm0 : 0 < m) (hr : VA w g r) (hmc : m ≤ c) (hc : c ≤ maxLen) (hm30 : m ≤ 1000000) :
    Calls Tryz.prog 35 #[.slice (some ⟨g, 0, none⟩) m c] w fun e w' => ∃ v, e = .returned v ∧ VO 112 w' w.heap.size v r ∧ Below w.heap.size w w' := by
  unfold maxLen at hc
  have HM := Lib.hid hm
  have HR := Lib.hid hr
  clear hm hr
  go_enter Tryz.func35, Tryz.ntmps35
  go_wp2_with fail
  go_loopw [3, 4] (fun v t W => ∃ i : Nat, i ≤ m ∧ t = .int .i64 i ∧ Hid (VO 112 W w.heap.size v (r.take i)) ∧ Hid (Below w.heap.size w W)) (fun _ t _ => m - (intO t).toNat)
  case atStart => exact ⟨0, Nat.zero_le _, rfl, Lib.hid (World.ownsRow_nil _ _ _ _), Lib.hid (Below.refl _ _)⟩
  case round =>
    rename World => W
    obtain ⟨i, hi, rfl, HV, HB⟩ := hrel
    by_cases hlt : i < m
    · have d2 : decide ((i : Int) < m) = true := decide_eq_true (by omega)
      have d2' : decide (i < m) = true := decide_eq_true hlt
      obtain ⟨x, hx⟩ : ∃ x, r[i]? = some x := ⟨_, List.getElem?_eq_getElem (by rw [HM.out]; exact hlt)⟩
      obtain ⟨e1, e2, e3, e4⟩ := (HR.out.below HB.out) i x hx
      have HT : Hid (r.take (i + 1) = r.take i ++ [x]) := Lib.hid (by rw [List.take_add_one, hx]; rfl)
      have hv := Tryz.ofN x W
      unfold vN at hv
      have HF := Lib.hid hv
      clear hx hv
      go_wp2_with fail
      refine HF.out.mono ?_
      rintro e W1 ⟨rfl, b1⟩
      have B1 := Lib.hid (HB.out.trans (b1.mono HB.out.size))
      have O1 := Lib.hid (own_below HV.out b1)
      have hsv := HV.out
      clear b1 hsv
      have O2 := Lib.hid (O1.out.alloc (.cells #[.int .i64 1, .int .i64 x, .string ⟨#[]⟩, .complex .f64 0 0] 112))
      have C2 := Lib.hid (one_cells W1 112 x)
      have hl : (r.take i).length = i := by rw [List.length_take, HM.out]; omega
      have HL := Lib.hid hl
      clear hl
      go_wp2_with (at_builtin; refine wpList_app Tryz.E79 rfl (.tmp 11) (.tmp 17) rfl w.heap.size _ (r.take i).length (flat (r.take i)) rfl O2.out W1.heap.size 1 1 (vc x) rfl rfl C2.out (vc_one x) (by have := HL.out; omega) (by have := B1.out.size; simp; omega) ?_)
      intro v3 w3 o3 g3
      have O3 : Hid (VO 112 w3 w.heap.size v3 (r.take (i + 1))) := Lib.hid (by rw [HT.out]; exact VO.push (by rw [List.length_take]; exact o3))
      have B3 : Hid (Below w.heap.size w w3) := Lib.hid ((B1.out.alloc B1.out.size _).grown g3 (by have := B1.out.size; simp; omega) fun k hk => (O1.out.lt k hk).1)
      clear o3 g3 O2 C2 O1
      go_wp2_with fail
      exact ⟨⟨i + 1, by omega, rfl, O3, B3⟩, by simp [intO]; omega⟩
    · obtain rfl : i = m := by omega
      have d1 : decide ((i : Int) < i) = false := by simp
      have d2 : decide (i < i) = false := by simp
      have HV2 := HV.out
      rw [show r.take i = r by rw [← HM.out, List.take_length]] at HV2
      have HV3 := Lib.hid HV2
      clear HV2
      go_wp2_with fail
      go_ret
      exact ⟨_, rfl, HV3.out, HB.out⟩
end Go.Proofs.YtcogajgikmcfpaaGreatDoor
end

section
namespace Go.Proofs.YtcogajgikmcfpaaGreatDoor
open Go.RowKit Go.NW Go.NR
set_option maxRecDepth 100000
set_option maxHeartbeats 1000000 in
theorem Tryz.ofRows {w : World} (G N C : Nat) (R : List (List Int)) (hN : R.length = N) (hR : RA w G R) (hi : GR R) (hcnt : cnt R ≤ 1000000) (hNC : N ≤ C) (hC : C ≤ maxLen) :
    Calls Tryz.prog 15 #[.slice (some ⟨G, 0, none⟩) N C] w fun e w' => ∃ v svs, e = .returned v ∧ WR 79 112 w' w.heap.size v R svs ∧ Below w.heap.size w w' := by
  unfold maxLen at hC
  have hcg := cnt_ge R hi
  have hN30 : N ≤ 1000000 := by rw [← hN]; omega
  have HCG := Lib.hid hcg.2
  have HCN := Lib.hid hcnt
  have HN := Lib.hid hN
  have HR := Lib.hid hR
  have HG := Lib.hid hi
  clear hN hR hi hcg hcnt
  go_enter Tryz.func15, Tryz.ntmps15
  go_wp2_with fail
  go_loopw [3, 4] (fun v t W => ∃ (i : Nat) (svs : List Value), i ≤ N ∧ t = .int .i64 i ∧ Hid (WR 79 112 W w.heap.size v (R.take i) svs) ∧ Hid (Below w.heap.size w W)) (fun _ t _ => N - (intO t).toNat)
  case atStart => exact ⟨0, [], Nat.zero_le _, rfl, Lib.hid (WR.nil _ _ _ _), Lib.hid (Below.refl _ _)⟩
  case round =>
    rename World => W
    obtain ⟨i, svs, hi, rfl, HV, HB⟩ := hrel
    by_cases hlt : i < N
    · have d2 : decide ((i : Int) < N) = true := decide_eq_true (by omega)
      have d2' : decide (i < N) = true := decide_eq_true hlt
      obtain ⟨r, hr⟩ : ∃ r, R[i]? = some r := ⟨_, List.getElem?_eq_getElem (by rw [HN.out]; exact hlt)⟩
      obtain ⟨g, c, hc, hrc, hcm, hva⟩ := (HR.out.below HB.out) i r hr
      have hrm := List.mem_of_getElem? hr
      have hr0 := (HG.out r hrm).1
      have hrl : r.length ≤ 1000000 := Nat.le_trans (HCG.out r hrm) HCN.out
      have HT : Hid (R.take (i + 1) = R.take i ++ [r]) := Lib.hid (by rw [List.take_add_one, hr]; rfl)
      obtain ⟨m, hm⟩ : ∃ m, r.length = m := ⟨_, rfl⟩
      rw [hm] at hc hrc hrl
      have hm0 : 0 < m := by
        rw [← hm]
        cases r with
        | nil => exact absurd rfl hr0
        | cons a b => simp
      have hv := Tryz.ofAll (w := W) g m c r hm hm0 hva hrc hcm hrl
      have HF := Lib.hid hv
      have HR0 := Lib.hid hr0
      have HM := Lib.hid hm
      unfold maxLen at hcm
      clear hv hva hr hm hrm hr0
      go_wp2_with fail
      refine HF.out.mono ?_
      rintro e W1 ⟨sv, rfl, o1, b1⟩
      have F1 := Lib.hid (HV.out.apart_new o1)
      obtain ⟨sg, sc, rfl⟩ : ∃ sg sc, sv = .slice (some ⟨sg, 0, none⟩) m sc := by
        obtain ⟨sg, sc, e, _⟩ := o1.va HR0.out
        exact ⟨sg, sc, by rw [e, HM.out]⟩
      have B1 := Lib.hid (HB.out.trans (b1.mono HB.out.size))
      have O1 : Hid (VO 112 W1 w.heap.size (.slice (some ⟨sg, 0, none⟩) m sc) r) := Lib.hid (own_mono o1 HB.out.size)
      have W1' : Hid (WR 79 112 W1 w.heap.size _ (R.take i) svs) := Lib.hid (HV.out.below b1)
      clear b1 o1
      have W2 := Lib.hid (W1'.out.below ((Below.refl _ W1).alloc (Nat.le_refl _) (.cells #[.slice (some ⟨sg, 0, none⟩) m sc] 79)))
      have O2 : Hid (VO 112 (W1.alloc (.cells #[.slice (some ⟨sg, 0, none⟩) m sc] 79)) w.heap.size (.slice (some ⟨sg, 0, none⟩) m sc) r) := Lib.hid (O1.out.alloc _)
      have C2 := Lib.hid (one_cell W1 79 (.slice (some ⟨sg, 0, none⟩) m sc))
      have hsl : svs.length = i := by rw [HV.out.len, List.length_take, HN.out]; omega
      have HSL := Lib.hid hsl
      clear hsl
      go_wp2_with (at_builtin; refine wpList_app Tryz.E51 rfl (.tmp 11) (.tmp 17) rfl w.heap.size _ svs.length svs rfl W2.out.own W1.heap.size 1 1 [.slice (some ⟨sg, 0, none⟩) m sc] rfl rfl C2.out (by intro u hu; simp at hu; subst hu; rfl) (by have := HSL.out; omega) (by have := B1.out.size; simp; omega) ?_)
      intro v3 w3 o3 g3
      have O3 : Hid (WR 79 112 w3 w.heap.size v3 (R.take (i + 1)) (svs ++ [.slice (some ⟨sg, 0, none⟩) m sc])) := Lib.hid (by rw [HT.out]; exact W2.out.push O2.out F1.out o3 g3 (by decide))
      have B3 : Hid (Below w.heap.size w w3) := Lib.hid ((B1.out.alloc B1.out.size _).grown g3 (by have := B1.out.size; simp; omega) fun k hk => (W1'.out.own.lt k hk).1)
      clear o3 g3 O2 C2 O1
      go_wp2_with fail
      exact ⟨⟨i + 1, _, by omega, rfl, O3, B3⟩, by simp [intO]; omega⟩
    · obtain rfl : i = N := by omega
      have d1 : decide ((i : Int) < i) = false := by simp
      have d2 : decide (i < i) = false := by simp
      have HV2 := HV.out
      rw [show R.take i = R by rw [← HN.out, List.take_length]] at HV2
      have HV3 := Lib.hid HV2
      clear HV2
      go_wp2_with fail
      go_ret
      exact ⟨_, svs, rfl, HV3.out, HB.out⟩
abbrev AtN (w : World) (g k : Nat) (x : Int) : Prop := w.cell? ⟨g, k * 4, none⟩ = some (.int .i64 1) ∧ w.cell? ⟨g, k * 4 + 1, none⟩ = some (.int .i64 x) ∧ w.cell? ⟨g, k * 4 + 2, none⟩ = some (.string ⟨#[]⟩) ∧ w.cell? ⟨g, k * 4 + 3, none⟩ = some (.complex .f64 0 0)
set_option maxHeartbeats 1000000 in
theorem Tryz.same34 {w : World} (g m c g2 c2 : Nat) (r : List Int) (hm : r.length = m) (hr : VA w g r) (hr2 : VA w g2 r) (hmc : m ≤ c) (hc : c ≤ maxLen) (hmc2 : m ≤ c2) (hc2 : c2 ≤ maxLen) :
    Calls Tryz.prog 34 #[.slice (some ⟨g, 0, none⟩) m c, .slice (some ⟨g2, 0, none⟩) m c2] w fun e w' => e = .returned (.bool true) ∧ Below w.heap.size w w' := by
  unfold maxLen at hc hc2
  have HM := Lib.hid hm
  have HA := Lib.hid hr
  have HA2 := Lib.hid hr2
  have HF := Lib.hid (fun x : Int => Tryz.ofN x)
  clear hm hr hr2
  go_enter Tryz.func34, Tryz.ntmps34
  go_wp2_with fail
  go_loopw [5] (fun t W => ∃ i : Nat, i ≤ m ∧ t = .int .i64 i ∧ Hid (Below w.heap.size w W)) (fun t _ => m - (intO t).toNat)
  case atStart => exact ⟨0, Nat.zero_le _, rfl, Lib.hid (Below.refl _ _)⟩
  case round =>
    rename World => W
    obtain ⟨k, hk, rfl, HB⟩ := hrel
    by_cases hlt : k < m
    · have d2 : decide ((k : Int) < m) = true := decide_eq_true (by omega)
      have d2' : decide (k < m) = true := decide_eq_true hlt
      obtain ⟨x, hx⟩ : ∃ x, r[k]? = some x := ⟨_, List.getElem?_eq_getElem (by rw [HM.out]; exact hlt)⟩
      have HX := Lib.hid hx
      have hne := neq112 x
      have hgd := guardN
      have HF := Lib.hid (HF.out x)
      unfold vN at hne HF
      clear hx
      go_wp2_with fail
      refine wp_region_noPanic ?_
      refine wp_region_held_drew (S := (fun W => AtN W g k x ∧ AtN W g2 k x)) (by kernel_rfl) ?_ (fun hHeld => ?_)
      · exact ⟨(HA.out.below HB.out) k x HX.out, (HA2.out.below HB.out) k x HX.out⟩
      refine wpAnyH_take (i := 0) (oi := { dst := some 17, op := Op.move (Operand.tmp 0), type := 46, pos := "law.go:53", after := #[], guard := none }) (v := ?_) rfl (by kernel_rfl) (by kernel_rfl) (by kernel_rfl) (fun _ _ _ h => h) (Or.inl ⟨by rfl, ?_⟩) (by assumption) ?_
      rotate_left
      · (intro w hSw; (try dsimp only at hSw); go_simp; try with_reducible rfl)
      try simp only [Act.put, List.setIfInBounds_toArray, List.set_cons_zero, List.set_cons_succ]
      refine wpAnyH_take (i := 1) (oi := { dst := some 18, op := Op.move (Operand.tmp 5), type := 3, pos := "law.go:53", after := #[], guard := none }) (v := ?_) rfl (by kernel_rfl) (by kernel_rfl) (by kernel_rfl) (fun _ _ _ h => h) (Or.inl ⟨by rfl, ?_⟩) (by assumption) ?_
      rotate_left
      · (intro w hSw; (try dsimp only at hSw); go_simp; try with_reducible rfl)
      try simp only [Act.put, List.setIfInBounds_toArray, List.set_cons_zero, List.set_cons_succ]
      refine wpAnyH_take (i := 2) (oi := { dst := some 19, op := Op.indexAddr 46 (Operand.tmp 17) (Operand.tmp 18), type := 0, pos := "law.go:53", after := #[{ on := 0, ground := Ground.data }, { on := 1, ground := Ground.data }], guard := none }) (v := ?_) rfl (by kernel_rfl) (by kernel_rfl) (by kernel_rfl) (fun _ _ _ h => h) (Or.inl ⟨by rfl, ?_⟩) (by assumption) ?_
      rotate_left
      · (intro w hSw; (try dsimp only at hSw); go_simp; try with_reducible rfl)
      try simp only [Act.put, List.setIfInBounds_toArray, List.set_cons_zero, List.set_cons_succ]
      refine wpAnyH_take (i := 3) (oi := { dst := some 20, op := Op.load 25 (Operand.tmp 19), type := 25, pos := "law.go:53", after := #[{ on := 2, ground := Ground.data }], guard := none }) (v := ?_) rfl (by kernel_rfl) (by kernel_rfl) (by kernel_rfl) (fun _ _ _ h => h) (Or.inl ⟨by rfl, ?_⟩) (by assumption) ?_
      rotate_left
      · (intro w hSw; (try dsimp only at hSw); obtain ⟨⟨p1, p2, p3, p4⟩, _⟩ := hSw; go_simp; try with_reducible rfl)
      try simp only [Act.put, List.setIfInBounds_toArray, List.set_cons_zero, List.set_cons_succ]
      refine wpAnyH_take (i := 5) (oi := { dst := some 22, op := Op.move (Operand.tmp 1), type := 79, pos := "law.go:53", after := #[], guard := none }) (v := ?_) rfl (by kernel_rfl) (by kernel_rfl) (by kernel_rfl) (fun _ _ _ h => h) (Or.inl ⟨by rfl, ?_⟩) (by assumption) ?_
      rotate_left
      · (intro w hSw; (try dsimp only at hSw); go_simp; try with_reducible rfl)
      try simp only [Act.put, List.setIfInBounds_toArray, List.set_cons_zero, List.set_cons_succ]
      refine wpAnyH_take (i := 6) (oi := { dst := some 23, op := Op.move (Operand.tmp 5), type := 3, pos := "law.go:53", after := #[], guard := none }) (v := ?_) rfl (by kernel_rfl) (by kernel_rfl) (by kernel_rfl) (fun _ _ _ h => h) (Or.inl ⟨by rfl, ?_⟩) (by assumption) ?_
      rotate_left
      · (intro w hSw; (try dsimp only at hSw); go_simp; try with_reducible rfl)
      try simp only [Act.put, List.setIfInBounds_toArray, List.set_cons_zero, List.set_cons_succ]
      refine wpAnyH_take (i := 7) (oi := { dst := some 24, op := Op.indexAddr 79 (Operand.tmp 22) (Operand.tmp 23), type := 0, pos := "law.go:53", after := #[{ on := 5, ground := Ground.data }, { on := 6, ground := Ground.data }], guard := none }) (v := ?_) rfl (by kernel_rfl) (by kernel_rfl) (by kernel_rfl) (fun _ _ _ h => h) (Or.inl ⟨by rfl, ?_⟩) (by assumption) ?_
      rotate_left
      · (intro w hSw; (try dsimp only at hSw); go_simp; try with_reducible rfl)
      try simp only [Act.put, List.setIfInBounds_toArray, List.set_cons_zero, List.set_cons_succ]
      refine wpAnyH_take (i := 8) (oi := { dst := some 25, op := Op.load 112 (Operand.tmp 24), type := 112, pos := "law.go:53", after := #[{ on := 7, ground := Ground.data }], guard := none }) (v := ?_) rfl (by kernel_rfl) (by kernel_rfl) (by kernel_rfl) (fun _ _ _ h => h) (Or.inl ⟨by rfl, ?_⟩) (by assumption) ?_
      rotate_left
      · (intro w hSw; (try dsimp only at hSw); obtain ⟨_, p1, p2, p3, p4⟩ := hSw; go_simp; try with_reducible rfl)
      try simp only [Act.put, List.setIfInBounds_toArray, List.set_cons_zero, List.set_cons_succ]
      refine wpAnyH_ready (rs := [4]) (by kernel_rfl) (by simp) ?_
      refine AllReadyH.cons (o := { dst := some 21, op := Op.call { callee := Callee.value (Operand.func 62), args := #[Operand.tmp 20], argTypes := #[25] }, type := 112, pos := "law.go:53", after := #[{ on := 3, ground := Ground.data }], guard := none }) rfl (fun K hK => ?_) AllReadyH.nil
      go_simp
      refine (HF.out _).mono ?_
      rintro e V1 ⟨rfl, hb⟩
      have hb2 : Below W.heap.size W V1 := ⟨hb.os, hb.tape, hb.output, hb.size, hb.block⟩
      have B1 := Lib.hid (HB.out.trans (hb2.mono HB.out.size))
      clear hb hb2
      refine hK.out _ _ ?_ (fun hHeld => ?_)
      · exact ⟨(HA.out.below B1.out) k x HX.out, (HA2.out.below B1.out) k x HX.out⟩
      clear hK K
      try simp only [Act.put, List.setIfInBounds_toArray, List.set_cons_zero, List.set_cons_succ]
      refine wpAnyH_take (i := 9) (oi := { dst := some 26, op := Op.binOp BinOp.neq 112 (Operand.tmp 21) (Operand.tmp 25) 112, type := 4, pos := "law.go:53", after := #[{ on := 4, ground := Ground.data }, { on := 8, ground := Ground.data }], guard := none }) (v := ?_) rfl (by kernel_rfl) (by kernel_rfl) (by kernel_rfl) (fun _ _ _ h => h) (Or.inl ⟨by rfl, ?_⟩) (by assumption) ?_
      rotate_left
      · (intro w hSw; (try dsimp only at hSw); go_simp; try with_reducible rfl)
      try simp only [Act.put, List.setIfInBounds_toArray, List.set_cons_zero, List.set_cons_succ]
      refine wpAnyH_done (by kernel_rfl) ?_ _
      refine NoPanic.normal ?_
      go_wp2_with fail
      exact ⟨⟨k + 1, by omega, rfl, B1⟩, by simp [intO]; omega⟩
    · obtain rfl : k = m := by omega
      have d1 : decide ((k : Int) < k) = false := by simp
      have d2 : decide (k < k) = false := by simp
      go_wp2_with fail
      go_ret
      exact ⟨rfl, HB.out⟩
set_option maxHeartbeats 1000000 in
theorem Tryz.sameRows {w : World} (G N C G2 C2 : Nat) (R : List (List Int)) (hN : R.length = N) (hR : RA w G R) (hR2 : RA w G2 R) (hNC : N ≤ C) (hC : C ≤ maxLen) (hNC2 : N ≤ C2) (hC2 : C2 ≤ maxLen) :
    Calls Tryz.prog 14 #[.slice (some ⟨G, 0, none⟩) N C, .slice (some ⟨G2, 0, none⟩) N C2] w fun e w' => e = .returned (.bool true) ∧ Below w.heap.size w w' := by
  unfold maxLen at hC hC2
  have HN := Lib.hid hN
  have HA := Lib.hid hR
  have HA2 := Lib.hid hR2
  clear hN hR hR2
  go_enter Tryz.func14, Tryz.ntmps14
  go_wp2_with fail
  go_loopw [5] (fun t W => ∃ i : Nat, i ≤ N ∧ t = .int .i64 i ∧ Hid (Below w.heap.size w W)) (fun t _ => N - (intO t).toNat)
  case atStart => exact ⟨0, Nat.zero_le _, rfl, Lib.hid (Below.refl _ _)⟩
  case round =>
    rename World => W
    obtain ⟨i, hi, rfl, HB⟩ := hrel
    by_cases hlt : i < N
    · have d2 : decide ((i : Int) < N) = true := decide_eq_true (by omega)
      have d2' : decide (i < N) = true := decide_eq_true hlt
      obtain ⟨r, hr⟩ : ∃ r, R[i]? = some r := ⟨_, List.getElem?_eq_getElem (by rw [HN.out]; exact hlt)⟩
      obtain ⟨g, c, k1, k2, k3, k4⟩ := HA.out i r hr
      obtain ⟨g2, c2, l1, l2, l3, l4⟩ := HA2.out i r hr
      obtain ⟨m, hm⟩ : ∃ m, r.length = m := ⟨_, rfl⟩
      rw [hm] at k1 k2 l1 l2
      have HL1 := Lib.hid (block_lt_of_cell k1)
      have HL2 := Lib.hid (block_lt_of_cell l1)
      have HC1 := Lib.hid k1
      have HC2 := Lib.hid l1
      have HF : Hid (∀ W1, Below w.heap.size w W1 → Calls Tryz.prog 34 #[.slice (some ⟨g, 0, none⟩) m c, .slice (some ⟨g2, 0, none⟩) m c2] W1 fun e w' => e = .returned (.bool true) ∧ Below W1.heap.size W1 w') := Lib.hid fun W1 h1 => Tryz.same34 g m c g2 c2 r hm (k4.below h1) (l4.below h1) k2 k3 l2 l3
      have B0 : Hid (Below w.heap.size w W.drew) := Lib.hid ⟨HB.out.os, HB.out.tape, HB.out.output, HB.out.size, HB.out.block⟩
      unfold maxLen at k3 l3
      clear k1 k4 l1 l4 hr hm
      go_wp2_with fail
      refine wp_region_noPanic ?_
      refine wp_region_held_drew (S := (fun W => W.cell? ⟨G, i, none⟩ = some (.slice (some ⟨g, 0, none⟩) m c) ∧ W.cell? ⟨G2, i, none⟩ = some (.slice (some ⟨g2, 0, none⟩) m c2))) (by kernel_rfl) ?_ (fun hHeld => ?_)
      · exact ⟨(HB.out.cell (p := ⟨G, i, none⟩) HL1.out).trans HC1.out, (HB.out.cell (p := ⟨G2, i, none⟩) HL2.out).trans HC2.out⟩
      refine wpAnyH_take (i := 0) (oi := { dst := some 17, op := Op.move (Operand.tmp 0), type := 36, pos := "law.go:66", after := #[], guard := none }) (v := ?_) rfl (by kernel_rfl) (by kernel_rfl) (by kernel_rfl) (fun _ _ _ h => h) (Or.inl ⟨by rfl, ?_⟩) (by assumption) ?_
      rotate_left
      · (intro w hSw; (try dsimp only at hSw); go_simp; try with_reducible rfl)
      try simp only [Act.put, List.setIfInBounds_toArray, List.set_cons_zero, List.set_cons_succ]
      refine wpAnyH_take (i := 1) (oi := { dst := some 18, op := Op.move (Operand.tmp 5), type := 3, pos := "law.go:66", after := #[], guard := none }) (v := ?_) rfl (by kernel_rfl) (by kernel_rfl) (by kernel_rfl) (fun _ _ _ h => h) (Or.inl ⟨by rfl, ?_⟩) (by assumption) ?_
      rotate_left
      · (intro w hSw; (try dsimp only at hSw); go_simp; try with_reducible rfl)
      try simp only [Act.put, List.setIfInBounds_toArray, List.set_cons_zero, List.set_cons_succ]
      refine wpAnyH_take (i := 2) (oi := { dst := some 19, op := Op.indexAddr 36 (Operand.tmp 17) (Operand.tmp 18), type := 0, pos := "law.go:66", after := #[{ on := 0, ground := Ground.data }, { on := 1, ground := Ground.data }], guard := none }) (v := ?_) rfl (by kernel_rfl) (by kernel_rfl) (by kernel_rfl) (fun _ _ _ h => h) (Or.inl ⟨by rfl, ?_⟩) (by assumption) ?_
      rotate_left
      · (intro w hSw; (try dsimp only at hSw); go_simp; try with_reducible rfl)
      try simp only [Act.put, List.setIfInBounds_toArray, List.set_cons_zero, List.set_cons_succ]
      refine wpAnyH_take (i := 3) (oi := { dst := some 20, op := Op.load 46 (Operand.tmp 19), type := 46, pos := "law.go:66", after := #[{ on := 2, ground := Ground.data }], guard := none }) (v := ?_) rfl (by kernel_rfl) (by kernel_rfl) (by kernel_rfl) (fun _ _ _ h => h) (Or.inl ⟨by rfl, ?_⟩) (by assumption) ?_
      rotate_left
      · (intro w hSw; (try dsimp only at hSw); obtain ⟨p1, _⟩ := hSw; go_simp; try with_reducible rfl)
      try simp only [Act.put, List.setIfInBounds_toArray, List.set_cons_zero, List.set_cons_succ]
      refine wpAnyH_take (i := 4) (oi := { dst := some 21, op := Op.move (Operand.tmp 1), type := 51, pos := "law.go:66", after := #[], guard := none }) (v := ?_) rfl (by kernel_rfl) (by kernel_rfl) (by kernel_rfl) (fun _ _ _ h => h) (Or.inl ⟨by rfl, ?_⟩) (by assumption) ?_
      rotate_left
      · (intro w hSw; (try dsimp only at hSw); go_simp; try with_reducible rfl)
      try simp only [Act.put, List.setIfInBounds_toArray, List.set_cons_zero, List.set_cons_succ]
      refine wpAnyH_take (i := 5) (oi := { dst := some 22, op := Op.move (Operand.tmp 5), type := 3, pos := "law.go:66", after := #[], guard := none }) (v := ?_) rfl (by kernel_rfl) (by kernel_rfl) (by kernel_rfl) (fun _ _ _ h => h) (Or.inl ⟨by rfl, ?_⟩) (by assumption) ?_
      rotate_left
      · (intro w hSw; (try dsimp only at hSw); go_simp; try with_reducible rfl)
      try simp only [Act.put, List.setIfInBounds_toArray, List.set_cons_zero, List.set_cons_succ]
      refine wpAnyH_take (i := 6) (oi := { dst := some 23, op := Op.indexAddr 51 (Operand.tmp 21) (Operand.tmp 22), type := 0, pos := "law.go:66", after := #[{ on := 4, ground := Ground.data }, { on := 5, ground := Ground.data }], guard := none }) (v := ?_) rfl (by kernel_rfl) (by kernel_rfl) (by kernel_rfl) (fun _ _ _ h => h) (Or.inl ⟨by rfl, ?_⟩) (by assumption) ?_
      rotate_left
      · (intro w hSw; (try dsimp only at hSw); go_simp; try with_reducible rfl)
      try simp only [Act.put, List.setIfInBounds_toArray, List.set_cons_zero, List.set_cons_succ]
      refine wpAnyH_take (i := 7) (oi := { dst := some 24, op := Op.load 79 (Operand.tmp 23), type := 79, pos := "law.go:66", after := #[{ on := 6, ground := Ground.data }], guard := none }) (v := ?_) rfl (by kernel_rfl) (by kernel_rfl) (by kernel_rfl) (fun _ _ _ h => h) (Or.inl ⟨by rfl, ?_⟩) (by assumption) ?_
      rotate_left
      · (intro w hSw; (try dsimp only at hSw); obtain ⟨_, p1⟩ := hSw; go_simp; try with_reducible rfl)
      try simp only [Act.put, List.setIfInBounds_toArray, List.set_cons_zero, List.set_cons_succ]
      refine wpAnyH_ready (rs := [8]) (by kernel_rfl) (by simp) ?_
      refine AllReadyH.cons (o := { dst := some 25, op := Op.call { callee := Callee.value (Operand.func 34), args := #[Operand.tmp 20, Operand.tmp 24], argTypes := #[46, 79] }, type := 4, pos := "law.go:66", after := #[{ on := 3, ground := Ground.data }, { on := 7, ground := Ground.data }], guard := none }) rfl (fun K hK => ?_) AllReadyH.nil
      go_simp
      refine (HF.out _ B0.out).mono ?_
      rintro e V1 ⟨rfl, hb⟩
      have hb2 : Below W.heap.size W V1 := ⟨hb.os, hb.tape, hb.output, hb.size, hb.block⟩
      have B1 := Lib.hid (HB.out.trans (hb2.mono HB.out.size))
      clear hb hb2
      refine hK.out _ _ ?_ (fun hHeld => ?_)
      · exact ⟨(B1.out.cell (p := ⟨G, i, none⟩) HL1.out).trans HC1.out, (B1.out.cell (p := ⟨G2, i, none⟩) HL2.out).trans HC2.out⟩
      clear hK K
      try simp only [Act.put, List.setIfInBounds_toArray, List.set_cons_zero, List.set_cons_succ]
      refine wpAnyH_take (i := 9) (oi := { dst := some 26, op := Op.unOp UnOp.not 4 (Operand.tmp 25), type := 4, pos := "law.go:66", after := #[{ on := 8, ground := Ground.data }], guard := none }) (v := ?_) rfl (by kernel_rfl) (by kernel_rfl) (by kernel_rfl) (fun _ _ _ h => h) (Or.inl ⟨by rfl, ?_⟩) (by assumption) ?_
      rotate_left
      · (intro w hSw; (try dsimp only at hSw); go_simp; try with_reducible rfl)
      try simp only [Act.put, List.setIfInBounds_toArray, List.set_cons_zero, List.set_cons_succ]
      refine wpAnyH_done (by kernel_rfl) ?_ _
      refine NoPanic.normal ?_
      go_wp2_with fail
      exact ⟨⟨i + 1, by omega, rfl, B1⟩, by simp [intO]; omega⟩
    · obtain rfl : i = N := by omega
      have d1 : decide ((i : Int) < i) = false := by simp
      have d2 : decide (i < i) = false := by simp
      go_wp2_with fail
      go_ret
      exact ⟨rfl, HB.out⟩
end Go.Proofs.YtcogajgikmcfpaaGreatDoor
end

section
namespace Go.Proofs.YtcogajgikmcfpaaGreatDoor
open Go.RowKit Go.NW Go.NR
set_option maxRecDepth 100000
theorem WR.last {te t : TypeId} {w w1 w2 : World} {B G n c : Nat} {v3 sv : Value} {R : List (List Int)} {r : List Int} {x : Int} {svs : List Value} {d : Nat} (h : WR te t w B (.slice (some ⟨G, 0, none⟩) n c) (R ++ [r]) (svs ++ [sv])) (hd : svs.length = d)
    (hb : Below w.heap.size w w1) (ho : VO t w2 B v3 (r ++ [x])) (hg : w1.grownBy w2 sv.ownBlock) (hwh : ∀ k, v3.ownBlock = some k → sv.ownBlock = some k ∨ w1.heap.size ≤ k) (hte : te ≠ t) :
    WR te t (w2.setCell ⟨G, d, none⟩ v3) B (.slice (some ⟨G, 0, none⟩) n c) (R ++ [r ++ [x]]) (svs ++ [v3]) := by
  subst hd
  have hl : svs.length = R.length := by have := h.len; simpa using this
  have hn : n = svs.length + 1 := by
    have h1 := own_len h.own
    simpa [lenV] using h1
  have hV : VO t w B sv r := h.row R.length r sv (by simp) (by rw [← hl]; simp)
  have hout := h.own
  have hGsv : ∀ k, sv.ownBlock = some k → k ≠ G := fun k hk e => own_ne hout hV hte G rfl (by rw [hk, e])
  have hapart := h.apart
  rw [List.pairwise_append] at hapart
  have own1 : w1.ownsRow B te 1 (.slice (some ⟨G, 0, none⟩) n c) (svs ++ [sv]).length (svs ++ [sv]) := own_below hout hb
  have own2 : w2.ownsRow B te 1 (.slice (some ⟨G, 0, none⟩) n c) (svs ++ [sv]).length (svs ++ [sv]) := own1.kept hg (.inr fun e => hGsv G e.symm rfl)
  have hlen : (svs ++ [sv]).length = n := by rw [hn]; simp
  rw [hlen] at own2
  have st := own2.stored svs.length v3
  have hset : (svs ++ [sv]).set svs.length v3 = svs ++ [v3] := by simp
  rw [hset] at st
  have keepS : ∀ y q, VO t w2 B y q → VO t (w2.setCell ⟨G, svs.length, none⟩ v3) B y q := fun y q hy => World.ownsRow.kept hy st.2 (by
    rcases hb : y.ownBlock with _ | k
    · exact .inl rfl
    · exact .inr fun e => own_ne own2 hy hte k e.symm hb)
  have hx : ∀ y ∈ svs, ∀ k, y.ownBlock = some k → k < w.heap.size ∧ sv.ownBlock ≠ some k := fun y hy k hk => by
    obtain ⟨q, _, hq⟩ := h.mem (List.mem_append_left _ hy)
    exact ⟨(World.ownsRow.lt hq k hk).2, hapart.2.2 y hy sv (by simp) k hk⟩
  refine ⟨by have := st.1; simpa [hn] using this, by simp [hl], fun i q y hi hy => ?_, ?_⟩
  · by_cases hlt : i < R.length
    · rw [List.getElem?_append_left hlt] at hi
      rw [List.getElem?_append_left (by omega)] at hy
      have h1 : VO t w B y q := h.row i q y (by rw [List.getElem?_append_left hlt]; exact hi) (by rw [List.getElem?_append_left (by omega)]; exact hy)
      refine keepS y q (World.ownsRow.kept (own_below h1 hb) hg ?_)
      rcases hb : y.ownBlock with _ | k
      · exact .inl rfl
      · exact .inr fun e => (hx y (List.mem_of_getElem? hy) k hb).2 e.symm
    · have hlt2 := (List.getElem?_eq_some_iff.1 hi).1
      simp at hlt2
      obtain rfl : i = R.length := by omega
      rw [List.getElem?_append_right (Nat.le_refl _)] at hi
      rw [List.getElem?_append_right (by omega), hl] at hy
      simp at hi hy
      subst hi
      subst hy
      exact keepS _ _ ho
  · rw [List.pairwise_append]
    refine ⟨hapart.1, List.pairwise_singleton _ _, fun y hy z hz k hk hk2 => ?_⟩
    simp at hz
    subst hz
    obtain ⟨h1, h2⟩ := hx y hy k hk
    rcases hwh k hk2 with e | e
    · exact h2 e
    · have := hb.size; omega
end Go.Proofs.YtcogajgikmcfpaaGreatDoor
end

section
namespace Go.Proofs.YtcogajgikmcfpaaGreatDoor
open Go.RowKit Go.NW
set_option maxRecDepth 100000
def hv (c : UInt8) : Int := Lib.indexByte [48, 49, 50, 51, 52, 53, 54, 55, 56, 57, 97, 98, 99, 100, 101, 102] c
theorem hv_all : ∀ n, n < 256 → hv (UInt8.ofNat n) = -1 ∨ (0 ≤ hv (UInt8.ofNat n) ∧ hv (UInt8.ofNat n) < 16) := by decide +kernel
theorem hv_range (c : UInt8) : hv c = -1 ∨ ∃ p : Nat, p < 16 ∧ hv c = p := by
  have h := hv_all c.toNat c.toNat_lt
  rw [UInt8.ofNat_toNat] at h
  rcases h with h | ⟨h1, h2⟩
  · exact .inl h
  · exact .inr ⟨(hv c).toNat, by omega, by omega⟩
def byteOf (a b : UInt8) : UInt8 := UInt8.ofNat ((hv a).toNat * 16 + (hv b).toNat)
def unhex : List UInt8 → Option (List UInt8)
  | [] => some []
  | [_] => none
  | a :: b :: r => if hv a < 0 ∨ hv b < 0 then none else (unhex r).map (byteOf a b :: ·)
theorem unhex_app : ∀ (k : Nat) (p r : List UInt8), p.length = 2 * k → unhex (p ++ r) = (unhex p).bind fun X => (unhex r).map (X ++ ·)
  | 0, p, r, h => by
    obtain rfl : p = [] := List.eq_nil_of_length_eq_zero (by omega)
    simp [unhex]
  | k + 1, p, r, h => by
    match p, h with
    | a :: b :: q, h =>
      simp only [List.length_cons] at h
      simp only [List.cons_append, unhex]
      rw [unhex_app k q r (by omega)]
      split
      · rfl
      · cases unhex q with
        | none => rfl
        | some X =>
          simp only [Option.bind_some, Option.map_some]
          cases unhex r <;> rfl
def pbytes (l : List UInt8) : Value × Int := if l.length % 2 = 0 then match unhex l with
    | none => (v0, 2)
    | some X => if X.length > 255 then (v0, 4) else (vS (bs X), 0)
  else (v0, 2)
theorem or16 : ∀ p, p < 16 → ∀ q, q < 16 → Go.bits .or .i64 ((p * 16 : Nat) : Int) ((q : Nat) : Int) = ((p * 16 + q : Nat) : Int) := by decide +kernel
theorem unhex_len : ∀ (l X : List UInt8), unhex l = some X → 2 * X.length = l.length
  | [], X, h => by simp [unhex] at h; subst h; rfl
  | [a], X, h => by simp [unhex] at h
  | a :: b :: r, X, h => by
    simp only [unhex] at h
    split at h
    · cases h
    · obtain ⟨Y, hY, rfl⟩ := Option.map_eq_some_iff.1 h
      have := unhex_len r Y hY
      simp only [List.length_cons]
      omega
theorem take2 (l : List UInt8) (i : Nat) (y1 y2 : UInt8) (h1 : l[i]? = some y1) (h2 : l[i + 1]? = some y2) : l = l.take i ++ (y1 :: y2 :: l.drop (i + 2)) := by
  obtain ⟨k1, e1⟩ := List.getElem?_eq_some_iff.1 h1
  obtain ⟨k2, e2⟩ := List.getElem?_eq_some_iff.1 h2
  rw [← e1, ← e2, ← List.drop_eq_getElem_cons, ← List.drop_eq_getElem_cons, List.take_append_drop]
theorem unhex_bad (l : List UInt8) (k : Nat) (y1 y2 : UInt8) (h1 : l[2 * k]? = some y1) (h2 : l[2 * k + 1]? = some y2) (h : hv y1 < 0 ∨ hv y2 < 0) : unhex l = none := by
  have k1 := (List.getElem?_eq_some_iff.1 h1).1
  rw [take2 l (2 * k) y1 y2 h1 h2, unhex_app k (l.take (2 * k)) _ (by rw [List.length_take]; omega)]
  cases unhex (l.take (2 * k)) with
  | none => rfl
  | some X => simp only [Option.bind_some, unhex, if_pos h]; rfl
theorem unhex_more (l : List UInt8) (k : Nat) (y1 y2 : UInt8) (X : List UInt8) (h1 : l[2 * k]? = some y1) (h2 : l[2 * k + 1]? = some y2) (h : ¬ (hv y1 < 0 ∨ hv y2 < 0)) (hX : unhex (l.take (2 * k)) = some X) : unhex (l.take (2 * (k + 1))) = some (X ++ [byteOf y1 y2]) := by
  have k1 := (List.getElem?_eq_some_iff.1 h1).1
  rw [show 2 * (k + 1) = 2 * k + 1 + 1 by omega, List.take_add_one, List.take_add_one, h1, h2]
  simp only [Option.toList_some, List.append_assoc, List.singleton_append]
  rw [unhex_app k (l.take (2 * k)) _ (by rw [List.length_take]; omega), hX]
  simp only [Option.bind_some, unhex, if_neg h]
  rfl
set_option maxHeartbeats 2000000 in
theorem Tryz.parseBytes (l : List UInt8) (hl : l.length < 2 ^ 40) (w : World) :
    Calls Tryz.prog 99 #[.string (bs l)] w fun e w' => e = .returned (.tuple #[(pbytes l).1, .int .i64 (pbytes l).2]) ∧ Below w.heap.size w w' := by
  have hsc := storeC
  obtain ⟨m, hm⟩ : ∃ m, m = l.length := ⟨_, rfl⟩
  have hS1 : (bs l).size = m := by rw [bs_size, hm]
  have hG := bs_get
  have HM := Lib.hid hm
  rw [← hm] at hl
  have hP : pbytes l = (if m % 2 = 0 then match unhex l with
    | none => (v0, 2)
    | some X => if X.length > 255 then (v0, 4) else (vS (bs X), 0)
  else (v0, 2) : Value × Int) := by rw [hm]; rfl
  have hmod : (m : Int).tmod 2 = ((m % 2 : Nat) : Int) := by rw [Int.tmod_eq_emod_of_nonneg (by omega)]; rfl
  clear hm
  by_cases hodd : m % 2 = 0
  · rw [if_pos hodd] at hP
    have t0 : ((m : Int) % 2) = 0 := by omega
    have HP := Lib.hid hP
    have HO := Lib.hid hodd
    generalize pbytes l = R at HP ⊢
    clear hP hodd
    go_enter Tryz.func99, Tryz.ntmps99
    go_wp2_with fail
    clear hmod t0
    have hfb := Lib.fresh_isBuilder 90 5 (w.alloc (.cells #[.int .i64 0, .int .i64 0, .string ⟨#[]⟩, .complex .f64 0 0] 25))
    have hsz1 : (w.alloc (.cells #[.int .i64 0, .int .i64 0, .string ⟨#[]⟩, .complex .f64 0 0] 25)).heap.size = w.heap.size + 1 := by simp
    rw [hsz1] at hfb
    have hbox := heap_alloc_new w (.cells #[.int .i64 0, .int .i64 0, .string ⟨#[]⟩, .complex .f64 0 0] 25)
    have B00 := (Below.refl _ w).alloc (Nat.le_refl _) (.cells #[.int .i64 0, .int .i64 0, .string ⟨#[]⟩, .complex .f64 0 0] 25)
    obtain ⟨wa, hwa⟩ : ∃ wa, wa = w.alloc (.cells #[.int .i64 0, .int .i64 0, .string ⟨#[]⟩, .complex .f64 0 0] 25) := ⟨_, rfl⟩
    have B01 : Below (w.heap.size + 1) wa (wa.alloc (.cells #[.pointer none, .slice none 0 0] 90)) := (Below.refl _ wa).alloc (by rw [hwa, hsz1]; exact Nat.le_refl _) _
    rw [← hwa] at hfb hbox B00 ⊢
    rw [← hwa] at hsz1
    have HFB := Lib.hid hfb
    have HBX := Lib.hid hbox
    have HB0 := Lib.hid B00
    have HB1 := Lib.hid B01
    have HSZ := Lib.hid hsz1
    clear hwa hfb hbox B00 B01 hsz1
    go_loopw [5] (fun t5 W => ∃ (k : Nat) (X : List UInt8), 2 * k ≤ m ∧ t5 = .int .i64 ((2 * k : Nat) : Int) ∧ Hid (unhex (l.take (2 * k)) = some X) ∧ Hid (Lib.IsBuilder 90 5 (w.heap.size + 1) (w.heap.size + 1) (Lib.byteCells X) W) ∧ Hid (Below (w.heap.size + 1) wa W)) (fun t5 _ => m - (intO t5).toNat)
    case atStart => exact ⟨0, [], Nat.zero_le _, rfl, Lib.hid (by simp [unhex]), Lib.hid (by simpa [Lib.byteCells] using HFB.out), HB1⟩
    case round =>
      rename World => W
      obtain ⟨k, X, hk, rfl, HX, HI, HB⟩ := hrel
      obtain ⟨i, hi⟩ : ∃ i, i = 2 * k := ⟨_, rfl⟩
      have hcell : W.heap[w.heap.size]? = some (.cells #[.int .i64 0, .int .i64 0, .string ⟨#[]⟩, .complex .f64 0 0] 25 (0, 0)) := (HB.out.block _ (Nat.lt_succ_self _)).trans HBX.out
      have HBW : Hid (Below w.heap.size w W) := Lib.hid (HB0.out.trans (HB.out.mono (Nat.le_succ _)))
      have HBL : Hid (w.heap.size + 1 ≤ W.heap.size) := Lib.hid (by have := HB.out.size; have := HSZ.out; omega)
      have HXL := Lib.hid (unhex_len _ _ HX.out)
      rw [← hi] at hk HX HXL ⊢
      by_cases hlt : i < m
      · have hmk : i + 1 < m := by have := HO.out; omega
        have t1 : decide ((i : Int) < m) = true := decide_eq_true (by omega)
        have t2 : decide (i < m) = true := decide_eq_true hlt
        obtain ⟨y1, hy1⟩ : ∃ y, l[i]'(by rw [← HM.out]; exact hlt) = y := ⟨_, rfl⟩
        obtain ⟨y2, hy2⟩ : ∃ y, l[i + 1]'(by rw [← HM.out]; exact hmk) = y := ⟨_, rfl⟩
        have HY1 : Hid (l[2 * k]? = some y1) := Lib.hid (by rw [← hi, List.getElem?_eq_getElem (by rw [← HM.out]; exact hlt), hy1])
        have HY2 : Hid (l[2 * k + 1]? = some y2) := Lib.hid (by rw [← hi, List.getElem?_eq_getElem (by rw [← HM.out]; exact hmk), hy2])
        have z1 : (i : Int) + 1 < m := by omega
        have hw1 : IntKind.i64.wrap ((i : Int) + 1) = (i : Int) + 1 := by rw [IntKind.wrap_i64]; omega
        have hw2 : ((i : Int) + 1).toNat = i + 1 := by omega
        have hw3 : (0 : Int) ≤ (i : Int) + 1 := by omega
        have HI2 := Lib.hid hi
        clear hi
        go_upto_region 7 with fail
        refine wp_region_noPanic ?_
        refine wp_region_held_drew (S := (fun _ => True)) (by kernel_rfl) ?_ (fun hHeld => ?_)
        · trivial
        refine wpAnyH_take (i := 0) (oi := { dst := some 19, op := Op.move (Operand.tmp 0), type := 9, pos := "val.go:168", after := #[], guard := none }) (v := ?_) rfl (by kernel_rfl) (by kernel_rfl) (by kernel_rfl) (fun _ _ _ h => h) (Or.inl ⟨by rfl, ?_⟩) (by assumption) ?_
        rotate_left
        · (intro w hSw; (try dsimp only at hSw); go_simp; try with_reducible rfl)
        try simp only [Act.put, List.setIfInBounds_toArray, List.set_cons_zero, List.set_cons_succ]
        refine wpAnyH_take (i := 1) (oi := { dst := some 20, op := Op.move (Operand.tmp 5), type := 3, pos := "val.go:168", after := #[], guard := none }) (v := ?_) rfl (by kernel_rfl) (by kernel_rfl) (by kernel_rfl) (fun _ _ _ h => h) (Or.inl ⟨by rfl, ?_⟩) (by assumption) ?_
        rotate_left
        · (intro w hSw; (try dsimp only at hSw); go_simp; try with_reducible rfl)
        try simp only [Act.put, List.setIfInBounds_toArray, List.set_cons_zero, List.set_cons_succ]
        refine wpAnyH_take (i := 2) (oi := { dst := some 21, op := Op.index 9 (Operand.tmp 19) (Operand.tmp 20), type := 5, pos := "val.go:168", after := #[{ on := 0, ground := Ground.data }, { on := 1, ground := Ground.data }], guard := none }) (v := ?_) rfl (by kernel_rfl) (by kernel_rfl) (by kernel_rfl) (fun _ _ _ h => h) (Or.inl ⟨by rfl, ?_⟩) (by assumption) ?_
        rotate_left
        · (intro w hSw; (try dsimp only at hSw); go_simp; try with_reducible rfl)
        try simp only [Act.put, List.setIfInBounds_toArray, List.set_cons_zero, List.set_cons_succ]
        refine wpAnyH_take (i := 4) (oi := { dst := some 23, op := Op.move (Operand.tmp 0), type := 9, pos := "val.go:168", after := #[], guard := none }) (v := ?_) rfl (by kernel_rfl) (by kernel_rfl) (by kernel_rfl) (fun _ _ _ h => h) (Or.inl ⟨by rfl, ?_⟩) (by assumption) ?_
        rotate_left
        · (intro w hSw; (try dsimp only at hSw); go_simp; try with_reducible rfl)
        try simp only [Act.put, List.setIfInBounds_toArray, List.set_cons_zero, List.set_cons_succ]
        refine wpAnyH_take (i := 5) (oi := { dst := some 24, op := Op.move (Operand.tmp 5), type := 3, pos := "val.go:168", after := #[], guard := none }) (v := ?_) rfl (by kernel_rfl) (by kernel_rfl) (by kernel_rfl) (fun _ _ _ h => h) (Or.inl ⟨by rfl, ?_⟩) (by assumption) ?_
        rotate_left
        · (intro w hSw; (try dsimp only at hSw); go_simp; try with_reducible rfl)
        try simp only [Act.put, List.setIfInBounds_toArray, List.set_cons_zero, List.set_cons_succ]
        refine wpAnyH_take (i := 6) (oi := { dst := some 25, op := Op.binOp BinOp.add 3 (Operand.tmp 24) (Operand.const (Value.int IntKind.i64 1)) 3, type := 3, pos := "val.go:168", after := #[{ on := 5, ground := Ground.data }], guard := none }) (v := ?_) rfl (by kernel_rfl) (by kernel_rfl) (by kernel_rfl) (fun _ _ _ h => h) (Or.inl ⟨by rfl, ?_⟩) (by assumption) ?_
        rotate_left
        · (intro w hSw; (try dsimp only at hSw); go_simp; try with_reducible rfl)
        try simp only [Act.put, List.setIfInBounds_toArray, List.set_cons_zero, List.set_cons_succ]
        refine wpAnyH_take (i := 7) (oi := { dst := some 26, op := Op.index 9 (Operand.tmp 23) (Operand.tmp 25), type := 5, pos := "val.go:168", after := #[{ on := 4, ground := Ground.data }, { on := 6, ground := Ground.data }], guard := none }) (v := ?_) rfl (by kernel_rfl) (by kernel_rfl) (by kernel_rfl) (fun _ _ _ h => h) (Or.inl ⟨by rfl, ?_⟩) (by assumption) ?_
        rotate_left
        · (intro w hSw; (try dsimp only at hSw); go_simp; try with_reducible rfl)
        try simp only [Act.put, List.setIfInBounds_toArray, List.set_cons_zero, List.set_cons_succ]
        refine wpAnyH_ready (rs := [3]) (by kernel_rfl) (by simp) ?_
        refine AllReadyH.cons (o := { dst := some 22, op := Op.call { callee := Callee.value (Operand.func 120), args := #[Operand.tmp 21], argTypes := #[5] }, type := 3, pos := "val.go:168", after := #[{ on := 2, ground := Ground.data }], guard := none }) rfl (fun K hK => ?_) AllReadyH.nil
        go_simp
        refine (Tryz.digit y1 _).mono ?_
        rintro e V1 ⟨rfl, rfl⟩
        refine hK.out _ _ ?_ (fun hHeld => ?_)
        · trivial
        clear hK K
        try simp only [Act.put, List.setIfInBounds_toArray, List.set_cons_zero, List.set_cons_succ]
        refine wpAnyH_ready (rs := [8]) (by kernel_rfl) (by simp) ?_
        refine AllReadyH.cons (o := { dst := some 27, op := Op.call { callee := Callee.value (Operand.func 120), args := #[Operand.tmp 26], argTypes := #[5] }, type := 3, pos := "val.go:168", after := #[{ on := 7, ground := Ground.data }, { on := 3, ground := Ground.chain }], guard := none }) rfl (fun K hK => ?_) AllReadyH.nil
        go_simp
        refine (Tryz.digit y2 _).mono ?_
        rintro e V2 ⟨rfl, rfl⟩
        refine hK.out _ _ ?_ (fun hHeld => ?_)
        · trivial
        clear hK K
        try simp only [Act.put, List.setIfInBounds_toArray, List.set_cons_zero, List.set_cons_succ]
        refine wpAnyH_take (i := 9) (oi := { dst := some 6, op := Op.assign (Operand.tmp 22), type := 3, pos := "val.go:168", after := #[{ on := 3, ground := Ground.data }, { on := 8, ground := Ground.chain }, { on := 0, ground := Ground.phase }, { on := 1, ground := Ground.phase }, { on := 2, ground := Ground.phase }, { on := 3, ground := Ground.phase }, { on := 4, ground := Ground.textOnly Departure.lateStores }, { on := 5, ground := Ground.textOnly Departure.lateStores }, { on := 6, ground := Ground.textOnly Departure.lateStores }, { on := 7, ground := Ground.textOnly Departure.lateStores }, { on := 8, ground := Ground.textOnly Departure.lateStoresUnsure }], guard := none }) (v := ?_) rfl (by kernel_rfl) (by kernel_rfl) (by kernel_rfl) (fun _ _ _ h => h) (Or.inl ⟨by rfl, ?_⟩) (by assumption) ?_
        rotate_left
        · (intro w hSw; (try dsimp only at hSw); go_simp; try with_reducible rfl)
        try simp only [Act.put, List.setIfInBounds_toArray, List.set_cons_zero, List.set_cons_succ]
        refine wpAnyH_take (i := 10) (oi := { dst := some 7, op := Op.assign (Operand.tmp 27), type := 3, pos := "val.go:168", after := #[{ on := 8, ground := Ground.data }, { on := 9, ground := Ground.chain }, { on := 0, ground := Ground.phase }, { on := 1, ground := Ground.phase }, { on := 2, ground := Ground.phase }, { on := 3, ground := Ground.phase }, { on := 4, ground := Ground.phase }, { on := 5, ground := Ground.phase }, { on := 6, ground := Ground.phase }, { on := 7, ground := Ground.phase }, { on := 8, ground := Ground.phase }, { on := 9, ground := Ground.phase }], guard := none }) (v := ?_) rfl (by kernel_rfl) (by kernel_rfl) (by kernel_rfl) (fun _ _ _ h => h) (Or.inl ⟨by rfl, ?_⟩) (by assumption) ?_
        rotate_left
        · (intro w hSw; (try dsimp only at hSw); go_simp; try with_reducible rfl)
        try simp only [Act.put, List.setIfInBounds_toArray, List.set_cons_zero, List.set_cons_succ]
        refine wpAnyH_done (by kernel_rfl) ?_ _
        refine NoPanic.normal ?_
        clear hHeld
        obtain ⟨p, hp⟩ : ∃ p, hv y1 = p := ⟨_, rfl⟩
        obtain ⟨q, hq⟩ : ∃ q, hv y2 = q := ⟨_, rfl⟩
        rw [show Lib.indexByte [48, 49, 50, 51, 52, 53, 54, 55, 56, 57, 97, 98, 99, 100, 101, 102] y1 = p from hp, show Lib.indexByte [48, 49, 50, 51, 52, 53, 54, 55, 56, 57, 97, 98, 99, 100, 101, 102] y2 = q from hq]
        have hcell3 : W.drew.heap[w.heap.size]? = some (.cells #[.int .i64 0, .int .i64 0, .string ⟨#[]⟩, .complex .f64 0 0] 25 (0, 0)) := hcell
        have HI3 : Hid (Lib.IsBuilder 90 5 (w.heap.size + 1) (w.heap.size + 1) (Lib.byteCells X) W.drew) := Lib.hid (HI.out.imp (fun h => h.drew) (fun h => h.drew))
        have HBW3 : Hid (Below w.heap.size w W.drew) := Lib.hid HBW.out.drew
        have HB3 : Hid (Below (w.heap.size + 1) wa W.drew) := Lib.hid HB.out.drew
        have HBL3 : Hid (w.heap.size + 1 ≤ W.drew.heap.size) := Lib.hid HBL.out
        generalize W.drew = V at hcell3 HI3 HBW3 HB3 HBL3 ⊢
        clear hcell HI HBW HB HBL
        have hp2 := hv_range y1
        have hq2 := hv_range y2
        rw [hp] at hp2
        rw [hq] at hq2
        have HPQ := Lib.hid (And.intro hp hq)
        clear hp hq
        by_cases hp0 : p < 0
        · have d1 : decide (p < 0) = true := decide_eq_true hp0
          have hR := HP.out
          rw [unhex_bad l k y1 y2 HY1.out HY2.out (.inl (by rw [HPQ.out.1]; exact hp0))] at hR
          subst hR
          clear HP
          go_wp2_with (refine nw_store_row _ rfl 25 (.tmp 2) (.tmp 34) rfl w.heap.size 25 (cells4 0 0 ⟨#[]⟩ 0 0) zero4 rfl rfl hcell3 rfl (Tryz.size25 _ rfl) (one4 _ _ _ _ _) ?_)
          refine bodyPost_ret (v := .tuple #[v0, .int .i64 2]) (nw_results (show Tryz.f99.results = #[.cell 2 25, .tmp 3] from rfl) _ _ w.heap.size 25 (cells4 0 0 ⟨#[]⟩ 0 0) _ rfl (setRow_heap' _ _ _ _ _ hcell3) (Tryz.size25 _ rfl) Tryz.st25) rfl ⟨rfl, below_setRow HBW3.out (Nat.le_refl _) _⟩
        · have d1 : decide (p < 0) = false := decide_eq_false hp0
          by_cases hq0 : q < 0
          · have d2 : decide (q < 0) = true := decide_eq_true hq0
            have hR := HP.out
            rw [unhex_bad l k y1 y2 HY1.out HY2.out (.inr (by rw [HPQ.out.2]; exact hq0))] at hR
            subst hR
            clear HP
            go_wp2_with (refine nw_store_row _ rfl 25 (.tmp 2) (.tmp 34) rfl w.heap.size 25 (cells4 0 0 ⟨#[]⟩ 0 0) zero4 rfl rfl hcell3 rfl (Tryz.size25 _ rfl) (one4 _ _ _ _ _) ?_)
            refine bodyPost_ret (v := .tuple #[v0, .int .i64 2]) (nw_results (show Tryz.f99.results = #[.cell 2 25, .tmp 3] from rfl) _ _ w.heap.size 25 (cells4 0 0 ⟨#[]⟩ 0 0) _ rfl (setRow_heap' _ _ _ _ _ hcell3) (Tryz.size25 _ rfl) Tryz.st25) rfl ⟨rfl, below_setRow HBW3.out (Nat.le_refl _) _⟩
          · have d2 : decide (q < 0) = false := decide_eq_false hq0
            obtain ⟨P, hP16, rfl⟩ : ∃ P : Nat, P < 16 ∧ p = P := by
              rcases hp2 with h | ⟨P, h1, h2⟩
              · omega
              · exact ⟨P, h1, h2⟩
            obtain ⟨Q, hQ16, rfl⟩ : ∃ P : Nat, P < 16 ∧ q = P := by
              rcases hq2 with h | ⟨P, h1, h2⟩
              · omega
              · exact ⟨P, h1, h2⟩
            have hmore := unhex_more l k y1 y2 X HY1.out HY2.out (by rw [HPQ.out.1, HPQ.out.2]; omega) (by rw [← HI2.out]; exact HX.out)
            have HMORE := Lib.hid hmore
            have hor := or16 P hP16 Q hQ16
            clear hmore hp2 hq2
            have hbo : bits BinOp.or IntKind.i64 ((P : Int) * 16) (Q : Int) % 256 = ((byteOf y1 y2).toNat : Int) := by
              have h1 : bits BinOp.or IntKind.i64 ((P : Int) * 16) (Q : Int) = ((P * 16 + Q : Nat) : Int) := by rw [← hor]; rfl
              have h2 : (byteOf y1 y2).toNat = (P * 16 + Q) % 256 := by
                unfold byteOf
                rw [HPQ.out.1, HPQ.out.2, UInt8.toNat_ofNat']
                rfl
              rw [h1, h2]
              omega
            have HBO := Lib.hid hbo
            have hxl : 2 * (Lib.byteCells X).length = (l.take i).length := by rw [bc_len]; exact HXL.out
            have HXC : Hid ((Lib.byteCells X).length + 1 ≤ 140737488355328) := Lib.hid (by rw [List.length_take] at hxl; omega)
            clear hor hbo hxl
            go_wp2_with fail
            rw [HBO.out]
            refine (Tryz.writeByte _ _ _ _ _ HI3.out HXC.out HBL3.out).mono ?_
            rintro e W1 ⟨rfl, h1, hb1⟩
            rw [bc_snoc] at h1
            have H1 := Lib.hid h1
            have BB1 := Lib.hid (HB3.out.trans hb1)
            clear h1 hb1
            go_wp2_with fail
            exact ⟨⟨k + 1, X ++ [byteOf y1 y2], by have := HI2.out; omega, by congr 1; have := HI2.out; omega, HMORE, H1, BB1⟩, by simp [intO]; omega⟩
      · obtain rfl : i = m := by omega
        have t1 : decide ((i : Int) < i) = false := decide_eq_false (by omega)
        have t2 : decide (i < i) = false := decide_eq_false (by omega)
        have hR := HP.out
        have hX := HX.out
        rw [show l.take i = l by rw [HM.out, List.take_length]] at hX
        rw [hX] at hR
        dsimp only at hR
        have HR := Lib.hid hR
        obtain ⟨N, hN⟩ : ∃ N, (Lib.byteCells X).length = N := ⟨_, rfl⟩
        have hN2 : X.length = N := by rw [← hN, bc_len]
        rw [hN2] at hR
        have HR2 := Lib.hid hR
        have HN := Lib.hid hN
        clear hR hX HP HX hi HR hN hN2
        go_wp2_with fail
        refine (Tryz.Builder_Len _ _ _ _ HI.out).mono ?_
        rintro e W1 ⟨rfl, rfl⟩
        rw [HN.out]
        by_cases hbig : N > 255
        · have d1 : decide ((N : Int) > 255) = true := decide_eq_true (by omega)
          have hR := HR2.out
          rw [if_pos hbig] at hR
          subst hR
          clear HR2
          go_wp2_with (refine nw_store_row _ rfl 25 (.tmp 2) (.tmp 43) rfl w.heap.size 25 (cells4 0 0 ⟨#[]⟩ 0 0) zero4 rfl rfl hcell rfl (Tryz.size25 _ rfl) (one4 _ _ _ _ _) ?_)
          refine bodyPost_ret (v := .tuple #[v0, .int .i64 4]) (nw_results (show Tryz.f99.results = #[.cell 2 25, .tmp 3] from rfl) _ _ w.heap.size 25 (cells4 0 0 ⟨#[]⟩ 0 0) _ rfl (setRow_heap' _ _ _ _ _ hcell) (Tryz.size25 _ rfl) Tryz.st25) rfl ⟨rfl, below_setRow HBW.out (Nat.le_refl _) _⟩
        · have d1 : decide ((N : Int) > 255) = false := decide_eq_false (by omega)
          have hR := HR2.out
          rw [if_neg hbig] at hR
          subst hR
          clear HR2
          go_wp2_with fail
          refine (Tryz.Builder_String_any _ _ _ _ HI.out HBL.out).mono ?_
          rintro e W2 ⟨rfl, hb2⟩
          have HBW2 : Hid (Below w.heap.size w W2) := Lib.hid (HBW.out.trans (hb2.mono (Nat.le_succ _)))
          have hcell2 : W2.heap[w.heap.size]? = some (.cells #[.int .i64 0, .int .i64 0, .string ⟨#[]⟩, .complex .f64 0 0] 25 (0, 0)) := (hb2.block _ (Nat.lt_succ_self _)).trans hcell
          clear hb2 hcell
          go_wp2_with (refine nw_store_row _ rfl 25 (.tmp 2) (.tmp 45) rfl w.heap.size 25 (cells4 2 0 (bs X) 0 0) zero4 rfl rfl hcell2 rfl (Tryz.size25 _ rfl) (one4 _ _ _ _ _) ?_)
          refine bodyPost_ret (v := .tuple #[vS (bs X), .int .i64 0]) (nw_results (show Tryz.f99.results = #[.cell 2 25, .tmp 3] from rfl) _ _ w.heap.size 25 (cells4 2 0 (bs X) 0 0) _ rfl (setRow_heap' _ _ _ _ _ hcell2) (Tryz.size25 _ rfl) Tryz.st25) rfl ⟨rfl, below_setRow HBW2.out (Nat.le_refl _) _⟩
  · rw [if_neg hodd] at hP
    rw [hP]
    have t0 : ((m : Int) % 2) = 1 := by omega
    clear hP hodd
    go_enter Tryz.func99, Tryz.ntmps99
    go_wp2_with fail
    refine bodyPost_ret (v := .tuple #[v0, .int .i64 2]) (by simp [results, Tryz.results21, go_sem, v0]) rfl ⟨rfl, ?_⟩
    exact (Below.refl _ w).alloc (Nat.le_refl _) _
end Go.Proofs.YtcogajgikmcfpaaGreatDoor
end
