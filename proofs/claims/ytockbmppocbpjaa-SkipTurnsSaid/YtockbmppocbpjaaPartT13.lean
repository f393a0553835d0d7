/-
  Texts of a proof over the translated program: proved evaluators and walks, part 13 of 13.
-/
import Derived.Test.YtockbmppocbpjaaPartT12
import Derived.Below
import Derived.Deep.CutBlock
import Derived.Deep.Grids
import Derived.Deep.RegionHeld3
import Derived.Deep.RegionWith
import Derived.Great.BuildSlice
import Derived.Handy
import Derived.IntWalk
import Derived.Laws.Cells
import Derived.Laws.CopyRow
import Derived.Laws.IdiomStrings
import Derived.Laws.StructEq
import Derived.Lib.Hide
import Derived.LoopTactic
import Derived.MapKept
import Derived.Orders
import Derived.Outline
import Derived.OwnWalk
import Derived.Scope
import Derived.ScopeJumps
import Derived.Test.YtockbmppocbpjaaProg
import Derived.WalkKit
import Derived.WalkMore
import Derived.WalkSpells
set_option linter.unusedVariables false
set_option linter.unusedSimpArgs false
set_option linter.unusedSectionVars false
set_option linter.unnecessarySimpa false
section
namespace Go.Proofs
open Go.RowKit
set_option maxRecDepth 100000
def IsRow (k : IntKind) (w : World) (a : Option Addr) (len cap : Nat) (zs : List Int) : Prop :=
  (a = none ∧ len = 0 ∧ cap = 0 ∧ zs = []) ∨
  ∃ x, a = some x ∧ len ≤ cap ∧ cap ≤ maxLen ∧ zs.length = cap ∧ (∀ i, i < zs.length → w.cell? (x.add i) = some (.int k (zs.getD i 0))) ∧ ∀ n ∈ zs, (Lit.int k n).wf = true
def IsBits (w : World) (a : Option Addr) (len cap : Nat) (B : Nat → Bool) : Prop :=
  (a = none ∧ len = 0 ∧ cap = 0) ∨ ∃ x, a = some x ∧ len ≤ cap ∧ cap ≤ maxLen ∧ ∀ i, i < cap → w.cell? (x.add i) = some (.bool (B i))
def YesV (w : World) (e : Ending) (w' : World) : Prop := e = .returned (.bool true) ∧ Below w.heap.size w w'
def lo0 (zs : List Int) : Int := zs.foldl min 1099511627776
def hi0 (zs : List Int) : Int := zs.foldl max (-1099511627776)
end Go.Proofs
end

section
namespace Go.Proofs
open Go.RowKit
set_option maxRecDepth 100000
theorem vat_new (w : World) (lw hg : Int) (m : Nat) (hm : m = 2 ∨ m = 3) : VAt (w.alloc (.cells #[.int .i64 1, .int .i64 lw, .string ⟨#[]⟩, .complex .f64 0 0, .int .i64 1, .int .i64 hg, .string ⟨#[]⟩, .complex .f64 0 0, .int .i64 0, .int .i64 0, .string ⟨#[]⟩, .complex .f64 0 0] 28)) w.heap.size m 3 ([(1, lw), (1, hg), (0, 0)].take m) := by
  have hh := alloc_here w (.cells #[.int .i64 1, .int .i64 lw, .string ⟨#[]⟩, .complex .f64 0 0, .int .i64 1, .int .i64 hg, .string ⟨#[]⟩, .complex .f64 0 0, .int .i64 0, .int .i64 0, .string ⟨#[]⟩, .complex .f64 0 0] 28)
  refine ⟨by omega, by decide, by simp, fun i hi => ?_⟩
  have key : ∀ j, (w.alloc (.cells #[.int .i64 1, .int .i64 lw, .string ⟨#[]⟩, .complex .f64 0 0, .int .i64 1, .int .i64 hg, .string ⟨#[]⟩, .complex .f64 0 0, .int .i64 0, .int .i64 0, .string ⟨#[]⟩, .complex .f64 0 0] 28)).cell? ⟨w.heap.size, j, none⟩ = (#[.int .i64 1, .int .i64 lw, .string ⟨#[]⟩, .complex .f64 0 0, .int .i64 1, .int .i64 hg, .string ⟨#[]⟩, .complex .f64 0 0, .int .i64 0, .int .i64 0, .string ⟨#[]⟩, .complex .f64 0 0] : Array Value)[j]? := fun j => cell_of_row _ _ j _ 28 _ hh
  have h3 : i = 0 ∨ i = 1 ∨ i = 2 := by
    rcases hm with rfl | rfl <;> simp at hi <;> omega
  rcases h3 with rfl | rfl | rfl
  · rcases hm with rfl | rfl <;> exact ⟨key 0, key 1, key 2, key 3⟩
  · rcases hm with rfl | rfl <;> exact ⟨key 4, key 5, key 6, key 7⟩
  · rcases hm with rfl | rfl
    · simp at hi
    · exact ⟨key 8, key 9, key 10, key 11⟩
def osT (lw hg : Int) (m : Nat) : List (Option Int) := [some lw, some hg, none].take m
theorem osT_map (lw hg : Int) (m : Nat) : (osT lw hg m).map qo = [(1, lw), (1, hg), (0, 0)].take m := by
  unfold osT
  rw [List.map_take]
  rfl
theorem osT_stat (lw hg : Int) (h : lw ≤ hg) (m : Nat) (hm : m = 2 ∨ m = 3) : statA (osT lw hg m) = statCells m ((m : Int) - 2) (1, lw) (1, hg) := by
  have e1 : min lw hg = lw := by omega
  have e2 : max lw hg = hg := by omega
  rcases hm with rfl | rfl
  · have hn : nums (osT lw hg 2) (osT lw hg 2).length = [lw, hg] := rfl
    unfold statA
    rw [hn]
    simp [endsOf, lows, highs, e1, e2, osT]
  · have hn : nums (osT lw hg 3) (osT lw hg 3).length = [lw, hg] := rfl
    unfold statA
    rw [hn]
    simp [endsOf, lows, highs, e1, e2, osT]
def o3 (i : Nat) : Int := if i = 0 then 0 else if i = 1 then 2 else 1
def shA (i k : Nat) : Int := shl1 (o3 (min (o3 i) (o3 k)).toNat)
def shO (i k : Nat) : Int := shl1 (o3 (max (o3 i) (o3 k)).toNat)
def fA (p q : Int) : Nat → Int
  | 0 => 0
  | n + 1 => if (hasb p (n / 3) && hasb q (n % 3)) = true then lor (fA p q n) (shA (n / 3) (n % 3)) else fA p q n
def fO (p q : Int) : Nat → Int
  | 0 => 0
  | n + 1 => if (hasb p (n / 3) && hasb q (n % 3)) = true then lor (fO p q n) (shO (n / 3) (n % 3)) else fO p q n
def tV (p : Int) : Int := Go.bits .or .i64 (Go.bits .or .i64 (Go.bits .and .i64 p 4) (wrap64 (Go.bits .and .i64 p 1 * 2))) (Go.bits .and .i64 p 2 / 2)
theorem tV_is (p : Int) (h : 0 ≤ p ∧ p ≤ 7) : tV p = sTurn (sBoth 2 p) := by
  rcases eight h with rfl | rfl | rfl | rfl | rfl | rfl | rfl | rfl <;> decide +kernel
theorem fA_is (p q : Int) (h : 0 ≤ p ∧ p ≤ 7) (h' : 0 ≤ q ∧ q ≤ 7) : fA p q 9 = sBoth (sBoth 2 p) q := by
  rcases eight h with rfl | rfl | rfl | rfl | rfl | rfl | rfl | rfl <;> rcases eight h' with rfl | rfl | rfl | rfl | rfl | rfl | rfl | rfl <;> decide +kernel
theorem fO_is (p q : Int) (h : 0 ≤ p ∧ p ≤ 7) (h' : 0 ≤ q ∧ q ≤ 7) : fO p q 9 = sTurn (sBoth (sBoth 2 (sTurn p)) (sTurn q)) := by
  rcases eight h with rfl | rfl | rfl | rfl | rfl | rfl | rfl | rfl <;> rcases eight h' with rfl | rfl | rfl | rfl | rfl | rfl | rfl | rfl <;> decide +kernel
theorem bit_is (p : Int) (h : 0 ≤ p ∧ p ≤ 7) : (Go.bits .and .i64 p 1 == 0) = !hasb p 0 ∧ (Go.bits .and .i64 (p / 2) 1 == 0) = !hasb p 1 ∧ (Go.bits .and .i64 (p / 4) 1 == 0) = !hasb p 2 := by
  rcases eight h with rfl | rfl | rfl | rfl | rfl | rfl | rfl | rfl <;> decide +kernel
theorem pc_two1 (w : World) (oo1 a oo2 b : Int) : PC (w.alloc (.cells #[.int .i64 oo1, .int .i64 0, .int .i64 1, .int .i64 a, .string ⟨#[]⟩, .complex .f64 0 0, .complex .f64 0 0, .complex .f64 0 0, .slice none 0 0, .int .i64 oo2, .int .i64 0, .int .i64 1, .int .i64 b, .string ⟨#[]⟩, .complex .f64 0 0, .complex .f64 0 0, .complex .f64 0 0, .slice none 0 0] 42)) w.heap.size 0 (predA oo1 0 a) := by
  refine pc_new w _ 0 _ (fun j u hu => ?_)
  have hj : j < 9 := by
    by_cases hx : j < 9
    · exact hx
    · rw [Array.getElem?_eq_none (show 9 ≤ j by omega)] at hu
      cases hu
  have h9 : j = 0 ∨ j = 1 ∨ j = 2 ∨ j = 3 ∨ j = 4 ∨ j = 5 ∨ j = 6 ∨ j = 7 ∨ j = 8 := by omega
  rcases h9 with rfl | rfl | rfl | rfl | rfl | rfl | rfl | rfl | rfl <;> exact hu
theorem pc_two2 (w : World) (oo1 a oo2 b : Int) : PC (w.alloc (.cells #[.int .i64 oo1, .int .i64 0, .int .i64 1, .int .i64 a, .string ⟨#[]⟩, .complex .f64 0 0, .complex .f64 0 0, .complex .f64 0 0, .slice none 0 0, .int .i64 oo2, .int .i64 0, .int .i64 1, .int .i64 b, .string ⟨#[]⟩, .complex .f64 0 0, .complex .f64 0 0, .complex .f64 0 0, .slice none 0 0] 42)) w.heap.size 9 (predA oo2 0 b) := by
  refine pc_new w _ 9 _ (fun j u hu => ?_)
  have hj : j < 9 := by
    by_cases hx : j < 9
    · exact hx
    · rw [Array.getElem?_eq_none (show 9 ≤ j by omega)] at hu
      cases hu
  have h9 : j = 0 ∨ j = 1 ∨ j = 2 ∨ j = 3 ∨ j = 4 ∨ j = 5 ∨ j = 6 ∨ j = 7 ∨ j = 8 := by omega
  rcases h9 with rfl | rfl | rfl | rfl | rfl | rfl | rfl | rfl | rfl <;> exact hu
set_option maxHeartbeats 40000000 in
theorem Try.turns (w : World) (a b lw : Int) (ha : -128 ≤ a ∧ a ≤ 127) (hb : -128 ≤ b ∧ b ≤ 127) (hl : -128 ≤ lw ∧ lw ≤ 127) (n o : Nat) (hn : n < 256) (ho : o < 256) :
    Calls Try.prog 6 #[.int .i8 a, .int .i8 b, .int .i8 lw, .int .u8 n, .int .u8 o] w (YesV w) := by
  have x1 : (n : Int) % 9 = ((n % 9 : Nat) : Int) := by omega
  obtain ⟨d, hd⟩ : ∃ d, n % 9 = d := ⟨_, rfl⟩
  rw [hd] at x1
  obtain ⟨hg, hhg⟩ : ∃ hg, lw + (d : Int) = hg := ⟨_, rfl⟩
  have u0 : wrap64 (lw + (d : Int)) = hg := by unfold wrap64; omega
  have u0' : IntKind.i64.wrap (lw + (d : Int)) = hg := by rw [IntKind.wrap_i64]; omega
  have hle : lw ≤ hg := by omega
  have c1 : IntKind.i64.wrap lw = lw := by rw [IntKind.wrap_i64]; omega
  have c1' : wrap64 lw = lw := by unfold wrap64; omega
  have c2 : IntKind.i64.wrap a = a := by rw [IntKind.wrap_i64]; omega
  have c2' : wrap64 a = a := by unfold wrap64; omega
  have c3 : IntKind.i64.wrap b = b := by rw [IntKind.wrap_i64]; omega
  have c3' : wrap64 b = b := by unfold wrap64; omega
  have hsc := storeC
  go_enter Try.func6, Try.ntmps6
  go_wp2_with fail
  refine (Try.known14 _).mono ?_
  rintro e w1 ⟨rfl, hb1⟩
  have B1 := Lib.hid hb1
  clear hb1
  go_wp2_with fail
  refine (Try.nn lw _).mono ?_
  rintro e w2 ⟨rfl, hb2⟩
  unfold vN
  have B2 := Lib.hid ((B1.out).trans (hb2.mono (B1.out).size))
  clear hb2 B1
  go_wp2_with fail
  refine (Try.nn hg _).mono ?_
  rintro e w3 ⟨rfl, hb3⟩
  unfold vN
  have B3 := Lib.hid ((B2.out).trans (hb3.mono (B2.out).size))
  clear hb3 B2
  go_wp2_with fail
  obtain ⟨m, hm⟩ : ∃ m, 2 + o / 36 % 2 = m := ⟨_, rfl⟩
  have hm23 : m = 2 ∨ m = 3 := by omega
  rw [hm]
  have hv := vat_new w3 lw hg m hm23
  rw [← osT_map] at hv
  have hlen : (osT lw hg m).length = m := by rcases hm23 with rfl | rfl <;> rfl
  obtain ⟨rows, nl, hst, hne, hr1⟩ : ∃ rows nl : Int, statA (osT lw hg m) = statCells rows nl (1, lw) (1, hg) ∧ rows ≠ nl ∧ 1 ≤ rows := ⟨_, _, osT_stat lw hg hle m hm23, by omega, by omega⟩
  have hs9 := Try.statOf hv hlen (by omega)
  rw [hst] at hs9
  refine hs9.mono ?_
  rintro e w4 ⟨rfl, hb4⟩
  have hA3 := (Below.refl w3.heap.size w3).alloc (Nat.le_refl _) (.cells #[.int .i64 1, .int .i64 lw, .string ⟨#[]⟩, .complex .f64 0 0, .int .i64 1, .int .i64 hg, .string ⟨#[]⟩, .complex .f64 0 0, .int .i64 0, .int .i64 0, .string ⟨#[]⟩, .complex .f64 0 0] 28)
  have B4 := Lib.hid ((B3.out).trans ((hA3.trans (hb4.mono hA3.size)).mono (B3.out).size))
  have HNE := Lib.hid hne
  have HR1 := Lib.hid hr1
  unfold statCells
  clear hs9 hv hlen hst hb4 hA3 B3 hm hm23 hne hr1 u0 u0' c1 c1' x1 hhg hd hle
  have hS4 := Lib.hid (alloc_here w4 (.cells #[.int .i64 1, .int .i64 rows, .int .i64 nl, .int .i64 1, .int .i64 lw, .string ⟨#[]⟩, .complex .f64 0 0, .int .i64 1, .int .i64 hg, .string ⟨#[]⟩, .complex .f64 0 0, .complex .f64 0 0, .complex .f64 0 0] 33))
  have B5 := Lib.hid ((B4.out).alloc (B4.out).size (.cells #[.int .i64 1, .int .i64 rows, .int .i64 nl, .int .i64 1, .int .i64 lw, .string ⟨#[]⟩, .complex .f64 0 0, .int .i64 1, .int .i64 hg, .string ⟨#[]⟩, .complex .f64 0 0, .complex .f64 0 0, .complex .f64 0 0] 33))
  clear B4
  go_wp2_with fail
  refine (Try.cmpP _ 0 _ _).mono ?_
  rintro e w6 ⟨rfl, hb6⟩
  have S6 : Hid (VS w6 w4.heap.size #[.int .i64 1, .int .i64 rows, .int .i64 nl, .int .i64 1, .int .i64 lw, .string ⟨#[]⟩, .complex .f64 0 0, .int .i64 1, .int .i64 hg, .string ⟨#[]⟩, .complex .f64 0 0, .complex .f64 0 0, .complex .f64 0 0]) := Lib.hid (VS.below (w := w4.alloc (.cells #[.int .i64 1, .int .i64 rows, .int .i64 nl, .int .i64 1, .int .i64 lw, .string ⟨#[]⟩, .complex .f64 0 0, .int .i64 1, .int .i64 hg, .string ⟨#[]⟩, .complex .f64 0 0, .complex .f64 0 0, .complex .f64 0 0] 33)) hS4.out hb6)
  have B6 := Lib.hid ((B5.out).trans (hb6.mono (B5.out).size))
  clear hb6 B5 hS4
  go_wp2_with fail
  refine (Try.cmpP _ 0 _ _).mono ?_
  rintro e w7 ⟨rfl, hb7⟩
  have S7 := Lib.hid ((S6.out).below hb7)
  have B7 := Lib.hid ((B6.out).trans (hb7.mono (B6.out).size))
  clear hb7 S6 B6
  obtain ⟨oo1, ho1⟩ : ∃ oo1 : Int, 1 + (o : Int) % 6 = oo1 := ⟨_, rfl⟩
  obtain ⟨oo2, ho2⟩ : ∃ oo2 : Int, 1 + (o : Int) / 6 % 6 = oo2 := ⟨_, rfl⟩
  have HO1 := Lib.hid (show 1 ≤ oo1 ∧ oo1 ≤ 6 by omega)
  have HO2 := Lib.hid (show 1 ≤ oo2 ∧ oo2 ≤ 6 by omega)
  rw [ho1, ho2]
  clear ho1 ho2 ha hb hl hn ho
  unfold predA
  have z1 : (w7.alloc (.cells zero9 42)).heap.size = w7.heap.size + 1 := by simp
  have z2 : ((w7.alloc (.cells zero9 42)).alloc (.cells zero9 42)).heap.size = w7.heap.size + 2 := by simp
  have hA := (Below.refl w7.heap.size w7).alloc (Nat.le_refl _) (.cells zero9 42)
  have hB := hA.alloc (by omega) (.cells zero9 42)
  have pa0 : VP (w7.alloc (.cells zero9 42)) w7.heap.size zero9 := alloc_here w7 _
  have pa1 := pa0.below ((Below.refl _ (w7.alloc (.cells zero9 42))).alloc (Nat.le_refl _) (.cells zero9 42))
  have pb1 : VP ((w7.alloc (.cells zero9 42)).alloc (.cells zero9 42)) (w7.heap.size + 1) zero9 := by rw [← z1]; exact alloc_here _ _
  have PA1 := Lib.hid pa1
  have pa2 := pa1.row (predA oo1 0 a)
  have pb2 := pb1.eq (setRow_other _ w7.heap.size (predA oo1 0 a) _ (by omega))
  have PB2 := Lib.hid pb2
  have pa3 := pa2.eq (setRow_other _ (w7.heap.size + 1) (predA oo2 0 b) _ (by omega))
  have pb3 := pb2.row (predA oo2 0 b)
  obtain ⟨W8, hW8⟩ : ∃ W, (((w7.alloc (.cells zero9 42)).alloc (.cells zero9 42)).setRow w7.heap.size (predA oo1 0 a)).setRow (w7.heap.size + 1) (predA oo2 0 b) = W := ⟨_, rfl⟩
  have hC : Below w7.heap.size w7 W8 := by rw [← hW8]; exact Below.setRow (Below.setRow hB (Nat.le_refl _) _) (by omega) _
  rw [hW8] at pa3 pb3
  have S8 := Lib.hid ((S7.out).below hC)
  have B8 := Lib.hid ((B7.out).trans (hC.mono (B7.out).size))
  have hD := (Below.refl W8.heap.size W8).alloc (Nat.le_refl _) (.cells #[.int .i64 1, .int .i64 rows, .int .i64 nl, .int .i64 1, .int .i64 lw, .string ⟨#[]⟩, .complex .f64 0 0, .int .i64 1, .int .i64 hg, .string ⟨#[]⟩, .complex .f64 0 0, .complex .f64 0 0, .complex .f64 0 0] 33)
  have S8' : Hid (VS ((((w7.alloc (.cells zero9 42)).alloc (.cells zero9 42)).setRow w7.heap.size (predA oo1 0 a)).setRow (w7.heap.size + 1) (predA oo2 0 b)) w4.heap.size #[.int .i64 1, .int .i64 rows, .int .i64 nl, .int .i64 1, .int .i64 lw, .string ⟨#[]⟩, .complex .f64 0 0, .int .i64 1, .int .i64 hg, .string ⟨#[]⟩, .complex .f64 0 0, .complex .f64 0 0, .complex .f64 0 0]) := Lib.hid (by rw [hW8]; exact S8.out)
  have PA9 := Lib.hid (pa3.below hD)
  have PB9 := Lib.hid (pb3.below hD)
  have S9 : Hid (VS (W8.alloc (.cells #[.int .i64 1, .int .i64 rows, .int .i64 nl, .int .i64 1, .int .i64 lw, .string ⟨#[]⟩, .complex .f64 0 0, .int .i64 1, .int .i64 hg, .string ⟨#[]⟩, .complex .f64 0 0, .complex .f64 0 0, .complex .f64 0 0] 33)) W8.heap.size #[.int .i64 1, .int .i64 rows, .int .i64 nl, .int .i64 1, .int .i64 lw, .string ⟨#[]⟩, .complex .f64 0 0, .int .i64 1, .int .i64 hg, .string ⟨#[]⟩, .complex .f64 0 0, .complex .f64 0 0, .complex .f64 0 0]) := Lib.hid (alloc_here W8 _)
  have B9 := Lib.hid ((B8.out).trans (hD.mono (B8.out).size))
  have HW8 := Lib.hid hW8
  have hz8 : W8.heap.size = w7.heap.size + 1 + 1 := by rw [← hW8]; simp [World.setRow]
  rw [hz8] at S9
  clear z1 z2 hA hB pa0 pa1 pb1 pa2 pb2 pa3 pb3 hC hD hW8 S7 B7 S8 B8
  go_upto_region 9 with (first
    | (refine wpList_store_at _ rfl 42 (.tmp 14) (.tmp 60) rfl w7.heap.size 42 0 (predA oo1 0 a) zero9 (predA oo1 0 a) rfl rfl (PA1.out) (show 0 + 9 ≤ 9 by omega) rfl (Try.size42 _ rfl) (pred_one _ _ _) ?_)
    | (refine wpList_store_at _ rfl 42 (.tmp 15) (.tmp 68) rfl (w7.heap.size + 1) 42 0 (predA oo2 0 b) zero9 (predA oo2 0 b) rfl rfl (PB2.out) (show 0 + 9 ≤ 9 by omega) rfl (Try.size42 _ rfl) (pred_one _ _ _) ?_)
    | (refine wpList_load_row _ rfl 33 (.tmp 12) rfl w4.heap.size 33 #[.int .i64 1, .int .i64 rows, .int .i64 nl, .int .i64 1, .int .i64 lw, .string ⟨#[]⟩, .complex .f64 0 0, .int .i64 1, .int .i64 hg, .string ⟨#[]⟩, .complex .f64 0 0, .complex .f64 0 0, .complex .f64 0 0] _ rfl (S8'.out) (Try.size33 _ rfl) Try.st33 ?_))
  have hw8 := HW8.out
  unfold zero9 at hw8
  first | rw [hw8] | (simp only [hw8])
  clear PA1 PB2 S8' HW8 hw8
  obtain ⟨w9, hw9⟩ : ∃ w9, W8.alloc (.cells #[.int .i64 1, .int .i64 rows, .int .i64 nl, .int .i64 1, .int .i64 lw, .string ⟨#[]⟩, .complex .f64 0 0, .int .i64 1, .int .i64 hg, .string ⟨#[]⟩, .complex .f64 0 0, .complex .f64 0 0, .complex .f64 0 0] 33) = w9 := ⟨_, rfl⟩
  rw [hw9] at PA9 PB9 S9 B9 ⊢
  clear hw9
  refine wp_region_noPanic ?_
  refine wp_region_held_drew (S := (fun W => W.cell? ⟨w7.heap.size, 0, none⟩ = some (.int .i64 oo1) ∧ W.cell? ⟨w7.heap.size, 1, none⟩ = some (.int .i64 0) ∧ W.cell? ⟨w7.heap.size, 2, none⟩ = some (.int .i64 1) ∧ W.cell? ⟨w7.heap.size, 3, none⟩ = some (.int .i64 a) ∧ W.cell? ⟨w7.heap.size, 4, none⟩ = some (.string ⟨#[]⟩) ∧ W.cell? ⟨w7.heap.size, 5, none⟩ = some (.complex .f64 0 0) ∧ W.cell? ⟨w7.heap.size, 6, none⟩ = some (.complex .f64 0 0) ∧ W.cell? ⟨w7.heap.size, 7, none⟩ = some (.complex .f64 0 0) ∧ W.cell? ⟨w7.heap.size, 8, none⟩ = some (.slice none 0 0) ∧ W.cell? ⟨w7.heap.size + 1, 0, none⟩ = some (.int .i64 oo2) ∧ W.cell? ⟨w7.heap.size + 1, 1, none⟩ = some (.int .i64 0) ∧ W.cell? ⟨w7.heap.size + 1, 2, none⟩ = some (.int .i64 1) ∧ W.cell? ⟨w7.heap.size + 1, 3, none⟩ = some (.int .i64 b) ∧ W.cell? ⟨w7.heap.size + 1, 4, none⟩ = some (.string ⟨#[]⟩) ∧ W.cell? ⟨w7.heap.size + 1, 5, none⟩ = some (.complex .f64 0 0) ∧ W.cell? ⟨w7.heap.size + 1, 6, none⟩ = some (.complex .f64 0 0) ∧ W.cell? ⟨w7.heap.size + 1, 7, none⟩ = some (.complex .f64 0 0) ∧ W.cell? ⟨w7.heap.size + 1, 8, none⟩ = some (.slice none 0 0))) (by kernel_rfl) ?_ (fun hHeld => ?_)
  · exact ⟨(show VP w9.drew w7.heap.size (predA oo1 0 a) from PA9.out).c 0, (show VP w9.drew w7.heap.size (predA oo1 0 a) from PA9.out).c 1, (show VP w9.drew w7.heap.size (predA oo1 0 a) from PA9.out).c 2, (show VP w9.drew w7.heap.size (predA oo1 0 a) from PA9.out).c 3, (show VP w9.drew w7.heap.size (predA oo1 0 a) from PA9.out).c 4, (show VP w9.drew w7.heap.size (predA oo1 0 a) from PA9.out).c 5, (show VP w9.drew w7.heap.size (predA oo1 0 a) from PA9.out).c 6, (show VP w9.drew w7.heap.size (predA oo1 0 a) from PA9.out).c 7, (show VP w9.drew w7.heap.size (predA oo1 0 a) from PA9.out).c 8, (show VP w9.drew (w7.heap.size + 1) (predA oo2 0 b) from PB9.out).c 0, (show VP w9.drew (w7.heap.size + 1) (predA oo2 0 b) from PB9.out).c 1, (show VP w9.drew (w7.heap.size + 1) (predA oo2 0 b) from PB9.out).c 2, (show VP w9.drew (w7.heap.size + 1) (predA oo2 0 b) from PB9.out).c 3, (show VP w9.drew (w7.heap.size + 1) (predA oo2 0 b) from PB9.out).c 4, (show VP w9.drew (w7.heap.size + 1) (predA oo2 0 b) from PB9.out).c 5, (show VP w9.drew (w7.heap.size + 1) (predA oo2 0 b) from PB9.out).c 6, (show VP w9.drew (w7.heap.size + 1) (predA oo2 0 b) from PB9.out).c 7, (show VP w9.drew (w7.heap.size + 1) (predA oo2 0 b) from PB9.out).c 8⟩
  refine wpAnyH_take (i := 0) (oi := { dst := some 71, op := Op.load 42 (Operand.tmp 14), type := 42, pos := "more.go:50", after := #[], guard := none }) (v := ?_) rfl (by kernel_rfl) (by kernel_rfl) (by kernel_rfl) (fun _ _ _ h => h) (Or.inl ⟨by rfl, ?_⟩) (by assumption) ?_
  rotate_left
  · (intro w hSw; (try dsimp only at hSw); go_simp; try with_reducible rfl)
  try simp only [Act.put, List.setIfInBounds_toArray, List.set_cons_zero, List.set_cons_succ]
  refine wpAnyH_take (i := 1) (oi := { dst := some 72, op := Op.move (Operand.tmp 16), type := 49, pos := "more.go:50", after := #[], guard := none }) (v := ?_) rfl (by kernel_rfl) (by kernel_rfl) (by kernel_rfl) (fun _ _ _ h => h) (Or.inl ⟨by rfl, ?_⟩) (by assumption) ?_
  rotate_left
  · (intro w hSw; (try dsimp only at hSw); go_simp; try with_reducible rfl)
  try simp only [Act.put, List.setIfInBounds_toArray, List.set_cons_zero, List.set_cons_succ]
  refine wpAnyH_take (i := 3) (oi := { dst := some 74, op := Op.load 42 (Operand.tmp 15), type := 42, pos := "more.go:50", after := #[], guard := none }) (v := ?_) rfl (by kernel_rfl) (by kernel_rfl) (by kernel_rfl) (fun _ _ _ h => h) (Or.inl ⟨by rfl, ?_⟩) (by assumption) ?_
  rotate_left
  · (intro w hSw; (try dsimp only at hSw); go_simp; try with_reducible rfl)
  try simp only [Act.put, List.setIfInBounds_toArray, List.set_cons_zero, List.set_cons_succ]
  refine wpAnyH_take (i := 4) (oi := { dst := some 75, op := Op.move (Operand.tmp 16), type := 49, pos := "more.go:50", after := #[], guard := none }) (v := ?_) rfl (by kernel_rfl) (by kernel_rfl) (by kernel_rfl) (fun _ _ _ h => h) (Or.inl ⟨by rfl, ?_⟩) (by assumption) ?_
  rotate_left
  · (intro w hSw; (try dsimp only at hSw); go_simp; try with_reducible rfl)
  try simp only [Act.put, List.setIfInBounds_toArray, List.set_cons_zero, List.set_cons_succ]
  refine wpAnyH_ready (rs := [2]) (by kernel_rfl) (by simp) ?_
  refine AllReadyH.cons (o := { dst := some 73, op := Op.call { callee := Callee.value (Operand.func 15), args := #[Operand.tmp 71, Operand.tmp 72], argTypes := #[42, 49] }, type := 3, pos := "more.go:50", after := #[{ on := 0, ground := Ground.data }, { on := 1, ground := Ground.data }], guard := none }) rfl (fun K hK => ?_) AllReadyH.nil
  go_simp
  refine (Try.mayP (cap := 1) (op := oo1) (n := a) HO1.out (show VS w9.drew (w7.heap.size + 1 + 1) #[.int .i64 1, .int .i64 rows, .int .i64 nl, .int .i64 1, .int .i64 lw, .string ⟨#[]⟩, .complex .f64 0 0, .int .i64 1, .int .i64 hg, .string ⟨#[]⟩, .complex .f64 0 0, .complex .f64 0 0, .complex .f64 0 0] from S9.out) HNE.out HR1.out).mono ?_
  rintro e w10 ⟨rfl, hb⟩
  dsimp only
  have PA10 : Hid (VP w10 w7.heap.size (predA oo1 0 a)) := Lib.hid ((PA9.out).below (w := w9) ⟨hb.os, hb.tape, hb.output, hb.size, hb.block⟩)
  have PB10 : Hid (VP w10 (w7.heap.size + 1) (predA oo2 0 b)) := Lib.hid ((PB9.out).below (w := w9) ⟨hb.os, hb.tape, hb.output, hb.size, hb.block⟩)
  have S10 : Hid (VS w10 (w7.heap.size + 1 + 1) #[.int .i64 1, .int .i64 rows, .int .i64 nl, .int .i64 1, .int .i64 lw, .string ⟨#[]⟩, .complex .f64 0 0, .int .i64 1, .int .i64 hg, .string ⟨#[]⟩, .complex .f64 0 0, .complex .f64 0 0, .complex .f64 0 0]) := Lib.hid ((S9.out).below (w := w9) ⟨hb.os, hb.tape, hb.output, hb.size, hb.block⟩)
  have B10 := Lib.hid ((B9.out).trans (Below.mono (show Below w9.heap.size w9 w10 from ⟨hb.os, hb.tape, hb.output, hb.size, hb.block⟩) (B9.out).size))
  clear hb
  refine hK.out _ _ ?_ (fun hHeld => ?_)
  · exact ⟨(PA10.out).c 0, (PA10.out).c 1, (PA10.out).c 2, (PA10.out).c 3, (PA10.out).c 4, (PA10.out).c 5, (PA10.out).c 6, (PA10.out).c 7, (PA10.out).c 8, (PB10.out).c 0, (PB10.out).c 1, (PB10.out).c 2, (PB10.out).c 3, (PB10.out).c 4, (PB10.out).c 5, (PB10.out).c 6, (PB10.out).c 7, (PB10.out).c 8⟩
  clear hK K
  try simp only [Act.put, List.setIfInBounds_toArray, List.set_cons_zero, List.set_cons_succ]
  refine wpAnyH_ready (rs := [5]) (by kernel_rfl) (by simp) ?_
  refine AllReadyH.cons (o := { dst := some 76, op := Op.call { callee := Callee.value (Operand.func 15), args := #[Operand.tmp 74, Operand.tmp 75], argTypes := #[42, 49] }, type := 3, pos := "more.go:50", after := #[{ on := 3, ground := Ground.data }, { on := 4, ground := Ground.data }, { on := 2, ground := Ground.chain }], guard := none }) rfl (fun K hK => ?_) AllReadyH.nil
  go_simp
  refine (Try.mayP (cap := 1) (op := oo2) (n := b) HO2.out (show VS w10 (w7.heap.size + 1 + 1) #[.int .i64 1, .int .i64 rows, .int .i64 nl, .int .i64 1, .int .i64 lw, .string ⟨#[]⟩, .complex .f64 0 0, .int .i64 1, .int .i64 hg, .string ⟨#[]⟩, .complex .f64 0 0, .complex .f64 0 0, .complex .f64 0 0] from S10.out) HNE.out HR1.out).mono ?_
  rintro e w11 ⟨rfl, hb⟩
  dsimp only
  have PA11 : Hid (VP w11 w7.heap.size (predA oo1 0 a)) := Lib.hid ((PA10.out).below (w := w10) ⟨hb.os, hb.tape, hb.output, hb.size, hb.block⟩)
  have PB11 : Hid (VP w11 (w7.heap.size + 1) (predA oo2 0 b)) := Lib.hid ((PB10.out).below (w := w10) ⟨hb.os, hb.tape, hb.output, hb.size, hb.block⟩)
  have S11 : Hid (VS w11 (w7.heap.size + 1 + 1) #[.int .i64 1, .int .i64 rows, .int .i64 nl, .int .i64 1, .int .i64 lw, .string ⟨#[]⟩, .complex .f64 0 0, .int .i64 1, .int .i64 hg, .string ⟨#[]⟩, .complex .f64 0 0, .complex .f64 0 0, .complex .f64 0 0]) := Lib.hid ((S10.out).below (w := w10) ⟨hb.os, hb.tape, hb.output, hb.size, hb.block⟩)
  have B11 := Lib.hid ((B10.out).trans (Below.mono (show Below w10.heap.size w10 w11 from ⟨hb.os, hb.tape, hb.output, hb.size, hb.block⟩) (B10.out).size))
  clear hb
  refine hK.out _ _ ?_ (fun hHeld => ?_)
  · exact ⟨(PA11.out).c 0, (PA11.out).c 1, (PA11.out).c 2, (PA11.out).c 3, (PA11.out).c 4, (PA11.out).c 5, (PA11.out).c 6, (PA11.out).c 7, (PA11.out).c 8, (PB11.out).c 0, (PB11.out).c 1, (PB11.out).c 2, (PB11.out).c 3, (PB11.out).c 4, (PB11.out).c 5, (PB11.out).c 6, (PB11.out).c 7, (PB11.out).c 8⟩
  clear hK K
  try simp only [Act.put, List.setIfInBounds_toArray, List.set_cons_zero, List.set_cons_succ]
  refine wpAnyH_take (i := 6) (oi := { dst := some 17, op := Op.assign (Operand.tmp 73), type := 3, pos := "more.go:50", after := #[{ on := 2, ground := Ground.data }, { on := 5, ground := Ground.chain }, { on := 0, ground := Ground.phase }, { on := 1, ground := Ground.phase }, { on := 2, ground := Ground.phase }, { on := 3, ground := Ground.textOnly Departure.lateStores }, { on := 4, ground := Ground.textOnly Departure.lateStores }, { on := 5, ground := Ground.textOnly Departure.lateStoresUnsure }], guard := none }) (v := ?_) rfl (by kernel_rfl) (by kernel_rfl) (by kernel_rfl) (fun _ _ _ h => h) (Or.inl ⟨by rfl, ?_⟩) (by assumption) ?_
  rotate_left
  · (intro w hSw; (try dsimp only at hSw); go_simp; try with_reducible rfl)
  try simp only [Act.put, List.setIfInBounds_toArray, List.set_cons_zero, List.set_cons_succ]
  refine wpAnyH_take (i := 7) (oi := { dst := some 18, op := Op.assign (Operand.tmp 76), type := 3, pos := "more.go:50", after := #[{ on := 5, ground := Ground.data }, { on := 6, ground := Ground.chain }, { on := 0, ground := Ground.phase }, { on := 1, ground := Ground.phase }, { on := 2, ground := Ground.phase }, { on := 3, ground := Ground.phase }, { on := 4, ground := Ground.phase }, { on := 5, ground := Ground.phase }, { on := 6, ground := Ground.phase }], guard := none }) (v := ?_) rfl (by kernel_rfl) (by kernel_rfl) (by kernel_rfl) (fun _ _ _ h => h) (Or.inl ⟨by rfl, ?_⟩) (by assumption) ?_
  rotate_left
  · (intro w hSw; (try dsimp only at hSw); go_simp; try with_reducible rfl)
  try simp only [Act.put, List.setIfInBounds_toArray, List.set_cons_zero, List.set_cons_succ]
  refine wpAnyH_done (by kernel_rfl) ?_ _
  refine NoPanic.normal ?_
  clear PA9 PB9 S9 B9 PA10 PB10 S10 B10
  have hp := obits_in oo1 a (witsOf nl lw hg a)
  have hq := obits_in oo2 b (witsOf nl lw hg b)
  obtain ⟨p, hep⟩ : ∃ p, obits oo1 a (witsOf nl lw hg a) = p := ⟨_, rfl⟩
  obtain ⟨q, heq⟩ : ∃ q, obits oo2 b (witsOf nl lw hg b) = q := ⟨_, rfl⟩
  rw [hep] at hp ⊢
  rw [heq] at hq ⊢
  have HEP := Lib.hid hep
  have HEQ := Lib.hid heq
  have HPP := Lib.hid hp
  have HQQ := Lib.hid hq
  clear hep heq hp hq
  have htv := tV_is p HPP.out
  unfold tV at htv
  go_upto_region 11 with fail
  try rw [htv]
  clear htv
  go_wp2
  go_loopw [20, 21, 22] (fun c1 c2 t wr => ∃ i : Nat, i ≤ 3 ∧ t = .int .i64 i ∧ c1 = .int .i64 (fA p q (3 * i)) ∧ c2 = .int .i64 (fO p q (3 * i)) ∧ Below w11.heap.size w11 wr) (fun _ _ t _ => 3 - (intOf t).toNat)
  case atStart => exact ⟨0, Nat.zero_le _, rfl, rfl, rfl, Below.refl _ _⟩
  case round =>
    obtain ⟨i, hi, rfl, rfl, rfl, hb⟩ := hrel
    have HB := Lib.hid hb
    clear hb
    by_cases hlt : i < 3
    · have hD : decide ((i : Int) < 3) = true := by simp; omega
      have hD' : decide (i < 3) = true := by simpa using hlt
      go_wp2
      go_loopw [20, 21, 23] (fun c1 c2 t wr => ∃ k : Nat, k ≤ 3 ∧ t = .int .i64 k ∧ c1 = .int .i64 (fA p q (3 * i + k)) ∧ c2 = .int .i64 (fO p q (3 * i + k)) ∧ Below w11.heap.size w11 wr) (fun _ _ t _ => 3 - (intOf t).toNat)
      case atStart => exact ⟨0, Nat.zero_le _, rfl, rfl, rfl, HB.out⟩
      case round =>
        obtain ⟨k, hk, rfl, rfl, rfl, hb⟩ := hrel
        have HB2 := Lib.hid hb
        clear hb
        by_cases hlt2 : k < 3
        · have hE : decide ((k : Int) < 3) = true := by simp; omega
          have hE' : decide (k < 3) = true := by simpa using hlt2
          have hi3 : i = 0 ∨ i = 1 ∨ i = 2 := by omega
          have hk3 : k = 0 ∨ k = 1 ∨ k = 2 := by omega
          rcases hi3 with rfl | rfl | rfl
          · rcases hk3 with rfl | rfl | rfl
            · skip
              by_cases hP : hasb p 0 = true
              · by_cases hQ : hasb q 0 = true
                · skip
                  have gp : (Go.bits .and .i64 (p) 1 == 0) = false := by rw [(bit_is p HPP.out).1, hP]; rfl
                  have gp' : (Go.bits .and .i64 (p) 1 = 0) = False := by have := gp; simpa using this
                  have gq : (Go.bits .and .i64 (q) 1 == 0) = false := by rw [(bit_is q HQQ.out).1, hQ]; rfl
                  have gq' : (Go.bits .and .i64 (q) 1 = 0) = False := by have := gq; simpa using this
                  have fa : fA p q (0 + 1) = lor (fA p q 0) (shA 0 0) := if_pos (by show (hasb p (0 / 3) && hasb q (0 % 3)) = true; rw [show 0 / 3 = 0 from rfl, show 0 % 3 = 0 from rfl, hP, hQ]; rfl)
                  have fo : fO p q (0 + 1) = lor (fO p q 0) (shO 0 0) := if_pos (by show (hasb p (0 / 3) && hasb q (0 % 3)) = true; rw [show 0 / 3 = 0 from rfl, show 0 % 3 = 0 from rfl, hP, hQ]; rfl)
                  have FA := Lib.hid fa
                  have FO := Lib.hid fo
                  have hA := (Below.refl wr.heap.size wr).alloc (Nat.le_refl _) (.cells #[.int .i64 0, .int .i64 2, .int .i64 1] 3)
                  have BB := Lib.hid ((HB2.out).trans (hA.mono (HB2.out).size))
                  have c0 : (wr.alloc (.cells #[.int .i64 0, .int .i64 2, .int .i64 1] 3)).cell? ⟨wr.heap.size, 0, none⟩ = some (.int .i64 0) := by rw [cell_of_row _ _ _ _ 3 _ (alloc_here wr _)]; rfl
                  have c1 : (wr.alloc (.cells #[.int .i64 0, .int .i64 2, .int .i64 1] 3)).cell? ⟨wr.heap.size, 1, none⟩ = some (.int .i64 2) := by rw [cell_of_row _ _ _ _ 3 _ (alloc_here wr _)]; rfl
                  have c2 : (wr.alloc (.cells #[.int .i64 0, .int .i64 2, .int .i64 1] 3)).cell? ⟨wr.heap.size, 2, none⟩ = some (.int .i64 1) := by rw [cell_of_row _ _ _ _ 3 _ (alloc_here wr _)]; rfl
                  clear fa fo hA
                  go_upto_region 20 with fail
                  refine wp_region_noPanic ?_
                  refine wp_region_held_drew (S := (fun W => W.cell? ⟨wr.heap.size, 0, none⟩ = some (.int .i64 0) ∧ W.cell? ⟨wr.heap.size, 1, none⟩ = some (.int .i64 2) ∧ W.cell? ⟨wr.heap.size, 2, none⟩ = some (.int .i64 1))) (by kernel_rfl) ?_ (fun hHeld => ?_)
                  · exact ⟨c0, c1, c2⟩
                  refine wpAnyH_take (i := 0) (oi := { dst := some 110, op := Op.move (Operand.tmp 24), type := 51, pos := "more.go:59", after := #[], guard := none }) (v := ?_) rfl (by kernel_rfl) (by kernel_rfl) (by kernel_rfl) (fun _ _ _ h => h) (Or.inl ⟨by rfl, ?_⟩) (by assumption) ?_
                  rotate_left
                  · (intro w hSw; (try dsimp only at hSw); go_simp; try with_reducible rfl)
                  try simp only [Act.put, List.setIfInBounds_toArray, List.set_cons_zero, List.set_cons_succ]
                  refine wpAnyH_take (i := 1) (oi := { dst := some 111, op := Op.move (Operand.tmp 22), type := 3, pos := "more.go:59", after := #[], guard := none }) (v := ?_) rfl (by kernel_rfl) (by kernel_rfl) (by kernel_rfl) (fun _ _ _ h => h) (Or.inl ⟨by rfl, ?_⟩) (by assumption) ?_
                  rotate_left
                  · (intro w hSw; (try dsimp only at hSw); go_simp; try with_reducible rfl)
                  try simp only [Act.put, List.setIfInBounds_toArray, List.set_cons_zero, List.set_cons_succ]
                  refine wpAnyH_take (i := 2) (oi := { dst := some 112, op := Op.indexAddr 51 (Operand.tmp 110) (Operand.tmp 111), type := 0, pos := "more.go:59", after := #[{ on := 0, ground := Ground.data }, { on := 1, ground := Ground.data }], guard := none }) (v := ?_) rfl (by kernel_rfl) (by kernel_rfl) (by kernel_rfl) (fun _ _ _ h => h) (Or.inl ⟨by rfl, ?_⟩) (by assumption) ?_
                  rotate_left
                  · (intro w hSw; (try dsimp only at hSw); go_simp; try with_reducible rfl)
                  try simp only [Act.put, List.setIfInBounds_toArray, List.set_cons_zero, List.set_cons_succ]
                  refine wpAnyH_take (i := 3) (oi := { dst := some 113, op := Op.load 3 (Operand.tmp 112), type := 3, pos := "more.go:59", after := #[{ on := 2, ground := Ground.data }], guard := none }) (v := ?_) rfl (by kernel_rfl) (by kernel_rfl) (by kernel_rfl) (fun _ _ _ h => h) (Or.inl ⟨by rfl, ?_⟩) (by assumption) ?_
                  rotate_left
                  · (intro w hSw; (try dsimp only at hSw); go_simp; try with_reducible rfl)
                  try simp only [Act.put, List.setIfInBounds_toArray, List.set_cons_zero, List.set_cons_succ]
                  refine wpAnyH_take (i := 4) (oi := { dst := some 114, op := Op.move (Operand.tmp 24), type := 51, pos := "more.go:59", after := #[], guard := none }) (v := ?_) rfl (by kernel_rfl) (by kernel_rfl) (by kernel_rfl) (fun _ _ _ h => h) (Or.inl ⟨by rfl, ?_⟩) (by assumption) ?_
                  rotate_left
                  · (intro w hSw; (try dsimp only at hSw); go_simp; try with_reducible rfl)
                  try simp only [Act.put, List.setIfInBounds_toArray, List.set_cons_zero, List.set_cons_succ]
                  refine wpAnyH_take (i := 5) (oi := { dst := some 115, op := Op.move (Operand.tmp 23), type := 3, pos := "more.go:59", after := #[], guard := none }) (v := ?_) rfl (by kernel_rfl) (by kernel_rfl) (by kernel_rfl) (fun _ _ _ h => h) (Or.inl ⟨by rfl, ?_⟩) (by assumption) ?_
                  rotate_left
                  · (intro w hSw; (try dsimp only at hSw); go_simp; try with_reducible rfl)
                  try simp only [Act.put, List.setIfInBounds_toArray, List.set_cons_zero, List.set_cons_succ]
                  refine wpAnyH_take (i := 6) (oi := { dst := some 116, op := Op.indexAddr 51 (Operand.tmp 114) (Operand.tmp 115), type := 0, pos := "more.go:59", after := #[{ on := 4, ground := Ground.data }, { on := 5, ground := Ground.data }], guard := none }) (v := ?_) rfl (by kernel_rfl) (by kernel_rfl) (by kernel_rfl) (fun _ _ _ h => h) (Or.inl ⟨by rfl, ?_⟩) (by assumption) ?_
                  rotate_left
                  · (intro w hSw; (try dsimp only at hSw); go_simp; try with_reducible rfl)
                  try simp only [Act.put, List.setIfInBounds_toArray, List.set_cons_zero, List.set_cons_succ]
                  refine wpAnyH_take (i := 7) (oi := { dst := some 117, op := Op.load 3 (Operand.tmp 116), type := 3, pos := "more.go:59", after := #[{ on := 6, ground := Ground.data }], guard := none }) (v := ?_) rfl (by kernel_rfl) (by kernel_rfl) (by kernel_rfl) (fun _ _ _ h => h) (Or.inl ⟨by rfl, ?_⟩) (by assumption) ?_
                  rotate_left
                  · (intro w hSw; (try dsimp only at hSw); go_simp; try with_reducible rfl)
                  try simp only [Act.put, List.setIfInBounds_toArray, List.set_cons_zero, List.set_cons_succ]
                  refine wpAnyH_take (i := 8) (oi := { dst := some 118, op := Op.call { callee := Callee.builtin Builtin.min, args := #[Operand.tmp 113, Operand.tmp 117], argTypes := #[3, 3] }, type := 3, pos := "more.go:59", after := #[{ on := 3, ground := Ground.data }, { on := 7, ground := Ground.data }], guard := none }) (v := ?_) rfl (by kernel_rfl) (by kernel_rfl) (by kernel_rfl) (fun _ _ _ h => h) (Or.inl ⟨by rfl, ?_⟩) (by assumption) ?_
                  rotate_left
                  · (intro w hSw; (try dsimp only at hSw); go_simp; try with_reducible rfl)
                  try simp only [Act.put, List.setIfInBounds_toArray, List.set_cons_zero, List.set_cons_succ]
                  refine wpAnyH_take (i := 9) (oi := { dst := some 25, op := Op.assign (Operand.tmp 118), type := 3, pos := "more.go:59", after := #[{ on := 8, ground := Ground.data }, { on := 0, ground := Ground.phase }, { on := 1, ground := Ground.phase }, { on := 2, ground := Ground.phase }, { on := 3, ground := Ground.phase }, { on := 4, ground := Ground.phase }, { on := 5, ground := Ground.phase }, { on := 6, ground := Ground.phase }, { on := 7, ground := Ground.phase }, { on := 8, ground := Ground.phase }], guard := none }) (v := ?_) rfl (by kernel_rfl) (by kernel_rfl) (by kernel_rfl) (fun _ _ _ h => h) (Or.inl ⟨by rfl, ?_⟩) (by assumption) ?_
                  rotate_left
                  · (intro w hSw; (try dsimp only at hSw); go_simp; try with_reducible rfl)
                  try simp only [Act.put, List.setIfInBounds_toArray, List.set_cons_zero, List.set_cons_succ]
                  refine wpAnyH_done (by kernel_rfl) ?_ _
                  refine NoPanic.normal ?_
                  have k0 : (wr.alloc (.cells #[.int .i64 0, .int .i64 2, .int .i64 1] 3)).drew.cell? ⟨wr.heap.size, 0, none⟩ = some (.int .i64 0) := c0
                  have k1 : (wr.alloc (.cells #[.int .i64 0, .int .i64 2, .int .i64 1] 3)).drew.cell? ⟨wr.heap.size, 1, none⟩ = some (.int .i64 2) := c1
                  have k2 : (wr.alloc (.cells #[.int .i64 0, .int .i64 2, .int .i64 1] 3)).drew.cell? ⟨wr.heap.size, 2, none⟩ = some (.int .i64 1) := c2
                  go_upto_region 21 with fail
                  refine wp_region_noPanic ?_
                  refine wp_region_held_drew (S := (fun W => W.cell? ⟨wr.heap.size, 0, none⟩ = some (.int .i64 0) ∧ W.cell? ⟨wr.heap.size, 1, none⟩ = some (.int .i64 2) ∧ W.cell? ⟨wr.heap.size, 2, none⟩ = some (.int .i64 1))) (by kernel_rfl) ?_ (fun hHeld => ?_)
                  · exact ⟨k0, k1, k2⟩
                  refine wpAnyH_take (i := 0) (oi := { dst := some 119, op := Op.move (Operand.tmp 24), type := 51, pos := "more.go:60", after := #[], guard := none }) (v := ?_) rfl (by kernel_rfl) (by kernel_rfl) (by kernel_rfl) (fun _ _ _ h => h) (Or.inl ⟨by rfl, ?_⟩) (by assumption) ?_
                  rotate_left
                  · (intro w hSw; (try dsimp only at hSw); go_simp; try with_reducible rfl)
                  try simp only [Act.put, List.setIfInBounds_toArray, List.set_cons_zero, List.set_cons_succ]
                  refine wpAnyH_take (i := 1) (oi := { dst := some 120, op := Op.move (Operand.tmp 22), type := 3, pos := "more.go:60", after := #[], guard := none }) (v := ?_) rfl (by kernel_rfl) (by kernel_rfl) (by kernel_rfl) (fun _ _ _ h => h) (Or.inl ⟨by rfl, ?_⟩) (by assumption) ?_
                  rotate_left
                  · (intro w hSw; (try dsimp only at hSw); go_simp; try with_reducible rfl)
                  try simp only [Act.put, List.setIfInBounds_toArray, List.set_cons_zero, List.set_cons_succ]
                  refine wpAnyH_take (i := 2) (oi := { dst := some 121, op := Op.indexAddr 51 (Operand.tmp 119) (Operand.tmp 120), type := 0, pos := "more.go:60", after := #[{ on := 0, ground := Ground.data }, { on := 1, ground := Ground.data }], guard := none }) (v := ?_) rfl (by kernel_rfl) (by kernel_rfl) (by kernel_rfl) (fun _ _ _ h => h) (Or.inl ⟨by rfl, ?_⟩) (by assumption) ?_
                  rotate_left
                  · (intro w hSw; (try dsimp only at hSw); go_simp; try with_reducible rfl)
                  try simp only [Act.put, List.setIfInBounds_toArray, List.set_cons_zero, List.set_cons_succ]
                  refine wpAnyH_take (i := 3) (oi := { dst := some 122, op := Op.load 3 (Operand.tmp 121), type := 3, pos := "more.go:60", after := #[{ on := 2, ground := Ground.data }], guard := none }) (v := ?_) rfl (by kernel_rfl) (by kernel_rfl) (by kernel_rfl) (fun _ _ _ h => h) (Or.inl ⟨by rfl, ?_⟩) (by assumption) ?_
                  rotate_left
                  · (intro w hSw; (try dsimp only at hSw); go_simp; try with_reducible rfl)
                  try simp only [Act.put, List.setIfInBounds_toArray, List.set_cons_zero, List.set_cons_succ]
                  refine wpAnyH_take (i := 4) (oi := { dst := some 123, op := Op.move (Operand.tmp 24), type := 51, pos := "more.go:60", after := #[], guard := none }) (v := ?_) rfl (by kernel_rfl) (by kernel_rfl) (by kernel_rfl) (fun _ _ _ h => h) (Or.inl ⟨by rfl, ?_⟩) (by assumption) ?_
                  rotate_left
                  · (intro w hSw; (try dsimp only at hSw); go_simp; try with_reducible rfl)
                  try simp only [Act.put, List.setIfInBounds_toArray, List.set_cons_zero, List.set_cons_succ]
                  refine wpAnyH_take (i := 5) (oi := { dst := some 124, op := Op.move (Operand.tmp 23), type := 3, pos := "more.go:60", after := #[], guard := none }) (v := ?_) rfl (by kernel_rfl) (by kernel_rfl) (by kernel_rfl) (fun _ _ _ h => h) (Or.inl ⟨by rfl, ?_⟩) (by assumption) ?_
                  rotate_left
                  · (intro w hSw; (try dsimp only at hSw); go_simp; try with_reducible rfl)
                  try simp only [Act.put, List.setIfInBounds_toArray, List.set_cons_zero, List.set_cons_succ]
                  refine wpAnyH_take (i := 6) (oi := { dst := some 125, op := Op.indexAddr 51 (Operand.tmp 123) (Operand.tmp 124), type := 0, pos := "more.go:60", after := #[{ on := 4, ground := Ground.data }, { on := 5, ground := Ground.data }], guard := none }) (v := ?_) rfl (by kernel_rfl) (by kernel_rfl) (by kernel_rfl) (fun _ _ _ h => h) (Or.inl ⟨by rfl, ?_⟩) (by assumption) ?_
                  rotate_left
                  · (intro w hSw; (try dsimp only at hSw); go_simp; try with_reducible rfl)
                  try simp only [Act.put, List.setIfInBounds_toArray, List.set_cons_zero, List.set_cons_succ]
                  refine wpAnyH_take (i := 7) (oi := { dst := some 126, op := Op.load 3 (Operand.tmp 125), type := 3, pos := "more.go:60", after := #[{ on := 6, ground := Ground.data }], guard := none }) (v := ?_) rfl (by kernel_rfl) (by kernel_rfl) (by kernel_rfl) (fun _ _ _ h => h) (Or.inl ⟨by rfl, ?_⟩) (by assumption) ?_
                  rotate_left
                  · (intro w hSw; (try dsimp only at hSw); go_simp; try with_reducible rfl)
                  try simp only [Act.put, List.setIfInBounds_toArray, List.set_cons_zero, List.set_cons_succ]
                  refine wpAnyH_take (i := 8) (oi := { dst := some 127, op := Op.call { callee := Callee.builtin Builtin.max, args := #[Operand.tmp 122, Operand.tmp 126], argTypes := #[3, 3] }, type := 3, pos := "more.go:60", after := #[{ on := 3, ground := Ground.data }, { on := 7, ground := Ground.data }], guard := none }) (v := ?_) rfl (by kernel_rfl) (by kernel_rfl) (by kernel_rfl) (fun _ _ _ h => h) (Or.inl ⟨by rfl, ?_⟩) (by assumption) ?_
                  rotate_left
                  · (intro w hSw; (try dsimp only at hSw); go_simp; try with_reducible rfl)
                  try simp only [Act.put, List.setIfInBounds_toArray, List.set_cons_zero, List.set_cons_succ]
                  refine wpAnyH_take (i := 9) (oi := { dst := some 26, op := Op.assign (Operand.tmp 127), type := 3, pos := "more.go:60", after := #[{ on := 8, ground := Ground.data }, { on := 0, ground := Ground.phase }, { on := 1, ground := Ground.phase }, { on := 2, ground := Ground.phase }, { on := 3, ground := Ground.phase }, { on := 4, ground := Ground.phase }, { on := 5, ground := Ground.phase }, { on := 6, ground := Ground.phase }, { on := 7, ground := Ground.phase }, { on := 8, ground := Ground.phase }], guard := none }) (v := ?_) rfl (by kernel_rfl) (by kernel_rfl) (by kernel_rfl) (fun _ _ _ h => h) (Or.inl ⟨by rfl, ?_⟩) (by assumption) ?_
                  rotate_left
                  · (intro w hSw; (try dsimp only at hSw); go_simp; try with_reducible rfl)
                  try simp only [Act.put, List.setIfInBounds_toArray, List.set_cons_zero, List.set_cons_succ]
                  refine wpAnyH_done (by kernel_rfl) ?_ _
                  refine NoPanic.normal ?_
                  have l0 : (wr.alloc (.cells #[.int .i64 0, .int .i64 2, .int .i64 1] 3)).drew.drew.cell? ⟨wr.heap.size, 0, none⟩ = some (.int .i64 0) := c0
                  have l1 : (wr.alloc (.cells #[.int .i64 0, .int .i64 2, .int .i64 1] 3)).drew.drew.cell? ⟨wr.heap.size, 1, none⟩ = some (.int .i64 2) := c1
                  have l2 : (wr.alloc (.cells #[.int .i64 0, .int .i64 2, .int .i64 1] 3)).drew.drew.cell? ⟨wr.heap.size, 2, none⟩ = some (.int .i64 1) := c2
                  go_wp2_with fail
                  exact ⟨⟨0 + 1, by omega, rfl, congrArg (Value.int .i64) FA.out.symm, congrArg (Value.int .i64) FO.out.symm, (BB.out).drew.drew⟩, by simp [intOf]⟩
                · have hQ' : hasb q 0 = false := by simpa using hQ
                  have gp : (Go.bits .and .i64 (p) 1 == 0) = false := by rw [(bit_is p HPP.out).1, hP]; rfl
                  have gp' : (Go.bits .and .i64 (p) 1 = 0) = False := by have := gp; simpa using this
                  have gq : (Go.bits .and .i64 (q) 1 == 0) = true := by rw [(bit_is q HQQ.out).1, hQ']; rfl
                  have gq' : (Go.bits .and .i64 (q) 1 = 0) = True := by have := gq; simpa using this
                  have hn : (hasb p (0 / 3) && hasb q (0 % 3)) = false := by rw [show 0 / 3 = 0 from rfl, show 0 % 3 = 0 from rfl, hP, hQ']; rfl
                  have fa : fA p q (0 + 1) = fA p q 0 := if_neg (by rw [hn]; decide)
                  have fo : fO p q (0 + 1) = fO p q 0 := if_neg (by rw [hn]; decide)
                  have FA := Lib.hid fa
                  have FO := Lib.hid fo
                  clear fa fo hn hQ
                  go_wp2_with fail
                  exact ⟨⟨0 + 1, by omega, rfl, congrArg (Value.int .i64) FA.out.symm, congrArg (Value.int .i64) FO.out.symm, HB2.out⟩, by simp [intOf]⟩
              · have hP' : hasb p 0 = false := by simpa using hP
                have gp : (Go.bits .and .i64 (p) 1 == 0) = true := by rw [(bit_is p HPP.out).1, hP']; rfl
                have gp' : (Go.bits .and .i64 (p) 1 = 0) = True := by have := gp; simpa using this
                have hn : (hasb p (0 / 3) && hasb q (0 % 3)) = false := by rw [show 0 / 3 = 0 from rfl, hP']; rfl
                have fa : fA p q (0 + 1) = fA p q 0 := if_neg (by rw [hn]; decide)
                have fo : fO p q (0 + 1) = fO p q 0 := if_neg (by rw [hn]; decide)
                have FA := Lib.hid fa
                have FO := Lib.hid fo
                clear fa fo hn hP
                go_wp2_with fail
                exact ⟨⟨0 + 1, by omega, rfl, congrArg (Value.int .i64) FA.out.symm, congrArg (Value.int .i64) FO.out.symm, HB2.out⟩, by simp [intOf]⟩
            · skip
              by_cases hP : hasb p 0 = true
              · by_cases hQ : hasb q 1 = true
                · skip
                  have gp : (Go.bits .and .i64 (p) 1 == 0) = false := by rw [(bit_is p HPP.out).1, hP]; rfl
                  have gp' : (Go.bits .and .i64 (p) 1 = 0) = False := by have := gp; simpa using this
                  have gq : (Go.bits .and .i64 (q / 2) 1 == 0) = false := by rw [(bit_is q HQQ.out).2.1, hQ]; rfl
                  have gq' : (Go.bits .and .i64 (q / 2) 1 = 0) = False := by have := gq; simpa using this
                  have fa : fA p q (1 + 1) = lor (fA p q 1) (shA 0 1) := if_pos (by show (hasb p (1 / 3) && hasb q (1 % 3)) = true; rw [show 1 / 3 = 0 from rfl, show 1 % 3 = 1 from rfl, hP, hQ]; rfl)
                  have fo : fO p q (1 + 1) = lor (fO p q 1) (shO 0 1) := if_pos (by show (hasb p (1 / 3) && hasb q (1 % 3)) = true; rw [show 1 / 3 = 0 from rfl, show 1 % 3 = 1 from rfl, hP, hQ]; rfl)
                  have FA := Lib.hid fa
                  have FO := Lib.hid fo
                  have hA := (Below.refl wr.heap.size wr).alloc (Nat.le_refl _) (.cells #[.int .i64 0, .int .i64 2, .int .i64 1] 3)
                  have BB := Lib.hid ((HB2.out).trans (hA.mono (HB2.out).size))
                  have c0 : (wr.alloc (.cells #[.int .i64 0, .int .i64 2, .int .i64 1] 3)).cell? ⟨wr.heap.size, 0, none⟩ = some (.int .i64 0) := by rw [cell_of_row _ _ _ _ 3 _ (alloc_here wr _)]; rfl
                  have c1 : (wr.alloc (.cells #[.int .i64 0, .int .i64 2, .int .i64 1] 3)).cell? ⟨wr.heap.size, 1, none⟩ = some (.int .i64 2) := by rw [cell_of_row _ _ _ _ 3 _ (alloc_here wr _)]; rfl
                  have c2 : (wr.alloc (.cells #[.int .i64 0, .int .i64 2, .int .i64 1] 3)).cell? ⟨wr.heap.size, 2, none⟩ = some (.int .i64 1) := by rw [cell_of_row _ _ _ _ 3 _ (alloc_here wr _)]; rfl
                  clear fa fo hA
                  go_upto_region 20 with fail
                  refine wp_region_noPanic ?_
                  refine wp_region_held_drew (S := (fun W => W.cell? ⟨wr.heap.size, 0, none⟩ = some (.int .i64 0) ∧ W.cell? ⟨wr.heap.size, 1, none⟩ = some (.int .i64 2) ∧ W.cell? ⟨wr.heap.size, 2, none⟩ = some (.int .i64 1))) (by kernel_rfl) ?_ (fun hHeld => ?_)
                  · exact ⟨c0, c1, c2⟩
                  refine wpAnyH_take (i := 0) (oi := { dst := some 110, op := Op.move (Operand.tmp 24), type := 51, pos := "more.go:59", after := #[], guard := none }) (v := ?_) rfl (by kernel_rfl) (by kernel_rfl) (by kernel_rfl) (fun _ _ _ h => h) (Or.inl ⟨by rfl, ?_⟩) (by assumption) ?_
                  rotate_left
                  · (intro w hSw; (try dsimp only at hSw); go_simp; try with_reducible rfl)
                  try simp only [Act.put, List.setIfInBounds_toArray, List.set_cons_zero, List.set_cons_succ]
                  refine wpAnyH_take (i := 1) (oi := { dst := some 111, op := Op.move (Operand.tmp 22), type := 3, pos := "more.go:59", after := #[], guard := none }) (v := ?_) rfl (by kernel_rfl) (by kernel_rfl) (by kernel_rfl) (fun _ _ _ h => h) (Or.inl ⟨by rfl, ?_⟩) (by assumption) ?_
                  rotate_left
                  · (intro w hSw; (try dsimp only at hSw); go_simp; try with_reducible rfl)
                  try simp only [Act.put, List.setIfInBounds_toArray, List.set_cons_zero, List.set_cons_succ]
                  refine wpAnyH_take (i := 2) (oi := { dst := some 112, op := Op.indexAddr 51 (Operand.tmp 110) (Operand.tmp 111), type := 0, pos := "more.go:59", after := #[{ on := 0, ground := Ground.data }, { on := 1, ground := Ground.data }], guard := none }) (v := ?_) rfl (by kernel_rfl) (by kernel_rfl) (by kernel_rfl) (fun _ _ _ h => h) (Or.inl ⟨by rfl, ?_⟩) (by assumption) ?_
                  rotate_left
                  · (intro w hSw; (try dsimp only at hSw); go_simp; try with_reducible rfl)
                  try simp only [Act.put, List.setIfInBounds_toArray, List.set_cons_zero, List.set_cons_succ]
                  refine wpAnyH_take (i := 3) (oi := { dst := some 113, op := Op.load 3 (Operand.tmp 112), type := 3, pos := "more.go:59", after := #[{ on := 2, ground := Ground.data }], guard := none }) (v := ?_) rfl (by kernel_rfl) (by kernel_rfl) (by kernel_rfl) (fun _ _ _ h => h) (Or.inl ⟨by rfl, ?_⟩) (by assumption) ?_
                  rotate_left
                  · (intro w hSw; (try dsimp only at hSw); go_simp; try with_reducible rfl)
                  try simp only [Act.put, List.setIfInBounds_toArray, List.set_cons_zero, List.set_cons_succ]
                  refine wpAnyH_take (i := 4) (oi := { dst := some 114, op := Op.move (Operand.tmp 24), type := 51, pos := "more.go:59", after := #[], guard := none }) (v := ?_) rfl (by kernel_rfl) (by kernel_rfl) (by kernel_rfl) (fun _ _ _ h => h) (Or.inl ⟨by rfl, ?_⟩) (by assumption) ?_
                  rotate_left
                  · (intro w hSw; (try dsimp only at hSw); go_simp; try with_reducible rfl)
                  try simp only [Act.put, List.setIfInBounds_toArray, List.set_cons_zero, List.set_cons_succ]
                  refine wpAnyH_take (i := 5) (oi := { dst := some 115, op := Op.move (Operand.tmp 23), type := 3, pos := "more.go:59", after := #[], guard := none }) (v := ?_) rfl (by kernel_rfl) (by kernel_rfl) (by kernel_rfl) (fun _ _ _ h => h) (Or.inl ⟨by rfl, ?_⟩) (by assumption) ?_
                  rotate_left
                  · (intro w hSw; (try dsimp only at hSw); go_simp; try with_reducible rfl)
                  try simp only [Act.put, List.setIfInBounds_toArray, List.set_cons_zero, List.set_cons_succ]
                  refine wpAnyH_take (i := 6) (oi := { dst := some 116, op := Op.indexAddr 51 (Operand.tmp 114) (Operand.tmp 115), type := 0, pos := "more.go:59", after := #[{ on := 4, ground := Ground.data }, { on := 5, ground := Ground.data }], guard := none }) (v := ?_) rfl (by kernel_rfl) (by kernel_rfl) (by kernel_rfl) (fun _ _ _ h => h) (Or.inl ⟨by rfl, ?_⟩) (by assumption) ?_
                  rotate_left
                  · (intro w hSw; (try dsimp only at hSw); go_simp; try with_reducible rfl)
                  try simp only [Act.put, List.setIfInBounds_toArray, List.set_cons_zero, List.set_cons_succ]
                  refine wpAnyH_take (i := 7) (oi := { dst := some 117, op := Op.load 3 (Operand.tmp 116), type := 3, pos := "more.go:59", after := #[{ on := 6, ground := Ground.data }], guard := none }) (v := ?_) rfl (by kernel_rfl) (by kernel_rfl) (by kernel_rfl) (fun _ _ _ h => h) (Or.inl ⟨by rfl, ?_⟩) (by assumption) ?_
                  rotate_left
                  · (intro w hSw; (try dsimp only at hSw); go_simp; try with_reducible rfl)
                  try simp only [Act.put, List.setIfInBounds_toArray, List.set_cons_zero, List.set_cons_succ]
                  refine wpAnyH_take (i := 8) (oi := { dst := some 118, op := Op.call { callee := Callee.builtin Builtin.min, args := #[Operand.tmp 113, Operand.tmp 117], argTypes := #[3, 3] }, type := 3, pos := "more.go:59", after := #[{ on := 3, ground := Ground.data }, { on := 7, ground := Ground.data }], guard := none }) (v := ?_) rfl (by kernel_rfl) (by kernel_rfl) (by kernel_rfl) (fun _ _ _ h => h) (Or.inl ⟨by rfl, ?_⟩) (by assumption) ?_
                  rotate_left
                  · (intro w hSw; (try dsimp only at hSw); go_simp; try with_reducible rfl)
                  try simp only [Act.put, List.setIfInBounds_toArray, List.set_cons_zero, List.set_cons_succ]
                  refine wpAnyH_take (i := 9) (oi := { dst := some 25, op := Op.assign (Operand.tmp 118), type := 3, pos := "more.go:59", after := #[{ on := 8, ground := Ground.data }, { on := 0, ground := Ground.phase }, { on := 1, ground := Ground.phase }, { on := 2, ground := Ground.phase }, { on := 3, ground := Ground.phase }, { on := 4, ground := Ground.phase }, { on := 5, ground := Ground.phase }, { on := 6, ground := Ground.phase }, { on := 7, ground := Ground.phase }, { on := 8, ground := Ground.phase }], guard := none }) (v := ?_) rfl (by kernel_rfl) (by kernel_rfl) (by kernel_rfl) (fun _ _ _ h => h) (Or.inl ⟨by rfl, ?_⟩) (by assumption) ?_
                  rotate_left
                  · (intro w hSw; (try dsimp only at hSw); go_simp; try with_reducible rfl)
                  try simp only [Act.put, List.setIfInBounds_toArray, List.set_cons_zero, List.set_cons_succ]
                  refine wpAnyH_done (by kernel_rfl) ?_ _
                  refine NoPanic.normal ?_
                  have k0 : (wr.alloc (.cells #[.int .i64 0, .int .i64 2, .int .i64 1] 3)).drew.cell? ⟨wr.heap.size, 0, none⟩ = some (.int .i64 0) := c0
                  have k1 : (wr.alloc (.cells #[.int .i64 0, .int .i64 2, .int .i64 1] 3)).drew.cell? ⟨wr.heap.size, 1, none⟩ = some (.int .i64 2) := c1
                  have k2 : (wr.alloc (.cells #[.int .i64 0, .int .i64 2, .int .i64 1] 3)).drew.cell? ⟨wr.heap.size, 2, none⟩ = some (.int .i64 1) := c2
                  go_upto_region 21 with fail
                  refine wp_region_noPanic ?_
                  refine wp_region_held_drew (S := (fun W => W.cell? ⟨wr.heap.size, 0, none⟩ = some (.int .i64 0) ∧ W.cell? ⟨wr.heap.size, 1, none⟩ = some (.int .i64 2) ∧ W.cell? ⟨wr.heap.size, 2, none⟩ = some (.int .i64 1))) (by kernel_rfl) ?_ (fun hHeld => ?_)
                  · exact ⟨k0, k1, k2⟩
                  refine wpAnyH_take (i := 0) (oi := { dst := some 119, op := Op.move (Operand.tmp 24), type := 51, pos := "more.go:60", after := #[], guard := none }) (v := ?_) rfl (by kernel_rfl) (by kernel_rfl) (by kernel_rfl) (fun _ _ _ h => h) (Or.inl ⟨by rfl, ?_⟩) (by assumption) ?_
                  rotate_left
                  · (intro w hSw; (try dsimp only at hSw); go_simp; try with_reducible rfl)
                  try simp only [Act.put, List.setIfInBounds_toArray, List.set_cons_zero, List.set_cons_succ]
                  refine wpAnyH_take (i := 1) (oi := { dst := some 120, op := Op.move (Operand.tmp 22), type := 3, pos := "more.go:60", after := #[], guard := none }) (v := ?_) rfl (by kernel_rfl) (by kernel_rfl) (by kernel_rfl) (fun _ _ _ h => h) (Or.inl ⟨by rfl, ?_⟩) (by assumption) ?_
                  rotate_left
                  · (intro w hSw; (try dsimp only at hSw); go_simp; try with_reducible rfl)
                  try simp only [Act.put, List.setIfInBounds_toArray, List.set_cons_zero, List.set_cons_succ]
                  refine wpAnyH_take (i := 2) (oi := { dst := some 121, op := Op.indexAddr 51 (Operand.tmp 119) (Operand.tmp 120), type := 0, pos := "more.go:60", after := #[{ on := 0, ground := Ground.data }, { on := 1, ground := Ground.data }], guard := none }) (v := ?_) rfl (by kernel_rfl) (by kernel_rfl) (by kernel_rfl) (fun _ _ _ h => h) (Or.inl ⟨by rfl, ?_⟩) (by assumption) ?_
                  rotate_left
                  · (intro w hSw; (try dsimp only at hSw); go_simp; try with_reducible rfl)
                  try simp only [Act.put, List.setIfInBounds_toArray, List.set_cons_zero, List.set_cons_succ]
                  refine wpAnyH_take (i := 3) (oi := { dst := some 122, op := Op.load 3 (Operand.tmp 121), type := 3, pos := "more.go:60", after := #[{ on := 2, ground := Ground.data }], guard := none }) (v := ?_) rfl (by kernel_rfl) (by kernel_rfl) (by kernel_rfl) (fun _ _ _ h => h) (Or.inl ⟨by rfl, ?_⟩) (by assumption) ?_
                  rotate_left
                  · (intro w hSw; (try dsimp only at hSw); go_simp; try with_reducible rfl)
                  try simp only [Act.put, List.setIfInBounds_toArray, List.set_cons_zero, List.set_cons_succ]
                  refine wpAnyH_take (i := 4) (oi := { dst := some 123, op := Op.move (Operand.tmp 24), type := 51, pos := "more.go:60", after := #[], guard := none }) (v := ?_) rfl (by kernel_rfl) (by kernel_rfl) (by kernel_rfl) (fun _ _ _ h => h) (Or.inl ⟨by rfl, ?_⟩) (by assumption) ?_
                  rotate_left
                  · (intro w hSw; (try dsimp only at hSw); go_simp; try with_reducible rfl)
                  try simp only [Act.put, List.setIfInBounds_toArray, List.set_cons_zero, List.set_cons_succ]
                  refine wpAnyH_take (i := 5) (oi := { dst := some 124, op := Op.move (Operand.tmp 23), type := 3, pos := "more.go:60", after := #[], guard := none }) (v := ?_) rfl (by kernel_rfl) (by kernel_rfl) (by kernel_rfl) (fun _ _ _ h => h) (Or.inl ⟨by rfl, ?_⟩) (by assumption) ?_
                  rotate_left
                  · (intro w hSw; (try dsimp only at hSw); go_simp; try with_reducible rfl)
                  try simp only [Act.put, List.setIfInBounds_toArray, List.set_cons_zero, List.set_cons_succ]
                  refine wpAnyH_take (i := 6) (oi := { dst := some 125, op := Op.indexAddr 51 (Operand.tmp 123) (Operand.tmp 124), type := 0, pos := "more.go:60", after := #[{ on := 4, ground := Ground.data }, { on := 5, ground := Ground.data }], guard := none }) (v := ?_) rfl (by kernel_rfl) (by kernel_rfl) (by kernel_rfl) (fun _ _ _ h => h) (Or.inl ⟨by rfl, ?_⟩) (by assumption) ?_
                  rotate_left
                  · (intro w hSw; (try dsimp only at hSw); go_simp; try with_reducible rfl)
                  try simp only [Act.put, List.setIfInBounds_toArray, List.set_cons_zero, List.set_cons_succ]
                  refine wpAnyH_take (i := 7) (oi := { dst := some 126, op := Op.load 3 (Operand.tmp 125), type := 3, pos := "more.go:60", after := #[{ on := 6, ground := Ground.data }], guard := none }) (v := ?_) rfl (by kernel_rfl) (by kernel_rfl) (by kernel_rfl) (fun _ _ _ h => h) (Or.inl ⟨by rfl, ?_⟩) (by assumption) ?_
                  rotate_left
                  · (intro w hSw; (try dsimp only at hSw); go_simp; try with_reducible rfl)
                  try simp only [Act.put, List.setIfInBounds_toArray, List.set_cons_zero, List.set_cons_succ]
                  refine wpAnyH_take (i := 8) (oi := { dst := some 127, op := Op.call { callee := Callee.builtin Builtin.max, args := #[Operand.tmp 122, Operand.tmp 126], argTypes := #[3, 3] }, type := 3, pos := "more.go:60", after := #[{ on := 3, ground := Ground.data }, { on := 7, ground := Ground.data }], guard := none }) (v := ?_) rfl (by kernel_rfl) (by kernel_rfl) (by kernel_rfl) (fun _ _ _ h => h) (Or.inl ⟨by rfl, ?_⟩) (by assumption) ?_
                  rotate_left
                  · (intro w hSw; (try dsimp only at hSw); go_simp; try with_reducible rfl)
                  try simp only [Act.put, List.setIfInBounds_toArray, List.set_cons_zero, List.set_cons_succ]
                  refine wpAnyH_take (i := 9) (oi := { dst := some 26, op := Op.assign (Operand.tmp 127), type := 3, pos := "more.go:60", after := #[{ on := 8, ground := Ground.data }, { on := 0, ground := Ground.phase }, { on := 1, ground := Ground.phase }, { on := 2, ground := Ground.phase }, { on := 3, ground := Ground.phase }, { on := 4, ground := Ground.phase }, { on := 5, ground := Ground.phase }, { on := 6, ground := Ground.phase }, { on := 7, ground := Ground.phase }, { on := 8, ground := Ground.phase }], guard := none }) (v := ?_) rfl (by kernel_rfl) (by kernel_rfl) (by kernel_rfl) (fun _ _ _ h => h) (Or.inl ⟨by rfl, ?_⟩) (by assumption) ?_
                  rotate_left
                  · (intro w hSw; (try dsimp only at hSw); go_simp; try with_reducible rfl)
                  try simp only [Act.put, List.setIfInBounds_toArray, List.set_cons_zero, List.set_cons_succ]
                  refine wpAnyH_done (by kernel_rfl) ?_ _
                  refine NoPanic.normal ?_
                  have l0 : (wr.alloc (.cells #[.int .i64 0, .int .i64 2, .int .i64 1] 3)).drew.drew.cell? ⟨wr.heap.size, 0, none⟩ = some (.int .i64 0) := c0
                  have l1 : (wr.alloc (.cells #[.int .i64 0, .int .i64 2, .int .i64 1] 3)).drew.drew.cell? ⟨wr.heap.size, 1, none⟩ = some (.int .i64 2) := c1
                  have l2 : (wr.alloc (.cells #[.int .i64 0, .int .i64 2, .int .i64 1] 3)).drew.drew.cell? ⟨wr.heap.size, 2, none⟩ = some (.int .i64 1) := c2
                  go_wp2_with fail
                  exact ⟨⟨1 + 1, by omega, rfl, congrArg (Value.int .i64) FA.out.symm, congrArg (Value.int .i64) FO.out.symm, (BB.out).drew.drew⟩, by simp [intOf]⟩
                · have hQ' : hasb q 1 = false := by simpa using hQ
                  have gp : (Go.bits .and .i64 (p) 1 == 0) = false := by rw [(bit_is p HPP.out).1, hP]; rfl
                  have gp' : (Go.bits .and .i64 (p) 1 = 0) = False := by have := gp; simpa using this
                  have gq : (Go.bits .and .i64 (q / 2) 1 == 0) = true := by rw [(bit_is q HQQ.out).2.1, hQ']; rfl
                  have gq' : (Go.bits .and .i64 (q / 2) 1 = 0) = True := by have := gq; simpa using this
                  have hn : (hasb p (1 / 3) && hasb q (1 % 3)) = false := by rw [show 1 / 3 = 0 from rfl, show 1 % 3 = 1 from rfl, hP, hQ']; rfl
                  have fa : fA p q (1 + 1) = fA p q 1 := if_neg (by rw [hn]; decide)
                  have fo : fO p q (1 + 1) = fO p q 1 := if_neg (by rw [hn]; decide)
                  have FA := Lib.hid fa
                  have FO := Lib.hid fo
                  clear fa fo hn hQ
                  go_wp2_with fail
                  exact ⟨⟨1 + 1, by omega, rfl, congrArg (Value.int .i64) FA.out.symm, congrArg (Value.int .i64) FO.out.symm, HB2.out⟩, by simp [intOf]⟩
              · have hP' : hasb p 0 = false := by simpa using hP
                have gp : (Go.bits .and .i64 (p) 1 == 0) = true := by rw [(bit_is p HPP.out).1, hP']; rfl
                have gp' : (Go.bits .and .i64 (p) 1 = 0) = True := by have := gp; simpa using this
                have hn : (hasb p (1 / 3) && hasb q (1 % 3)) = false := by rw [show 1 / 3 = 0 from rfl, hP']; rfl
                have fa : fA p q (1 + 1) = fA p q 1 := if_neg (by rw [hn]; decide)
                have fo : fO p q (1 + 1) = fO p q 1 := if_neg (by rw [hn]; decide)
                have FA := Lib.hid fa
                have FO := Lib.hid fo
                clear fa fo hn hP
                go_wp2_with fail
                exact ⟨⟨1 + 1, by omega, rfl, congrArg (Value.int .i64) FA.out.symm, congrArg (Value.int .i64) FO.out.symm, HB2.out⟩, by simp [intOf]⟩
            · skip
              by_cases hP : hasb p 0 = true
              · by_cases hQ : hasb q 2 = true
                · skip
                  have gp : (Go.bits .and .i64 (p) 1 == 0) = false := by rw [(bit_is p HPP.out).1, hP]; rfl
                  have gp' : (Go.bits .and .i64 (p) 1 = 0) = False := by have := gp; simpa using this
                  have gq : (Go.bits .and .i64 (q / 4) 1 == 0) = false := by rw [(bit_is q HQQ.out).2.2, hQ]; rfl
                  have gq' : (Go.bits .and .i64 (q / 4) 1 = 0) = False := by have := gq; simpa using this
                  have fa : fA p q (2 + 1) = lor (fA p q 2) (shA 0 2) := if_pos (by show (hasb p (2 / 3) && hasb q (2 % 3)) = true; rw [show 2 / 3 = 0 from rfl, show 2 % 3 = 2 from rfl, hP, hQ]; rfl)
                  have fo : fO p q (2 + 1) = lor (fO p q 2) (shO 0 2) := if_pos (by show (hasb p (2 / 3) && hasb q (2 % 3)) = true; rw [show 2 / 3 = 0 from rfl, show 2 % 3 = 2 from rfl, hP, hQ]; rfl)
                  have FA := Lib.hid fa
                  have FO := Lib.hid fo
                  have hA := (Below.refl wr.heap.size wr).alloc (Nat.le_refl _) (.cells #[.int .i64 0, .int .i64 2, .int .i64 1] 3)
                  have BB := Lib.hid ((HB2.out).trans (hA.mono (HB2.out).size))
                  have c0 : (wr.alloc (.cells #[.int .i64 0, .int .i64 2, .int .i64 1] 3)).cell? ⟨wr.heap.size, 0, none⟩ = some (.int .i64 0) := by rw [cell_of_row _ _ _ _ 3 _ (alloc_here wr _)]; rfl
                  have c1 : (wr.alloc (.cells #[.int .i64 0, .int .i64 2, .int .i64 1] 3)).cell? ⟨wr.heap.size, 1, none⟩ = some (.int .i64 2) := by rw [cell_of_row _ _ _ _ 3 _ (alloc_here wr _)]; rfl
                  have c2 : (wr.alloc (.cells #[.int .i64 0, .int .i64 2, .int .i64 1] 3)).cell? ⟨wr.heap.size, 2, none⟩ = some (.int .i64 1) := by rw [cell_of_row _ _ _ _ 3 _ (alloc_here wr _)]; rfl
                  clear fa fo hA
                  go_upto_region 20 with fail
                  refine wp_region_noPanic ?_
                  refine wp_region_held_drew (S := (fun W => W.cell? ⟨wr.heap.size, 0, none⟩ = some (.int .i64 0) ∧ W.cell? ⟨wr.heap.size, 1, none⟩ = some (.int .i64 2) ∧ W.cell? ⟨wr.heap.size, 2, none⟩ = some (.int .i64 1))) (by kernel_rfl) ?_ (fun hHeld => ?_)
                  · exact ⟨c0, c1, c2⟩
                  refine wpAnyH_take (i := 0) (oi := { dst := some 110, op := Op.move (Operand.tmp 24), type := 51, pos := "more.go:59", after := #[], guard := none }) (v := ?_) rfl (by kernel_rfl) (by kernel_rfl) (by kernel_rfl) (fun _ _ _ h => h) (Or.inl ⟨by rfl, ?_⟩) (by assumption) ?_
                  rotate_left
                  · (intro w hSw; (try dsimp only at hSw); go_simp; try with_reducible rfl)
                  try simp only [Act.put, List.setIfInBounds_toArray, List.set_cons_zero, List.set_cons_succ]
                  refine wpAnyH_take (i := 1) (oi := { dst := some 111, op := Op.move (Operand.tmp 22), type := 3, pos := "more.go:59", after := #[], guard := none }) (v := ?_) rfl (by kernel_rfl) (by kernel_rfl) (by kernel_rfl) (fun _ _ _ h => h) (Or.inl ⟨by rfl, ?_⟩) (by assumption) ?_
                  rotate_left
                  · (intro w hSw; (try dsimp only at hSw); go_simp; try with_reducible rfl)
                  try simp only [Act.put, List.setIfInBounds_toArray, List.set_cons_zero, List.set_cons_succ]
                  refine wpAnyH_take (i := 2) (oi := { dst := some 112, op := Op.indexAddr 51 (Operand.tmp 110) (Operand.tmp 111), type := 0, pos := "more.go:59", after := #[{ on := 0, ground := Ground.data }, { on := 1, ground := Ground.data }], guard := none }) (v := ?_) rfl (by kernel_rfl) (by kernel_rfl) (by kernel_rfl) (fun _ _ _ h => h) (Or.inl ⟨by rfl, ?_⟩) (by assumption) ?_
                  rotate_left
                  · (intro w hSw; (try dsimp only at hSw); go_simp; try with_reducible rfl)
                  try simp only [Act.put, List.setIfInBounds_toArray, List.set_cons_zero, List.set_cons_succ]
                  refine wpAnyH_take (i := 3) (oi := { dst := some 113, op := Op.load 3 (Operand.tmp 112), type := 3, pos := "more.go:59", after := #[{ on := 2, ground := Ground.data }], guard := none }) (v := ?_) rfl (by kernel_rfl) (by kernel_rfl) (by kernel_rfl) (fun _ _ _ h => h) (Or.inl ⟨by rfl, ?_⟩) (by assumption) ?_
                  rotate_left
                  · (intro w hSw; (try dsimp only at hSw); go_simp; try with_reducible rfl)
                  try simp only [Act.put, List.setIfInBounds_toArray, List.set_cons_zero, List.set_cons_succ]
                  refine wpAnyH_take (i := 4) (oi := { dst := some 114, op := Op.move (Operand.tmp 24), type := 51, pos := "more.go:59", after := #[], guard := none }) (v := ?_) rfl (by kernel_rfl) (by kernel_rfl) (by kernel_rfl) (fun _ _ _ h => h) (Or.inl ⟨by rfl, ?_⟩) (by assumption) ?_
                  rotate_left
                  · (intro w hSw; (try dsimp only at hSw); go_simp; try with_reducible rfl)
                  try simp only [Act.put, List.setIfInBounds_toArray, List.set_cons_zero, List.set_cons_succ]
                  refine wpAnyH_take (i := 5) (oi := { dst := some 115, op := Op.move (Operand.tmp 23), type := 3, pos := "more.go:59", after := #[], guard := none }) (v := ?_) rfl (by kernel_rfl) (by kernel_rfl) (by kernel_rfl) (fun _ _ _ h => h) (Or.inl ⟨by rfl, ?_⟩) (by assumption) ?_
                  rotate_left
                  · (intro w hSw; (try dsimp only at hSw); go_simp; try with_reducible rfl)
                  try simp only [Act.put, List.setIfInBounds_toArray, List.set_cons_zero, List.set_cons_succ]
                  refine wpAnyH_take (i := 6) (oi := { dst := some 116, op := Op.indexAddr 51 (Operand.tmp 114) (Operand.tmp 115), type := 0, pos := "more.go:59", after := #[{ on := 4, ground := Ground.data }, { on := 5, ground := Ground.data }], guard := none }) (v := ?_) rfl (by kernel_rfl) (by kernel_rfl) (by kernel_rfl) (fun _ _ _ h => h) (Or.inl ⟨by rfl, ?_⟩) (by assumption) ?_
                  rotate_left
                  · (intro w hSw; (try dsimp only at hSw); go_simp; try with_reducible rfl)
                  try simp only [Act.put, List.setIfInBounds_toArray, List.set_cons_zero, List.set_cons_succ]
                  refine wpAnyH_take (i := 7) (oi := { dst := some 117, op := Op.load 3 (Operand.tmp 116), type := 3, pos := "more.go:59", after := #[{ on := 6, ground := Ground.data }], guard := none }) (v := ?_) rfl (by kernel_rfl) (by kernel_rfl) (by kernel_rfl) (fun _ _ _ h => h) (Or.inl ⟨by rfl, ?_⟩) (by assumption) ?_
                  rotate_left
                  · (intro w hSw; (try dsimp only at hSw); go_simp; try with_reducible rfl)
                  try simp only [Act.put, List.setIfInBounds_toArray, List.set_cons_zero, List.set_cons_succ]
                  refine wpAnyH_take (i := 8) (oi := { dst := some 118, op := Op.call { callee := Callee.builtin Builtin.min, args := #[Operand.tmp 113, Operand.tmp 117], argTypes := #[3, 3] }, type := 3, pos := "more.go:59", after := #[{ on := 3, ground := Ground.data }, { on := 7, ground := Ground.data }], guard := none }) (v := ?_) rfl (by kernel_rfl) (by kernel_rfl) (by kernel_rfl) (fun _ _ _ h => h) (Or.inl ⟨by rfl, ?_⟩) (by assumption) ?_
                  rotate_left
                  · (intro w hSw; (try dsimp only at hSw); go_simp; try with_reducible rfl)
                  try simp only [Act.put, List.setIfInBounds_toArray, List.set_cons_zero, List.set_cons_succ]
                  refine wpAnyH_take (i := 9) (oi := { dst := some 25, op := Op.assign (Operand.tmp 118), type := 3, pos := "more.go:59", after := #[{ on := 8, ground := Ground.data }, { on := 0, ground := Ground.phase }, { on := 1, ground := Ground.phase }, { on := 2, ground := Ground.phase }, { on := 3, ground := Ground.phase }, { on := 4, ground := Ground.phase }, { on := 5, ground := Ground.phase }, { on := 6, ground := Ground.phase }, { on := 7, ground := Ground.phase }, { on := 8, ground := Ground.phase }], guard := none }) (v := ?_) rfl (by kernel_rfl) (by kernel_rfl) (by kernel_rfl) (fun _ _ _ h => h) (Or.inl ⟨by rfl, ?_⟩) (by assumption) ?_
                  rotate_left
                  · (intro w hSw; (try dsimp only at hSw); go_simp; try with_reducible rfl)
                  try simp only [Act.put, List.setIfInBounds_toArray, List.set_cons_zero, List.set_cons_succ]
                  refine wpAnyH_done (by kernel_rfl) ?_ _
                  refine NoPanic.normal ?_
                  have k0 : (wr.alloc (.cells #[.int .i64 0, .int .i64 2, .int .i64 1] 3)).drew.cell? ⟨wr.heap.size, 0, none⟩ = some (.int .i64 0) := c0
                  have k1 : (wr.alloc (.cells #[.int .i64 0, .int .i64 2, .int .i64 1] 3)).drew.cell? ⟨wr.heap.size, 1, none⟩ = some (.int .i64 2) := c1
                  have k2 : (wr.alloc (.cells #[.int .i64 0, .int .i64 2, .int .i64 1] 3)).drew.cell? ⟨wr.heap.size, 2, none⟩ = some (.int .i64 1) := c2
                  go_upto_region 21 with fail
                  refine wp_region_noPanic ?_
                  refine wp_region_held_drew (S := (fun W => W.cell? ⟨wr.heap.size, 0, none⟩ = some (.int .i64 0) ∧ W.cell? ⟨wr.heap.size, 1, none⟩ = some (.int .i64 2) ∧ W.cell? ⟨wr.heap.size, 2, none⟩ = some (.int .i64 1))) (by kernel_rfl) ?_ (fun hHeld => ?_)
                  · exact ⟨k0, k1, k2⟩
                  refine wpAnyH_take (i := 0) (oi := { dst := some 119, op := Op.move (Operand.tmp 24), type := 51, pos := "more.go:60", after := #[], guard := none }) (v := ?_) rfl (by kernel_rfl) (by kernel_rfl) (by kernel_rfl) (fun _ _ _ h => h) (Or.inl ⟨by rfl, ?_⟩) (by assumption) ?_
                  rotate_left
                  · (intro w hSw; (try dsimp only at hSw); go_simp; try with_reducible rfl)
                  try simp only [Act.put, List.setIfInBounds_toArray, List.set_cons_zero, List.set_cons_succ]
                  refine wpAnyH_take (i := 1) (oi := { dst := some 120, op := Op.move (Operand.tmp 22), type := 3, pos := "more.go:60", after := #[], guard := none }) (v := ?_) rfl (by kernel_rfl) (by kernel_rfl) (by kernel_rfl) (fun _ _ _ h => h) (Or.inl ⟨by rfl, ?_⟩) (by assumption) ?_
                  rotate_left
                  · (intro w hSw; (try dsimp only at hSw); go_simp; try with_reducible rfl)
                  try simp only [Act.put, List.setIfInBounds_toArray, List.set_cons_zero, List.set_cons_succ]
                  refine wpAnyH_take (i := 2) (oi := { dst := some 121, op := Op.indexAddr 51 (Operand.tmp 119) (Operand.tmp 120), type := 0, pos := "more.go:60", after := #[{ on := 0, ground := Ground.data }, { on := 1, ground := Ground.data }], guard := none }) (v := ?_) rfl (by kernel_rfl) (by kernel_rfl) (by kernel_rfl) (fun _ _ _ h => h) (Or.inl ⟨by rfl, ?_⟩) (by assumption) ?_
                  rotate_left
                  · (intro w hSw; (try dsimp only at hSw); go_simp; try with_reducible rfl)
                  try simp only [Act.put, List.setIfInBounds_toArray, List.set_cons_zero, List.set_cons_succ]
                  refine wpAnyH_take (i := 3) (oi := { dst := some 122, op := Op.load 3 (Operand.tmp 121), type := 3, pos := "more.go:60", after := #[{ on := 2, ground := Ground.data }], guard := none }) (v := ?_) rfl (by kernel_rfl) (by kernel_rfl) (by kernel_rfl) (fun _ _ _ h => h) (Or.inl ⟨by rfl, ?_⟩) (by assumption) ?_
                  rotate_left
                  · (intro w hSw; (try dsimp only at hSw); go_simp; try with_reducible rfl)
                  try simp only [Act.put, List.setIfInBounds_toArray, List.set_cons_zero, List.set_cons_succ]
                  refine wpAnyH_take (i := 4) (oi := { dst := some 123, op := Op.move (Operand.tmp 24), type := 51, pos := "more.go:60", after := #[], guard := none }) (v := ?_) rfl (by kernel_rfl) (by kernel_rfl) (by kernel_rfl) (fun _ _ _ h => h) (Or.inl ⟨by rfl, ?_⟩) (by assumption) ?_
                  rotate_left
                  · (intro w hSw; (try dsimp only at hSw); go_simp; try with_reducible rfl)
                  try simp only [Act.put, List.setIfInBounds_toArray, List.set_cons_zero, List.set_cons_succ]
                  refine wpAnyH_take (i := 5) (oi := { dst := some 124, op := Op.move (Operand.tmp 23), type := 3, pos := "more.go:60", after := #[], guard := none }) (v := ?_) rfl (by kernel_rfl) (by kernel_rfl) (by kernel_rfl) (fun _ _ _ h => h) (Or.inl ⟨by rfl, ?_⟩) (by assumption) ?_
                  rotate_left
                  · (intro w hSw; (try dsimp only at hSw); go_simp; try with_reducible rfl)
                  try simp only [Act.put, List.setIfInBounds_toArray, List.set_cons_zero, List.set_cons_succ]
                  refine wpAnyH_take (i := 6) (oi := { dst := some 125, op := Op.indexAddr 51 (Operand.tmp 123) (Operand.tmp 124), type := 0, pos := "more.go:60", after := #[{ on := 4, ground := Ground.data }, { on := 5, ground := Ground.data }], guard := none }) (v := ?_) rfl (by kernel_rfl) (by kernel_rfl) (by kernel_rfl) (fun _ _ _ h => h) (Or.inl ⟨by rfl, ?_⟩) (by assumption) ?_
                  rotate_left
                  · (intro w hSw; (try dsimp only at hSw); go_simp; try with_reducible rfl)
                  try simp only [Act.put, List.setIfInBounds_toArray, List.set_cons_zero, List.set_cons_succ]
                  refine wpAnyH_take (i := 7) (oi := { dst := some 126, op := Op.load 3 (Operand.tmp 125), type := 3, pos := "more.go:60", after := #[{ on := 6, ground := Ground.data }], guard := none }) (v := ?_) rfl (by kernel_rfl) (by kernel_rfl) (by kernel_rfl) (fun _ _ _ h => h) (Or.inl ⟨by rfl, ?_⟩) (by assumption) ?_
                  rotate_left
                  · (intro w hSw; (try dsimp only at hSw); go_simp; try with_reducible rfl)
                  try simp only [Act.put, List.setIfInBounds_toArray, List.set_cons_zero, List.set_cons_succ]
                  refine wpAnyH_take (i := 8) (oi := { dst := some 127, op := Op.call { callee := Callee.builtin Builtin.max, args := #[Operand.tmp 122, Operand.tmp 126], argTypes := #[3, 3] }, type := 3, pos := "more.go:60", after := #[{ on := 3, ground := Ground.data }, { on := 7, ground := Ground.data }], guard := none }) (v := ?_) rfl (by kernel_rfl) (by kernel_rfl) (by kernel_rfl) (fun _ _ _ h => h) (Or.inl ⟨by rfl, ?_⟩) (by assumption) ?_
                  rotate_left
                  · (intro w hSw; (try dsimp only at hSw); go_simp; try with_reducible rfl)
                  try simp only [Act.put, List.setIfInBounds_toArray, List.set_cons_zero, List.set_cons_succ]
                  refine wpAnyH_take (i := 9) (oi := { dst := some 26, op := Op.assign (Operand.tmp 127), type := 3, pos := "more.go:60", after := #[{ on := 8, ground := Ground.data }, { on := 0, ground := Ground.phase }, { on := 1, ground := Ground.phase }, { on := 2, ground := Ground.phase }, { on := 3, ground := Ground.phase }, { on := 4, ground := Ground.phase }, { on := 5, ground := Ground.phase }, { on := 6, ground := Ground.phase }, { on := 7, ground := Ground.phase }, { on := 8, ground := Ground.phase }], guard := none }) (v := ?_) rfl (by kernel_rfl) (by kernel_rfl) (by kernel_rfl) (fun _ _ _ h => h) (Or.inl ⟨by rfl, ?_⟩) (by assumption) ?_
                  rotate_left
                  · (intro w hSw; (try dsimp only at hSw); go_simp; try with_reducible rfl)
                  try simp only [Act.put, List.setIfInBounds_toArray, List.set_cons_zero, List.set_cons_succ]
                  refine wpAnyH_done (by kernel_rfl) ?_ _
                  refine NoPanic.normal ?_
                  have l0 : (wr.alloc (.cells #[.int .i64 0, .int .i64 2, .int .i64 1] 3)).drew.drew.cell? ⟨wr.heap.size, 0, none⟩ = some (.int .i64 0) := c0
                  have l1 : (wr.alloc (.cells #[.int .i64 0, .int .i64 2, .int .i64 1] 3)).drew.drew.cell? ⟨wr.heap.size, 1, none⟩ = some (.int .i64 2) := c1
                  have l2 : (wr.alloc (.cells #[.int .i64 0, .int .i64 2, .int .i64 1] 3)).drew.drew.cell? ⟨wr.heap.size, 2, none⟩ = some (.int .i64 1) := c2
                  go_wp2_with fail
                  exact ⟨⟨2 + 1, by omega, rfl, congrArg (Value.int .i64) FA.out.symm, congrArg (Value.int .i64) FO.out.symm, (BB.out).drew.drew⟩, by simp [intOf]⟩
                · have hQ' : hasb q 2 = false := by simpa using hQ
                  have gp : (Go.bits .and .i64 (p) 1 == 0) = false := by rw [(bit_is p HPP.out).1, hP]; rfl
                  have gp' : (Go.bits .and .i64 (p) 1 = 0) = False := by have := gp; simpa using this
                  have gq : (Go.bits .and .i64 (q / 4) 1 == 0) = true := by rw [(bit_is q HQQ.out).2.2, hQ']; rfl
                  have gq' : (Go.bits .and .i64 (q / 4) 1 = 0) = True := by have := gq; simpa using this
                  have hn : (hasb p (2 / 3) && hasb q (2 % 3)) = false := by rw [show 2 / 3 = 0 from rfl, show 2 % 3 = 2 from rfl, hP, hQ']; rfl
                  have fa : fA p q (2 + 1) = fA p q 2 := if_neg (by rw [hn]; decide)
                  have fo : fO p q (2 + 1) = fO p q 2 := if_neg (by rw [hn]; decide)
                  have FA := Lib.hid fa
                  have FO := Lib.hid fo
                  clear fa fo hn hQ
                  go_wp2_with fail
                  exact ⟨⟨2 + 1, by omega, rfl, congrArg (Value.int .i64) FA.out.symm, congrArg (Value.int .i64) FO.out.symm, HB2.out⟩, by simp [intOf]⟩
              · have hP' : hasb p 0 = false := by simpa using hP
                have gp : (Go.bits .and .i64 (p) 1 == 0) = true := by rw [(bit_is p HPP.out).1, hP']; rfl
                have gp' : (Go.bits .and .i64 (p) 1 = 0) = True := by have := gp; simpa using this
                have hn : (hasb p (2 / 3) && hasb q (2 % 3)) = false := by rw [show 2 / 3 = 0 from rfl, hP']; rfl
                have fa : fA p q (2 + 1) = fA p q 2 := if_neg (by rw [hn]; decide)
                have fo : fO p q (2 + 1) = fO p q 2 := if_neg (by rw [hn]; decide)
                have FA := Lib.hid fa
                have FO := Lib.hid fo
                clear fa fo hn hP
                go_wp2_with fail
                exact ⟨⟨2 + 1, by omega, rfl, congrArg (Value.int .i64) FA.out.symm, congrArg (Value.int .i64) FO.out.symm, HB2.out⟩, by simp [intOf]⟩
          · rcases hk3 with rfl | rfl | rfl
            · skip
              by_cases hP : hasb p 1 = true
              · by_cases hQ : hasb q 0 = true
                · skip
                  have gp : (Go.bits .and .i64 (p / 2) 1 == 0) = false := by rw [(bit_is p HPP.out).2.1, hP]; rfl
                  have gp' : (Go.bits .and .i64 (p / 2) 1 = 0) = False := by have := gp; simpa using this
                  have gq : (Go.bits .and .i64 (q) 1 == 0) = false := by rw [(bit_is q HQQ.out).1, hQ]; rfl
                  have gq' : (Go.bits .and .i64 (q) 1 = 0) = False := by have := gq; simpa using this
                  have fa : fA p q (3 + 1) = lor (fA p q 3) (shA 1 0) := if_pos (by show (hasb p (3 / 3) && hasb q (3 % 3)) = true; rw [show 3 / 3 = 1 from rfl, show 3 % 3 = 0 from rfl, hP, hQ]; rfl)
                  have fo : fO p q (3 + 1) = lor (fO p q 3) (shO 1 0) := if_pos (by show (hasb p (3 / 3) && hasb q (3 % 3)) = true; rw [show 3 / 3 = 1 from rfl, show 3 % 3 = 0 from rfl, hP, hQ]; rfl)
                  have FA := Lib.hid fa
                  have FO := Lib.hid fo
                  have hA := (Below.refl wr.heap.size wr).alloc (Nat.le_refl _) (.cells #[.int .i64 0, .int .i64 2, .int .i64 1] 3)
                  have BB := Lib.hid ((HB2.out).trans (hA.mono (HB2.out).size))
                  have c0 : (wr.alloc (.cells #[.int .i64 0, .int .i64 2, .int .i64 1] 3)).cell? ⟨wr.heap.size, 0, none⟩ = some (.int .i64 0) := by rw [cell_of_row _ _ _ _ 3 _ (alloc_here wr _)]; rfl
                  have c1 : (wr.alloc (.cells #[.int .i64 0, .int .i64 2, .int .i64 1] 3)).cell? ⟨wr.heap.size, 1, none⟩ = some (.int .i64 2) := by rw [cell_of_row _ _ _ _ 3 _ (alloc_here wr _)]; rfl
                  have c2 : (wr.alloc (.cells #[.int .i64 0, .int .i64 2, .int .i64 1] 3)).cell? ⟨wr.heap.size, 2, none⟩ = some (.int .i64 1) := by rw [cell_of_row _ _ _ _ 3 _ (alloc_here wr _)]; rfl
                  clear fa fo hA
                  go_upto_region 20 with fail
                  refine wp_region_noPanic ?_
                  refine wp_region_held_drew (S := (fun W => W.cell? ⟨wr.heap.size, 0, none⟩ = some (.int .i64 0) ∧ W.cell? ⟨wr.heap.size, 1, none⟩ = some (.int .i64 2) ∧ W.cell? ⟨wr.heap.size, 2, none⟩ = some (.int .i64 1))) (by kernel_rfl) ?_ (fun hHeld => ?_)
                  · exact ⟨c0, c1, c2⟩
                  refine wpAnyH_take (i := 0) (oi := { dst := some 110, op := Op.move (Operand.tmp 24), type := 51, pos := "more.go:59", after := #[], guard := none }) (v := ?_) rfl (by kernel_rfl) (by kernel_rfl) (by kernel_rfl) (fun _ _ _ h => h) (Or.inl ⟨by rfl, ?_⟩) (by assumption) ?_
                  rotate_left
                  · (intro w hSw; (try dsimp only at hSw); go_simp; try with_reducible rfl)
                  try simp only [Act.put, List.setIfInBounds_toArray, List.set_cons_zero, List.set_cons_succ]
                  refine wpAnyH_take (i := 1) (oi := { dst := some 111, op := Op.move (Operand.tmp 22), type := 3, pos := "more.go:59", after := #[], guard := none }) (v := ?_) rfl (by kernel_rfl) (by kernel_rfl) (by kernel_rfl) (fun _ _ _ h => h) (Or.inl ⟨by rfl, ?_⟩) (by assumption) ?_
                  rotate_left
                  · (intro w hSw; (try dsimp only at hSw); go_simp; try with_reducible rfl)
                  try simp only [Act.put, List.setIfInBounds_toArray, List.set_cons_zero, List.set_cons_succ]
                  refine wpAnyH_take (i := 2) (oi := { dst := some 112, op := Op.indexAddr 51 (Operand.tmp 110) (Operand.tmp 111), type := 0, pos := "more.go:59", after := #[{ on := 0, ground := Ground.data }, { on := 1, ground := Ground.data }], guard := none }) (v := ?_) rfl (by kernel_rfl) (by kernel_rfl) (by kernel_rfl) (fun _ _ _ h => h) (Or.inl ⟨by rfl, ?_⟩) (by assumption) ?_
                  rotate_left
                  · (intro w hSw; (try dsimp only at hSw); go_simp; try with_reducible rfl)
                  try simp only [Act.put, List.setIfInBounds_toArray, List.set_cons_zero, List.set_cons_succ]
                  refine wpAnyH_take (i := 3) (oi := { dst := some 113, op := Op.load 3 (Operand.tmp 112), type := 3, pos := "more.go:59", after := #[{ on := 2, ground := Ground.data }], guard := none }) (v := ?_) rfl (by kernel_rfl) (by kernel_rfl) (by kernel_rfl) (fun _ _ _ h => h) (Or.inl ⟨by rfl, ?_⟩) (by assumption) ?_
                  rotate_left
                  · (intro w hSw; (try dsimp only at hSw); go_simp; try with_reducible rfl)
                  try simp only [Act.put, List.setIfInBounds_toArray, List.set_cons_zero, List.set_cons_succ]
                  refine wpAnyH_take (i := 4) (oi := { dst := some 114, op := Op.move (Operand.tmp 24), type := 51, pos := "more.go:59", after := #[], guard := none }) (v := ?_) rfl (by kernel_rfl) (by kernel_rfl) (by kernel_rfl) (fun _ _ _ h => h) (Or.inl ⟨by rfl, ?_⟩) (by assumption) ?_
                  rotate_left
                  · (intro w hSw; (try dsimp only at hSw); go_simp; try with_reducible rfl)
                  try simp only [Act.put, List.setIfInBounds_toArray, List.set_cons_zero, List.set_cons_succ]
                  refine wpAnyH_take (i := 5) (oi := { dst := some 115, op := Op.move (Operand.tmp 23), type := 3, pos := "more.go:59", after := #[], guard := none }) (v := ?_) rfl (by kernel_rfl) (by kernel_rfl) (by kernel_rfl) (fun _ _ _ h => h) (Or.inl ⟨by rfl, ?_⟩) (by assumption) ?_
                  rotate_left
                  · (intro w hSw; (try dsimp only at hSw); go_simp; try with_reducible rfl)
                  try simp only [Act.put, List.setIfInBounds_toArray, List.set_cons_zero, List.set_cons_succ]
                  refine wpAnyH_take (i := 6) (oi := { dst := some 116, op := Op.indexAddr 51 (Operand.tmp 114) (Operand.tmp 115), type := 0, pos := "more.go:59", after := #[{ on := 4, ground := Ground.data }, { on := 5, ground := Ground.data }], guard := none }) (v := ?_) rfl (by kernel_rfl) (by kernel_rfl) (by kernel_rfl) (fun _ _ _ h => h) (Or.inl ⟨by rfl, ?_⟩) (by assumption) ?_
                  rotate_left
                  · (intro w hSw; (try dsimp only at hSw); go_simp; try with_reducible rfl)
                  try simp only [Act.put, List.setIfInBounds_toArray, List.set_cons_zero, List.set_cons_succ]
                  refine wpAnyH_take (i := 7) (oi := { dst := some 117, op := Op.load 3 (Operand.tmp 116), type := 3, pos := "more.go:59", after := #[{ on := 6, ground := Ground.data }], guard := none }) (v := ?_) rfl (by kernel_rfl) (by kernel_rfl) (by kernel_rfl) (fun _ _ _ h => h) (Or.inl ⟨by rfl, ?_⟩) (by assumption) ?_
                  rotate_left
                  · (intro w hSw; (try dsimp only at hSw); go_simp; try with_reducible rfl)
                  try simp only [Act.put, List.setIfInBounds_toArray, List.set_cons_zero, List.set_cons_succ]
                  refine wpAnyH_take (i := 8) (oi := { dst := some 118, op := Op.call { callee := Callee.builtin Builtin.min, args := #[Operand.tmp 113, Operand.tmp 117], argTypes := #[3, 3] }, type := 3, pos := "more.go:59", after := #[{ on := 3, ground := Ground.data }, { on := 7, ground := Ground.data }], guard := none }) (v := ?_) rfl (by kernel_rfl) (by kernel_rfl) (by kernel_rfl) (fun _ _ _ h => h) (Or.inl ⟨by rfl, ?_⟩) (by assumption) ?_
                  rotate_left
                  · (intro w hSw; (try dsimp only at hSw); go_simp; try with_reducible rfl)
                  try simp only [Act.put, List.setIfInBounds_toArray, List.set_cons_zero, List.set_cons_succ]
                  refine wpAnyH_take (i := 9) (oi := { dst := some 25, op := Op.assign (Operand.tmp 118), type := 3, pos := "more.go:59", after := #[{ on := 8, ground := Ground.data }, { on := 0, ground := Ground.phase }, { on := 1, ground := Ground.phase }, { on := 2, ground := Ground.phase }, { on := 3, ground := Ground.phase }, { on := 4, ground := Ground.phase }, { on := 5, ground := Ground.phase }, { on := 6, ground := Ground.phase }, { on := 7, ground := Ground.phase }, { on := 8, ground := Ground.phase }], guard := none }) (v := ?_) rfl (by kernel_rfl) (by kernel_rfl) (by kernel_rfl) (fun _ _ _ h => h) (Or.inl ⟨by rfl, ?_⟩) (by assumption) ?_
                  rotate_left
                  · (intro w hSw; (try dsimp only at hSw); go_simp; try with_reducible rfl)
                  try simp only [Act.put, List.setIfInBounds_toArray, List.set_cons_zero, List.set_cons_succ]
                  refine wpAnyH_done (by kernel_rfl) ?_ _
                  refine NoPanic.normal ?_
                  have k0 : (wr.alloc (.cells #[.int .i64 0, .int .i64 2, .int .i64 1] 3)).drew.cell? ⟨wr.heap.size, 0, none⟩ = some (.int .i64 0) := c0
                  have k1 : (wr.alloc (.cells #[.int .i64 0, .int .i64 2, .int .i64 1] 3)).drew.cell? ⟨wr.heap.size, 1, none⟩ = some (.int .i64 2) := c1
                  have k2 : (wr.alloc (.cells #[.int .i64 0, .int .i64 2, .int .i64 1] 3)).drew.cell? ⟨wr.heap.size, 2, none⟩ = some (.int .i64 1) := c2
                  go_upto_region 21 with fail
                  refine wp_region_noPanic ?_
                  refine wp_region_held_drew (S := (fun W => W.cell? ⟨wr.heap.size, 0, none⟩ = some (.int .i64 0) ∧ W.cell? ⟨wr.heap.size, 1, none⟩ = some (.int .i64 2) ∧ W.cell? ⟨wr.heap.size, 2, none⟩ = some (.int .i64 1))) (by kernel_rfl) ?_ (fun hHeld => ?_)
                  · exact ⟨k0, k1, k2⟩
                  refine wpAnyH_take (i := 0) (oi := { dst := some 119, op := Op.move (Operand.tmp 24), type := 51, pos := "more.go:60", after := #[], guard := none }) (v := ?_) rfl (by kernel_rfl) (by kernel_rfl) (by kernel_rfl) (fun _ _ _ h => h) (Or.inl ⟨by rfl, ?_⟩) (by assumption) ?_
                  rotate_left
                  · (intro w hSw; (try dsimp only at hSw); go_simp; try with_reducible rfl)
                  try simp only [Act.put, List.setIfInBounds_toArray, List.set_cons_zero, List.set_cons_succ]
                  refine wpAnyH_take (i := 1) (oi := { dst := some 120, op := Op.move (Operand.tmp 22), type := 3, pos := "more.go:60", after := #[], guard := none }) (v := ?_) rfl (by kernel_rfl) (by kernel_rfl) (by kernel_rfl) (fun _ _ _ h => h) (Or.inl ⟨by rfl, ?_⟩) (by assumption) ?_
                  rotate_left
                  · (intro w hSw; (try dsimp only at hSw); go_simp; try with_reducible rfl)
                  try simp only [Act.put, List.setIfInBounds_toArray, List.set_cons_zero, List.set_cons_succ]
                  refine wpAnyH_take (i := 2) (oi := { dst := some 121, op := Op.indexAddr 51 (Operand.tmp 119) (Operand.tmp 120), type := 0, pos := "more.go:60", after := #[{ on := 0, ground := Ground.data }, { on := 1, ground := Ground.data }], guard := none }) (v := ?_) rfl (by kernel_rfl) (by kernel_rfl) (by kernel_rfl) (fun _ _ _ h => h) (Or.inl ⟨by rfl, ?_⟩) (by assumption) ?_
                  rotate_left
                  · (intro w hSw; (try dsimp only at hSw); go_simp; try with_reducible rfl)
                  try simp only [Act.put, List.setIfInBounds_toArray, List.set_cons_zero, List.set_cons_succ]
                  refine wpAnyH_take (i := 3) (oi := { dst := some 122, op := Op.load 3 (Operand.tmp 121), type := 3, pos := "more.go:60", after := #[{ on := 2, ground := Ground.data }], guard := none }) (v := ?_) rfl (by kernel_rfl) (by kernel_rfl) (by kernel_rfl) (fun _ _ _ h => h) (Or.inl ⟨by rfl, ?_⟩) (by assumption) ?_
                  rotate_left
                  · (intro w hSw; (try dsimp only at hSw); go_simp; try with_reducible rfl)
                  try simp only [Act.put, List.setIfInBounds_toArray, List.set_cons_zero, List.set_cons_succ]
                  refine wpAnyH_take (i := 4) (oi := { dst := some 123, op := Op.move (Operand.tmp 24), type := 51, pos := "more.go:60", after := #[], guard := none }) (v := ?_) rfl (by kernel_rfl) (by kernel_rfl) (by kernel_rfl) (fun _ _ _ h => h) (Or.inl ⟨by rfl, ?_⟩) (by assumption) ?_
                  rotate_left
                  · (intro w hSw; (try dsimp only at hSw); go_simp; try with_reducible rfl)
                  try simp only [Act.put, List.setIfInBounds_toArray, List.set_cons_zero, List.set_cons_succ]
                  refine wpAnyH_take (i := 5) (oi := { dst := some 124, op := Op.move (Operand.tmp 23), type := 3, pos := "more.go:60", after := #[], guard := none }) (v := ?_) rfl (by kernel_rfl) (by kernel_rfl) (by kernel_rfl) (fun _ _ _ h => h) (Or.inl ⟨by rfl, ?_⟩) (by assumption) ?_
                  rotate_left
                  · (intro w hSw; (try dsimp only at hSw); go_simp; try with_reducible rfl)
                  try simp only [Act.put, List.setIfInBounds_toArray, List.set_cons_zero, List.set_cons_succ]
                  refine wpAnyH_take (i := 6) (oi := { dst := some 125, op := Op.indexAddr 51 (Operand.tmp 123) (Operand.tmp 124), type := 0, pos := "more.go:60", after := #[{ on := 4, ground := Ground.data }, { on := 5, ground := Ground.data }], guard := none }) (v := ?_) rfl (by kernel_rfl) (by kernel_rfl) (by kernel_rfl) (fun _ _ _ h => h) (Or.inl ⟨by rfl, ?_⟩) (by assumption) ?_
                  rotate_left
                  · (intro w hSw; (try dsimp only at hSw); go_simp; try with_reducible rfl)
                  try simp only [Act.put, List.setIfInBounds_toArray, List.set_cons_zero, List.set_cons_succ]
                  refine wpAnyH_take (i := 7) (oi := { dst := some 126, op := Op.load 3 (Operand.tmp 125), type := 3, pos := "more.go:60", after := #[{ on := 6, ground := Ground.data }], guard := none }) (v := ?_) rfl (by kernel_rfl) (by kernel_rfl) (by kernel_rfl) (fun _ _ _ h => h) (Or.inl ⟨by rfl, ?_⟩) (by assumption) ?_
                  rotate_left
                  · (intro w hSw; (try dsimp only at hSw); go_simp; try with_reducible rfl)
                  try simp only [Act.put, List.setIfInBounds_toArray, List.set_cons_zero, List.set_cons_succ]
                  refine wpAnyH_take (i := 8) (oi := { dst := some 127, op := Op.call { callee := Callee.builtin Builtin.max, args := #[Operand.tmp 122, Operand.tmp 126], argTypes := #[3, 3] }, type := 3, pos := "more.go:60", after := #[{ on := 3, ground := Ground.data }, { on := 7, ground := Ground.data }], guard := none }) (v := ?_) rfl (by kernel_rfl) (by kernel_rfl) (by kernel_rfl) (fun _ _ _ h => h) (Or.inl ⟨by rfl, ?_⟩) (by assumption) ?_
                  rotate_left
                  · (intro w hSw; (try dsimp only at hSw); go_simp; try with_reducible rfl)
                  try simp only [Act.put, List.setIfInBounds_toArray, List.set_cons_zero, List.set_cons_succ]
                  refine wpAnyH_take (i := 9) (oi := { dst := some 26, op := Op.assign (Operand.tmp 127), type := 3, pos := "more.go:60", after := #[{ on := 8, ground := Ground.data }, { on := 0, ground := Ground.phase }, { on := 1, ground := Ground.phase }, { on := 2, ground := Ground.phase }, { on := 3, ground := Ground.phase }, { on := 4, ground := Ground.phase }, { on := 5, ground := Ground.phase }, { on := 6, ground := Ground.phase }, { on := 7, ground := Ground.phase }, { on := 8, ground := Ground.phase }], guard := none }) (v := ?_) rfl (by kernel_rfl) (by kernel_rfl) (by kernel_rfl) (fun _ _ _ h => h) (Or.inl ⟨by rfl, ?_⟩) (by assumption) ?_
                  rotate_left
                  · (intro w hSw; (try dsimp only at hSw); go_simp; try with_reducible rfl)
                  try simp only [Act.put, List.setIfInBounds_toArray, List.set_cons_zero, List.set_cons_succ]
                  refine wpAnyH_done (by kernel_rfl) ?_ _
                  refine NoPanic.normal ?_
                  have l0 : (wr.alloc (.cells #[.int .i64 0, .int .i64 2, .int .i64 1] 3)).drew.drew.cell? ⟨wr.heap.size, 0, none⟩ = some (.int .i64 0) := c0
                  have l1 : (wr.alloc (.cells #[.int .i64 0, .int .i64 2, .int .i64 1] 3)).drew.drew.cell? ⟨wr.heap.size, 1, none⟩ = some (.int .i64 2) := c1
                  have l2 : (wr.alloc (.cells #[.int .i64 0, .int .i64 2, .int .i64 1] 3)).drew.drew.cell? ⟨wr.heap.size, 2, none⟩ = some (.int .i64 1) := c2
                  go_wp2_with fail
                  exact ⟨⟨0 + 1, by omega, rfl, congrArg (Value.int .i64) FA.out.symm, congrArg (Value.int .i64) FO.out.symm, (BB.out).drew.drew⟩, by simp [intOf]⟩
                · have hQ' : hasb q 0 = false := by simpa using hQ
                  have gp : (Go.bits .and .i64 (p / 2) 1 == 0) = false := by rw [(bit_is p HPP.out).2.1, hP]; rfl
                  have gp' : (Go.bits .and .i64 (p / 2) 1 = 0) = False := by have := gp; simpa using this
                  have gq : (Go.bits .and .i64 (q) 1 == 0) = true := by rw [(bit_is q HQQ.out).1, hQ']; rfl
                  have gq' : (Go.bits .and .i64 (q) 1 = 0) = True := by have := gq; simpa using this
                  have hn : (hasb p (3 / 3) && hasb q (3 % 3)) = false := by rw [show 3 / 3 = 1 from rfl, show 3 % 3 = 0 from rfl, hP, hQ']; rfl
                  have fa : fA p q (3 + 1) = fA p q 3 := if_neg (by rw [hn]; decide)
                  have fo : fO p q (3 + 1) = fO p q 3 := if_neg (by rw [hn]; decide)
                  have FA := Lib.hid fa
                  have FO := Lib.hid fo
                  clear fa fo hn hQ
                  go_wp2_with fail
                  exact ⟨⟨0 + 1, by omega, rfl, congrArg (Value.int .i64) FA.out.symm, congrArg (Value.int .i64) FO.out.symm, HB2.out⟩, by simp [intOf]⟩
              · have hP' : hasb p 1 = false := by simpa using hP
                have gp : (Go.bits .and .i64 (p / 2) 1 == 0) = true := by rw [(bit_is p HPP.out).2.1, hP']; rfl
                have gp' : (Go.bits .and .i64 (p / 2) 1 = 0) = True := by have := gp; simpa using this
                have hn : (hasb p (3 / 3) && hasb q (3 % 3)) = false := by rw [show 3 / 3 = 1 from rfl, hP']; rfl
                have fa : fA p q (3 + 1) = fA p q 3 := if_neg (by rw [hn]; decide)
                have fo : fO p q (3 + 1) = fO p q 3 := if_neg (by rw [hn]; decide)
                have FA := Lib.hid fa
                have FO := Lib.hid fo
                clear fa fo hn hP
                go_wp2_with fail
                exact ⟨⟨0 + 1, by omega, rfl, congrArg (Value.int .i64) FA.out.symm, congrArg (Value.int .i64) FO.out.symm, HB2.out⟩, by simp [intOf]⟩
            · skip
              by_cases hP : hasb p 1 = true
              · by_cases hQ : hasb q 1 = true
                · skip
                  have gp : (Go.bits .and .i64 (p / 2) 1 == 0) = false := by rw [(bit_is p HPP.out).2.1, hP]; rfl
                  have gp' : (Go.bits .and .i64 (p / 2) 1 = 0) = False := by have := gp; simpa using this
                  have gq : (Go.bits .and .i64 (q / 2) 1 == 0) = false := by rw [(bit_is q HQQ.out).2.1, hQ]; rfl
                  have gq' : (Go.bits .and .i64 (q / 2) 1 = 0) = False := by have := gq; simpa using this
                  have fa : fA p q (4 + 1) = lor (fA p q 4) (shA 1 1) := if_pos (by show (hasb p (4 / 3) && hasb q (4 % 3)) = true; rw [show 4 / 3 = 1 from rfl, show 4 % 3 = 1 from rfl, hP, hQ]; rfl)
                  have fo : fO p q (4 + 1) = lor (fO p q 4) (shO 1 1) := if_pos (by show (hasb p (4 / 3) && hasb q (4 % 3)) = true; rw [show 4 / 3 = 1 from rfl, show 4 % 3 = 1 from rfl, hP, hQ]; rfl)
                  have FA := Lib.hid fa
                  have FO := Lib.hid fo
                  have hA := (Below.refl wr.heap.size wr).alloc (Nat.le_refl _) (.cells #[.int .i64 0, .int .i64 2, .int .i64 1] 3)
                  have BB := Lib.hid ((HB2.out).trans (hA.mono (HB2.out).size))
                  have c0 : (wr.alloc (.cells #[.int .i64 0, .int .i64 2, .int .i64 1] 3)).cell? ⟨wr.heap.size, 0, none⟩ = some (.int .i64 0) := by rw [cell_of_row _ _ _ _ 3 _ (alloc_here wr _)]; rfl
                  have c1 : (wr.alloc (.cells #[.int .i64 0, .int .i64 2, .int .i64 1] 3)).cell? ⟨wr.heap.size, 1, none⟩ = some (.int .i64 2) := by rw [cell_of_row _ _ _ _ 3 _ (alloc_here wr _)]; rfl
                  have c2 : (wr.alloc (.cells #[.int .i64 0, .int .i64 2, .int .i64 1] 3)).cell? ⟨wr.heap.size, 2, none⟩ = some (.int .i64 1) := by rw [cell_of_row _ _ _ _ 3 _ (alloc_here wr _)]; rfl
                  clear fa fo hA
                  go_upto_region 20 with fail
                  refine wp_region_noPanic ?_
                  refine wp_region_held_drew (S := (fun W => W.cell? ⟨wr.heap.size, 0, none⟩ = some (.int .i64 0) ∧ W.cell? ⟨wr.heap.size, 1, none⟩ = some (.int .i64 2) ∧ W.cell? ⟨wr.heap.size, 2, none⟩ = some (.int .i64 1))) (by kernel_rfl) ?_ (fun hHeld => ?_)
                  · exact ⟨c0, c1, c2⟩
                  refine wpAnyH_take (i := 0) (oi := { dst := some 110, op := Op.move (Operand.tmp 24), type := 51, pos := "more.go:59", after := #[], guard := none }) (v := ?_) rfl (by kernel_rfl) (by kernel_rfl) (by kernel_rfl) (fun _ _ _ h => h) (Or.inl ⟨by rfl, ?_⟩) (by assumption) ?_
                  rotate_left
                  · (intro w hSw; (try dsimp only at hSw); go_simp; try with_reducible rfl)
                  try simp only [Act.put, List.setIfInBounds_toArray, List.set_cons_zero, List.set_cons_succ]
                  refine wpAnyH_take (i := 1) (oi := { dst := some 111, op := Op.move (Operand.tmp 22), type := 3, pos := "more.go:59", after := #[], guard := none }) (v := ?_) rfl (by kernel_rfl) (by kernel_rfl) (by kernel_rfl) (fun _ _ _ h => h) (Or.inl ⟨by rfl, ?_⟩) (by assumption) ?_
                  rotate_left
                  · (intro w hSw; (try dsimp only at hSw); go_simp; try with_reducible rfl)
                  try simp only [Act.put, List.setIfInBounds_toArray, List.set_cons_zero, List.set_cons_succ]
                  refine wpAnyH_take (i := 2) (oi := { dst := some 112, op := Op.indexAddr 51 (Operand.tmp 110) (Operand.tmp 111), type := 0, pos := "more.go:59", after := #[{ on := 0, ground := Ground.data }, { on := 1, ground := Ground.data }], guard := none }) (v := ?_) rfl (by kernel_rfl) (by kernel_rfl) (by kernel_rfl) (fun _ _ _ h => h) (Or.inl ⟨by rfl, ?_⟩) (by assumption) ?_
                  rotate_left
                  · (intro w hSw; (try dsimp only at hSw); go_simp; try with_reducible rfl)
                  try simp only [Act.put, List.setIfInBounds_toArray, List.set_cons_zero, List.set_cons_succ]
                  refine wpAnyH_take (i := 3) (oi := { dst := some 113, op := Op.load 3 (Operand.tmp 112), type := 3, pos := "more.go:59", after := #[{ on := 2, ground := Ground.data }], guard := none }) (v := ?_) rfl (by kernel_rfl) (by kernel_rfl) (by kernel_rfl) (fun _ _ _ h => h) (Or.inl ⟨by rfl, ?_⟩) (by assumption) ?_
                  rotate_left
                  · (intro w hSw; (try dsimp only at hSw); go_simp; try with_reducible rfl)
                  try simp only [Act.put, List.setIfInBounds_toArray, List.set_cons_zero, List.set_cons_succ]
                  refine wpAnyH_take (i := 4) (oi := { dst := some 114, op := Op.move (Operand.tmp 24), type := 51, pos := "more.go:59", after := #[], guard := none }) (v := ?_) rfl (by kernel_rfl) (by kernel_rfl) (by kernel_rfl) (fun _ _ _ h => h) (Or.inl ⟨by rfl, ?_⟩) (by assumption) ?_
                  rotate_left
                  · (intro w hSw; (try dsimp only at hSw); go_simp; try with_reducible rfl)
                  try simp only [Act.put, List.setIfInBounds_toArray, List.set_cons_zero, List.set_cons_succ]
                  refine wpAnyH_take (i := 5) (oi := { dst := some 115, op := Op.move (Operand.tmp 23), type := 3, pos := "more.go:59", after := #[], guard := none }) (v := ?_) rfl (by kernel_rfl) (by kernel_rfl) (by kernel_rfl) (fun _ _ _ h => h) (Or.inl ⟨by rfl, ?_⟩) (by assumption) ?_
                  rotate_left
                  · (intro w hSw; (try dsimp only at hSw); go_simp; try with_reducible rfl)
                  try simp only [Act.put, List.setIfInBounds_toArray, List.set_cons_zero, List.set_cons_succ]
                  refine wpAnyH_take (i := 6) (oi := { dst := some 116, op := Op.indexAddr 51 (Operand.tmp 114) (Operand.tmp 115), type := 0, pos := "more.go:59", after := #[{ on := 4, ground := Ground.data }, { on := 5, ground := Ground.data }], guard := none }) (v := ?_) rfl (by kernel_rfl) (by kernel_rfl) (by kernel_rfl) (fun _ _ _ h => h) (Or.inl ⟨by rfl, ?_⟩) (by assumption) ?_
                  rotate_left
                  · (intro w hSw; (try dsimp only at hSw); go_simp; try with_reducible rfl)
                  try simp only [Act.put, List.setIfInBounds_toArray, List.set_cons_zero, List.set_cons_succ]
                  refine wpAnyH_take (i := 7) (oi := { dst := some 117, op := Op.load 3 (Operand.tmp 116), type := 3, pos := "more.go:59", after := #[{ on := 6, ground := Ground.data }], guard := none }) (v := ?_) rfl (by kernel_rfl) (by kernel_rfl) (by kernel_rfl) (fun _ _ _ h => h) (Or.inl ⟨by rfl, ?_⟩) (by assumption) ?_
                  rotate_left
                  · (intro w hSw; (try dsimp only at hSw); go_simp; try with_reducible rfl)
                  try simp only [Act.put, List.setIfInBounds_toArray, List.set_cons_zero, List.set_cons_succ]
                  refine wpAnyH_take (i := 8) (oi := { dst := some 118, op := Op.call { callee := Callee.builtin Builtin.min, args := #[Operand.tmp 113, Operand.tmp 117], argTypes := #[3, 3] }, type := 3, pos := "more.go:59", after := #[{ on := 3, ground := Ground.data }, { on := 7, ground := Ground.data }], guard := none }) (v := ?_) rfl (by kernel_rfl) (by kernel_rfl) (by kernel_rfl) (fun _ _ _ h => h) (Or.inl ⟨by rfl, ?_⟩) (by assumption) ?_
                  rotate_left
                  · (intro w hSw; (try dsimp only at hSw); go_simp; try with_reducible rfl)
                  try simp only [Act.put, List.setIfInBounds_toArray, List.set_cons_zero, List.set_cons_succ]
                  refine wpAnyH_take (i := 9) (oi := { dst := some 25, op := Op.assign (Operand.tmp 118), type := 3, pos := "more.go:59", after := #[{ on := 8, ground := Ground.data }, { on := 0, ground := Ground.phase }, { on := 1, ground := Ground.phase }, { on := 2, ground := Ground.phase }, { on := 3, ground := Ground.phase }, { on := 4, ground := Ground.phase }, { on := 5, ground := Ground.phase }, { on := 6, ground := Ground.phase }, { on := 7, ground := Ground.phase }, { on := 8, ground := Ground.phase }], guard := none }) (v := ?_) rfl (by kernel_rfl) (by kernel_rfl) (by kernel_rfl) (fun _ _ _ h => h) (Or.inl ⟨by rfl, ?_⟩) (by assumption) ?_
                  rotate_left
                  · (intro w hSw; (try dsimp only at hSw); go_simp; try with_reducible rfl)
                  try simp only [Act.put, List.setIfInBounds_toArray, List.set_cons_zero, List.set_cons_succ]
                  refine wpAnyH_done (by kernel_rfl) ?_ _
                  refine NoPanic.normal ?_
                  have k0 : (wr.alloc (.cells #[.int .i64 0, .int .i64 2, .int .i64 1] 3)).drew.cell? ⟨wr.heap.size, 0, none⟩ = some (.int .i64 0) := c0
                  have k1 : (wr.alloc (.cells #[.int .i64 0, .int .i64 2, .int .i64 1] 3)).drew.cell? ⟨wr.heap.size, 1, none⟩ = some (.int .i64 2) := c1
                  have k2 : (wr.alloc (.cells #[.int .i64 0, .int .i64 2, .int .i64 1] 3)).drew.cell? ⟨wr.heap.size, 2, none⟩ = some (.int .i64 1) := c2
                  go_upto_region 21 with fail
                  refine wp_region_noPanic ?_
                  refine wp_region_held_drew (S := (fun W => W.cell? ⟨wr.heap.size, 0, none⟩ = some (.int .i64 0) ∧ W.cell? ⟨wr.heap.size, 1, none⟩ = some (.int .i64 2) ∧ W.cell? ⟨wr.heap.size, 2, none⟩ = some (.int .i64 1))) (by kernel_rfl) ?_ (fun hHeld => ?_)
                  · exact ⟨k0, k1, k2⟩
                  refine wpAnyH_take (i := 0) (oi := { dst := some 119, op := Op.move (Operand.tmp 24), type := 51, pos := "more.go:60", after := #[], guard := none }) (v := ?_) rfl (by kernel_rfl) (by kernel_rfl) (by kernel_rfl) (fun _ _ _ h => h) (Or.inl ⟨by rfl, ?_⟩) (by assumption) ?_
                  rotate_left
                  · (intro w hSw; (try dsimp only at hSw); go_simp; try with_reducible rfl)
                  try simp only [Act.put, List.setIfInBounds_toArray, List.set_cons_zero, List.set_cons_succ]
                  refine wpAnyH_take (i := 1) (oi := { dst := some 120, op := Op.move (Operand.tmp 22), type := 3, pos := "more.go:60", after := #[], guard := none }) (v := ?_) rfl (by kernel_rfl) (by kernel_rfl) (by kernel_rfl) (fun _ _ _ h => h) (Or.inl ⟨by rfl, ?_⟩) (by assumption) ?_
                  rotate_left
                  · (intro w hSw; (try dsimp only at hSw); go_simp; try with_reducible rfl)
                  try simp only [Act.put, List.setIfInBounds_toArray, List.set_cons_zero, List.set_cons_succ]
                  refine wpAnyH_take (i := 2) (oi := { dst := some 121, op := Op.indexAddr 51 (Operand.tmp 119) (Operand.tmp 120), type := 0, pos := "more.go:60", after := #[{ on := 0, ground := Ground.data }, { on := 1, ground := Ground.data }], guard := none }) (v := ?_) rfl (by kernel_rfl) (by kernel_rfl) (by kernel_rfl) (fun _ _ _ h => h) (Or.inl ⟨by rfl, ?_⟩) (by assumption) ?_
                  rotate_left
                  · (intro w hSw; (try dsimp only at hSw); go_simp; try with_reducible rfl)
                  try simp only [Act.put, List.setIfInBounds_toArray, List.set_cons_zero, List.set_cons_succ]
                  refine wpAnyH_take (i := 3) (oi := { dst := some 122, op := Op.load 3 (Operand.tmp 121), type := 3, pos := "more.go:60", after := #[{ on := 2, ground := Ground.data }], guard := none }) (v := ?_) rfl (by kernel_rfl) (by kernel_rfl) (by kernel_rfl) (fun _ _ _ h => h) (Or.inl ⟨by rfl, ?_⟩) (by assumption) ?_
                  rotate_left
                  · (intro w hSw; (try dsimp only at hSw); go_simp; try with_reducible rfl)
                  try simp only [Act.put, List.setIfInBounds_toArray, List.set_cons_zero, List.set_cons_succ]
                  refine wpAnyH_take (i := 4) (oi := { dst := some 123, op := Op.move (Operand.tmp 24), type := 51, pos := "more.go:60", after := #[], guard := none }) (v := ?_) rfl (by kernel_rfl) (by kernel_rfl) (by kernel_rfl) (fun _ _ _ h => h) (Or.inl ⟨by rfl, ?_⟩) (by assumption) ?_
                  rotate_left
                  · (intro w hSw; (try dsimp only at hSw); go_simp; try with_reducible rfl)
                  try simp only [Act.put, List.setIfInBounds_toArray, List.set_cons_zero, List.set_cons_succ]
                  refine wpAnyH_take (i := 5) (oi := { dst := some 124, op := Op.move (Operand.tmp 23), type := 3, pos := "more.go:60", after := #[], guard := none }) (v := ?_) rfl (by kernel_rfl) (by kernel_rfl) (by kernel_rfl) (fun _ _ _ h => h) (Or.inl ⟨by rfl, ?_⟩) (by assumption) ?_
                  rotate_left
                  · (intro w hSw; (try dsimp only at hSw); go_simp; try with_reducible rfl)
                  try simp only [Act.put, List.setIfInBounds_toArray, List.set_cons_zero, List.set_cons_succ]
                  refine wpAnyH_take (i := 6) (oi := { dst := some 125, op := Op.indexAddr 51 (Operand.tmp 123) (Operand.tmp 124), type := 0, pos := "more.go:60", after := #[{ on := 4, ground := Ground.data }, { on := 5, ground := Ground.data }], guard := none }) (v := ?_) rfl (by kernel_rfl) (by kernel_rfl) (by kernel_rfl) (fun _ _ _ h => h) (Or.inl ⟨by rfl, ?_⟩) (by assumption) ?_
                  rotate_left
                  · (intro w hSw; (try dsimp only at hSw); go_simp; try with_reducible rfl)
                  try simp only [Act.put, List.setIfInBounds_toArray, List.set_cons_zero, List.set_cons_succ]
                  refine wpAnyH_take (i := 7) (oi := { dst := some 126, op := Op.load 3 (Operand.tmp 125), type := 3, pos := "more.go:60", after := #[{ on := 6, ground := Ground.data }], guard := none }) (v := ?_) rfl (by kernel_rfl) (by kernel_rfl) (by kernel_rfl) (fun _ _ _ h => h) (Or.inl ⟨by rfl, ?_⟩) (by assumption) ?_
                  rotate_left
                  · (intro w hSw; (try dsimp only at hSw); go_simp; try with_reducible rfl)
                  try simp only [Act.put, List.setIfInBounds_toArray, List.set_cons_zero, List.set_cons_succ]
                  refine wpAnyH_take (i := 8) (oi := { dst := some 127, op := Op.call { callee := Callee.builtin Builtin.max, args := #[Operand.tmp 122, Operand.tmp 126], argTypes := #[3, 3] }, type := 3, pos := "more.go:60", after := #[{ on := 3, ground := Ground.data }, { on := 7, ground := Ground.data }], guard := none }) (v := ?_) rfl (by kernel_rfl) (by kernel_rfl) (by kernel_rfl) (fun _ _ _ h => h) (Or.inl ⟨by rfl, ?_⟩) (by assumption) ?_
                  rotate_left
                  · (intro w hSw; (try dsimp only at hSw); go_simp; try with_reducible rfl)
                  try simp only [Act.put, List.setIfInBounds_toArray, List.set_cons_zero, List.set_cons_succ]
                  refine wpAnyH_take (i := 9) (oi := { dst := some 26, op := Op.assign (Operand.tmp 127), type := 3, pos := "more.go:60", after := #[{ on := 8, ground := Ground.data }, { on := 0, ground := Ground.phase }, { on := 1, ground := Ground.phase }, { on := 2, ground := Ground.phase }, { on := 3, ground := Ground.phase }, { on := 4, ground := Ground.phase }, { on := 5, ground := Ground.phase }, { on := 6, ground := Ground.phase }, { on := 7, ground := Ground.phase }, { on := 8, ground := Ground.phase }], guard := none }) (v := ?_) rfl (by kernel_rfl) (by kernel_rfl) (by kernel_rfl) (fun _ _ _ h => h) (Or.inl ⟨by rfl, ?_⟩) (by assumption) ?_
                  rotate_left
                  · (intro w hSw; (try dsimp only at hSw); go_simp; try with_reducible rfl)
                  try simp only [Act.put, List.setIfInBounds_toArray, List.set_cons_zero, List.set_cons_succ]
                  refine wpAnyH_done (by kernel_rfl) ?_ _
                  refine NoPanic.normal ?_
                  have l0 : (wr.alloc (.cells #[.int .i64 0, .int .i64 2, .int .i64 1] 3)).drew.drew.cell? ⟨wr.heap.size, 0, none⟩ = some (.int .i64 0) := c0
                  have l1 : (wr.alloc (.cells #[.int .i64 0, .int .i64 2, .int .i64 1] 3)).drew.drew.cell? ⟨wr.heap.size, 1, none⟩ = some (.int .i64 2) := c1
                  have l2 : (wr.alloc (.cells #[.int .i64 0, .int .i64 2, .int .i64 1] 3)).drew.drew.cell? ⟨wr.heap.size, 2, none⟩ = some (.int .i64 1) := c2
                  go_wp2_with fail
                  exact ⟨⟨1 + 1, by omega, rfl, congrArg (Value.int .i64) FA.out.symm, congrArg (Value.int .i64) FO.out.symm, (BB.out).drew.drew⟩, by simp [intOf]⟩
                · have hQ' : hasb q 1 = false := by simpa using hQ
                  have gp : (Go.bits .and .i64 (p / 2) 1 == 0) = false := by rw [(bit_is p HPP.out).2.1, hP]; rfl
                  have gp' : (Go.bits .and .i64 (p / 2) 1 = 0) = False := by have := gp; simpa using this
                  have gq : (Go.bits .and .i64 (q / 2) 1 == 0) = true := by rw [(bit_is q HQQ.out).2.1, hQ']; rfl
                  have gq' : (Go.bits .and .i64 (q / 2) 1 = 0) = True := by have := gq; simpa using this
                  have hn : (hasb p (4 / 3) && hasb q (4 % 3)) = false := by rw [show 4 / 3 = 1 from rfl, show 4 % 3 = 1 from rfl, hP, hQ']; rfl
                  have fa : fA p q (4 + 1) = fA p q 4 := if_neg (by rw [hn]; decide)
                  have fo : fO p q (4 + 1) = fO p q 4 := if_neg (by rw [hn]; decide)
                  have FA := Lib.hid fa
                  have FO := Lib.hid fo
                  clear fa fo hn hQ
                  go_wp2_with fail
                  exact ⟨⟨1 + 1, by omega, rfl, congrArg (Value.int .i64) FA.out.symm, congrArg (Value.int .i64) FO.out.symm, HB2.out⟩, by simp [intOf]⟩
              · have hP' : hasb p 1 = false := by simpa using hP
                have gp : (Go.bits .and .i64 (p / 2) 1 == 0) = true := by rw [(bit_is p HPP.out).2.1, hP']; rfl
                have gp' : (Go.bits .and .i64 (p / 2) 1 = 0) = True := by have := gp; simpa using this
                have hn : (hasb p (4 / 3) && hasb q (4 % 3)) = false := by rw [show 4 / 3 = 1 from rfl, hP']; rfl
                have fa : fA p q (4 + 1) = fA p q 4 := if_neg (by rw [hn]; decide)
                have fo : fO p q (4 + 1) = fO p q 4 := if_neg (by rw [hn]; decide)
                have FA := Lib.hid fa
                have FO := Lib.hid fo
                clear fa fo hn hP
                go_wp2_with fail
                exact ⟨⟨1 + 1, by omega, rfl, congrArg (Value.int .i64) FA.out.symm, congrArg (Value.int .i64) FO.out.symm, HB2.out⟩, by simp [intOf]⟩
            · skip
              by_cases hP : hasb p 1 = true
              · by_cases hQ : hasb q 2 = true
                · skip
                  have gp : (Go.bits .and .i64 (p / 2) 1 == 0) = false := by rw [(bit_is p HPP.out).2.1, hP]; rfl
                  have gp' : (Go.bits .and .i64 (p / 2) 1 = 0) = False := by have := gp; simpa using this
                  have gq : (Go.bits .and .i64 (q / 4) 1 == 0) = false := by rw [(bit_is q HQQ.out).2.2, hQ]; rfl
                  have gq' : (Go.bits .and .i64 (q / 4) 1 = 0) = False := by have := gq; simpa using this
                  have fa : fA p q (5 + 1) = lor (fA p q 5) (shA 1 2) := if_pos (by show (hasb p (5 / 3) && hasb q (5 % 3)) = true; rw [show 5 / 3 = 1 from rfl, show 5 % 3 = 2 from rfl, hP, hQ]; rfl)
                  have fo : fO p q (5 + 1) = lor (fO p q 5) (shO 1 2) := if_pos (by show (hasb p (5 / 3) && hasb q (5 % 3)) = true; rw [show 5 / 3 = 1 from rfl, show 5 % 3 = 2 from rfl, hP, hQ]; rfl)
                  have FA := Lib.hid fa
                  have FO := Lib.hid fo
                  have hA := (Below.refl wr.heap.size wr).alloc (Nat.le_refl _) (.cells #[.int .i64 0, .int .i64 2, .int .i64 1] 3)
                  have BB := Lib.hid ((HB2.out).trans (hA.mono (HB2.out).size))
                  have c0 : (wr.alloc (.cells #[.int .i64 0, .int .i64 2, .int .i64 1] 3)).cell? ⟨wr.heap.size, 0, none⟩ = some (.int .i64 0) := by rw [cell_of_row _ _ _ _ 3 _ (alloc_here wr _)]; rfl
                  have c1 : (wr.alloc (.cells #[.int .i64 0, .int .i64 2, .int .i64 1] 3)).cell? ⟨wr.heap.size, 1, none⟩ = some (.int .i64 2) := by rw [cell_of_row _ _ _ _ 3 _ (alloc_here wr _)]; rfl
                  have c2 : (wr.alloc (.cells #[.int .i64 0, .int .i64 2, .int .i64 1] 3)).cell? ⟨wr.heap.size, 2, none⟩ = some (.int .i64 1) := by rw [cell_of_row _ _ _ _ 3 _ (alloc_here wr _)]; rfl
                  clear fa fo hA
                  go_upto_region 20 with fail
                  refine wp_region_noPanic ?_
                  refine wp_region_held_drew (S := (fun W => W.cell? ⟨wr.heap.size, 0, none⟩ = some (.int .i64 0) ∧ W.cell? ⟨wr.heap.size, 1, none⟩ = some (.int .i64 2) ∧ W.cell? ⟨wr.heap.size, 2, none⟩ = some (.int .i64 1))) (by kernel_rfl) ?_ (fun hHeld => ?_)
                  · exact ⟨c0, c1, c2⟩
                  refine wpAnyH_take (i := 0) (oi := { dst := some 110, op := Op.move (Operand.tmp 24), type := 51, pos := "more.go:59", after := #[], guard := none }) (v := ?_) rfl (by kernel_rfl) (by kernel_rfl) (by kernel_rfl) (fun _ _ _ h => h) (Or.inl ⟨by rfl, ?_⟩) (by assumption) ?_
                  rotate_left
                  · (intro w hSw; (try dsimp only at hSw); go_simp; try with_reducible rfl)
                  try simp only [Act.put, List.setIfInBounds_toArray, List.set_cons_zero, List.set_cons_succ]
                  refine wpAnyH_take (i := 1) (oi := { dst := some 111, op := Op.move (Operand.tmp 22), type := 3, pos := "more.go:59", after := #[], guard := none }) (v := ?_) rfl (by kernel_rfl) (by kernel_rfl) (by kernel_rfl) (fun _ _ _ h => h) (Or.inl ⟨by rfl, ?_⟩) (by assumption) ?_
                  rotate_left
                  · (intro w hSw; (try dsimp only at hSw); go_simp; try with_reducible rfl)
                  try simp only [Act.put, List.setIfInBounds_toArray, List.set_cons_zero, List.set_cons_succ]
                  refine wpAnyH_take (i := 2) (oi := { dst := some 112, op := Op.indexAddr 51 (Operand.tmp 110) (Operand.tmp 111), type := 0, pos := "more.go:59", after := #[{ on := 0, ground := Ground.data }, { on := 1, ground := Ground.data }], guard := none }) (v := ?_) rfl (by kernel_rfl) (by kernel_rfl) (by kernel_rfl) (fun _ _ _ h => h) (Or.inl ⟨by rfl, ?_⟩) (by assumption) ?_
                  rotate_left
                  · (intro w hSw; (try dsimp only at hSw); go_simp; try with_reducible rfl)
                  try simp only [Act.put, List.setIfInBounds_toArray, List.set_cons_zero, List.set_cons_succ]
                  refine wpAnyH_take (i := 3) (oi := { dst := some 113, op := Op.load 3 (Operand.tmp 112), type := 3, pos := "more.go:59", after := #[{ on := 2, ground := Ground.data }], guard := none }) (v := ?_) rfl (by kernel_rfl) (by kernel_rfl) (by kernel_rfl) (fun _ _ _ h => h) (Or.inl ⟨by rfl, ?_⟩) (by assumption) ?_
                  rotate_left
                  · (intro w hSw; (try dsimp only at hSw); go_simp; try with_reducible rfl)
                  try simp only [Act.put, List.setIfInBounds_toArray, List.set_cons_zero, List.set_cons_succ]
                  refine wpAnyH_take (i := 4) (oi := { dst := some 114, op := Op.move (Operand.tmp 24), type := 51, pos := "more.go:59", after := #[], guard := none }) (v := ?_) rfl (by kernel_rfl) (by kernel_rfl) (by kernel_rfl) (fun _ _ _ h => h) (Or.inl ⟨by rfl, ?_⟩) (by assumption) ?_
                  rotate_left
                  · (intro w hSw; (try dsimp only at hSw); go_simp; try with_reducible rfl)
                  try simp only [Act.put, List.setIfInBounds_toArray, List.set_cons_zero, List.set_cons_succ]
                  refine wpAnyH_take (i := 5) (oi := { dst := some 115, op := Op.move (Operand.tmp 23), type := 3, pos := "more.go:59", after := #[], guard := none }) (v := ?_) rfl (by kernel_rfl) (by kernel_rfl) (by kernel_rfl) (fun _ _ _ h => h) (Or.inl ⟨by rfl, ?_⟩) (by assumption) ?_
                  rotate_left
                  · (intro w hSw; (try dsimp only at hSw); go_simp; try with_reducible rfl)
                  try simp only [Act.put, List.setIfInBounds_toArray, List.set_cons_zero, List.set_cons_succ]
                  refine wpAnyH_take (i := 6) (oi := { dst := some 116, op := Op.indexAddr 51 (Operand.tmp 114) (Operand.tmp 115), type := 0, pos := "more.go:59", after := #[{ on := 4, ground := Ground.data }, { on := 5, ground := Ground.data }], guard := none }) (v := ?_) rfl (by kernel_rfl) (by kernel_rfl) (by kernel_rfl) (fun _ _ _ h => h) (Or.inl ⟨by rfl, ?_⟩) (by assumption) ?_
                  rotate_left
                  · (intro w hSw; (try dsimp only at hSw); go_simp; try with_reducible rfl)
                  try simp only [Act.put, List.setIfInBounds_toArray, List.set_cons_zero, List.set_cons_succ]
                  refine wpAnyH_take (i := 7) (oi := { dst := some 117, op := Op.load 3 (Operand.tmp 116), type := 3, pos := "more.go:59", after := #[{ on := 6, ground := Ground.data }], guard := none }) (v := ?_) rfl (by kernel_rfl) (by kernel_rfl) (by kernel_rfl) (fun _ _ _ h => h) (Or.inl ⟨by rfl, ?_⟩) (by assumption) ?_
                  rotate_left
                  · (intro w hSw; (try dsimp only at hSw); go_simp; try with_reducible rfl)
                  try simp only [Act.put, List.setIfInBounds_toArray, List.set_cons_zero, List.set_cons_succ]
                  refine wpAnyH_take (i := 8) (oi := { dst := some 118, op := Op.call { callee := Callee.builtin Builtin.min, args := #[Operand.tmp 113, Operand.tmp 117], argTypes := #[3, 3] }, type := 3, pos := "more.go:59", after := #[{ on := 3, ground := Ground.data }, { on := 7, ground := Ground.data }], guard := none }) (v := ?_) rfl (by kernel_rfl) (by kernel_rfl) (by kernel_rfl) (fun _ _ _ h => h) (Or.inl ⟨by rfl, ?_⟩) (by assumption) ?_
                  rotate_left
                  · (intro w hSw; (try dsimp only at hSw); go_simp; try with_reducible rfl)
                  try simp only [Act.put, List.setIfInBounds_toArray, List.set_cons_zero, List.set_cons_succ]
                  refine wpAnyH_take (i := 9) (oi := { dst := some 25, op := Op.assign (Operand.tmp 118), type := 3, pos := "more.go:59", after := #[{ on := 8, ground := Ground.data }, { on := 0, ground := Ground.phase }, { on := 1, ground := Ground.phase }, { on := 2, ground := Ground.phase }, { on := 3, ground := Ground.phase }, { on := 4, ground := Ground.phase }, { on := 5, ground := Ground.phase }, { on := 6, ground := Ground.phase }, { on := 7, ground := Ground.phase }, { on := 8, ground := Ground.phase }], guard := none }) (v := ?_) rfl (by kernel_rfl) (by kernel_rfl) (by kernel_rfl) (fun _ _ _ h => h) (Or.inl ⟨by rfl, ?_⟩) (by assumption) ?_
                  rotate_left
                  · (intro w hSw; (try dsimp only at hSw); go_simp; try with_reducible rfl)
                  try simp only [Act.put, List.setIfInBounds_toArray, List.set_cons_zero, List.set_cons_succ]
                  refine wpAnyH_done (by kernel_rfl) ?_ _
                  refine NoPanic.normal ?_
                  have k0 : (wr.alloc (.cells #[.int .i64 0, .int .i64 2, .int .i64 1] 3)).drew.cell? ⟨wr.heap.size, 0, none⟩ = some (.int .i64 0) := c0
                  have k1 : (wr.alloc (.cells #[.int .i64 0, .int .i64 2, .int .i64 1] 3)).drew.cell? ⟨wr.heap.size, 1, none⟩ = some (.int .i64 2) := c1
                  have k2 : (wr.alloc (.cells #[.int .i64 0, .int .i64 2, .int .i64 1] 3)).drew.cell? ⟨wr.heap.size, 2, none⟩ = some (.int .i64 1) := c2
                  go_upto_region 21 with fail
                  refine wp_region_noPanic ?_
                  refine wp_region_held_drew (S := (fun W => W.cell? ⟨wr.heap.size, 0, none⟩ = some (.int .i64 0) ∧ W.cell? ⟨wr.heap.size, 1, none⟩ = some (.int .i64 2) ∧ W.cell? ⟨wr.heap.size, 2, none⟩ = some (.int .i64 1))) (by kernel_rfl) ?_ (fun hHeld => ?_)
                  · exact ⟨k0, k1, k2⟩
                  refine wpAnyH_take (i := 0) (oi := { dst := some 119, op := Op.move (Operand.tmp 24), type := 51, pos := "more.go:60", after := #[], guard := none }) (v := ?_) rfl (by kernel_rfl) (by kernel_rfl) (by kernel_rfl) (fun _ _ _ h => h) (Or.inl ⟨by rfl, ?_⟩) (by assumption) ?_
                  rotate_left
                  · (intro w hSw; (try dsimp only at hSw); go_simp; try with_reducible rfl)
                  try simp only [Act.put, List.setIfInBounds_toArray, List.set_cons_zero, List.set_cons_succ]
                  refine wpAnyH_take (i := 1) (oi := { dst := some 120, op := Op.move (Operand.tmp 22), type := 3, pos := "more.go:60", after := #[], guard := none }) (v := ?_) rfl (by kernel_rfl) (by kernel_rfl) (by kernel_rfl) (fun _ _ _ h => h) (Or.inl ⟨by rfl, ?_⟩) (by assumption) ?_
                  rotate_left
                  · (intro w hSw; (try dsimp only at hSw); go_simp; try with_reducible rfl)
                  try simp only [Act.put, List.setIfInBounds_toArray, List.set_cons_zero, List.set_cons_succ]
                  refine wpAnyH_take (i := 2) (oi := { dst := some 121, op := Op.indexAddr 51 (Operand.tmp 119) (Operand.tmp 120), type := 0, pos := "more.go:60", after := #[{ on := 0, ground := Ground.data }, { on := 1, ground := Ground.data }], guard := none }) (v := ?_) rfl (by kernel_rfl) (by kernel_rfl) (by kernel_rfl) (fun _ _ _ h => h) (Or.inl ⟨by rfl, ?_⟩) (by assumption) ?_
                  rotate_left
                  · (intro w hSw; (try dsimp only at hSw); go_simp; try with_reducible rfl)
                  try simp only [Act.put, List.setIfInBounds_toArray, List.set_cons_zero, List.set_cons_succ]
                  refine wpAnyH_take (i := 3) (oi := { dst := some 122, op := Op.load 3 (Operand.tmp 121), type := 3, pos := "more.go:60", after := #[{ on := 2, ground := Ground.data }], guard := none }) (v := ?_) rfl (by kernel_rfl) (by kernel_rfl) (by kernel_rfl) (fun _ _ _ h => h) (Or.inl ⟨by rfl, ?_⟩) (by assumption) ?_
                  rotate_left
                  · (intro w hSw; (try dsimp only at hSw); go_simp; try with_reducible rfl)
                  try simp only [Act.put, List.setIfInBounds_toArray, List.set_cons_zero, List.set_cons_succ]
                  refine wpAnyH_take (i := 4) (oi := { dst := some 123, op := Op.move (Operand.tmp 24), type := 51, pos := "more.go:60", after := #[], guard := none }) (v := ?_) rfl (by kernel_rfl) (by kernel_rfl) (by kernel_rfl) (fun _ _ _ h => h) (Or.inl ⟨by rfl, ?_⟩) (by assumption) ?_
                  rotate_left
                  · (intro w hSw; (try dsimp only at hSw); go_simp; try with_reducible rfl)
                  try simp only [Act.put, List.setIfInBounds_toArray, List.set_cons_zero, List.set_cons_succ]
                  refine wpAnyH_take (i := 5) (oi := { dst := some 124, op := Op.move (Operand.tmp 23), type := 3, pos := "more.go:60", after := #[], guard := none }) (v := ?_) rfl (by kernel_rfl) (by kernel_rfl) (by kernel_rfl) (fun _ _ _ h => h) (Or.inl ⟨by rfl, ?_⟩) (by assumption) ?_
                  rotate_left
                  · (intro w hSw; (try dsimp only at hSw); go_simp; try with_reducible rfl)
                  try simp only [Act.put, List.setIfInBounds_toArray, List.set_cons_zero, List.set_cons_succ]
                  refine wpAnyH_take (i := 6) (oi := { dst := some 125, op := Op.indexAddr 51 (Operand.tmp 123) (Operand.tmp 124), type := 0, pos := "more.go:60", after := #[{ on := 4, ground := Ground.data }, { on := 5, ground := Ground.data }], guard := none }) (v := ?_) rfl (by kernel_rfl) (by kernel_rfl) (by kernel_rfl) (fun _ _ _ h => h) (Or.inl ⟨by rfl, ?_⟩) (by assumption) ?_
                  rotate_left
                  · (intro w hSw; (try dsimp only at hSw); go_simp; try with_reducible rfl)
                  try simp only [Act.put, List.setIfInBounds_toArray, List.set_cons_zero, List.set_cons_succ]
                  refine wpAnyH_take (i := 7) (oi := { dst := some 126, op := Op.load 3 (Operand.tmp 125), type := 3, pos := "more.go:60", after := #[{ on := 6, ground := Ground.data }], guard := none }) (v := ?_) rfl (by kernel_rfl) (by kernel_rfl) (by kernel_rfl) (fun _ _ _ h => h) (Or.inl ⟨by rfl, ?_⟩) (by assumption) ?_
                  rotate_left
                  · (intro w hSw; (try dsimp only at hSw); go_simp; try with_reducible rfl)
                  try simp only [Act.put, List.setIfInBounds_toArray, List.set_cons_zero, List.set_cons_succ]
                  refine wpAnyH_take (i := 8) (oi := { dst := some 127, op := Op.call { callee := Callee.builtin Builtin.max, args := #[Operand.tmp 122, Operand.tmp 126], argTypes := #[3, 3] }, type := 3, pos := "more.go:60", after := #[{ on := 3, ground := Ground.data }, { on := 7, ground := Ground.data }], guard := none }) (v := ?_) rfl (by kernel_rfl) (by kernel_rfl) (by kernel_rfl) (fun _ _ _ h => h) (Or.inl ⟨by rfl, ?_⟩) (by assumption) ?_
                  rotate_left
                  · (intro w hSw; (try dsimp only at hSw); go_simp; try with_reducible rfl)
                  try simp only [Act.put, List.setIfInBounds_toArray, List.set_cons_zero, List.set_cons_succ]
                  refine wpAnyH_take (i := 9) (oi := { dst := some 26, op := Op.assign (Operand.tmp 127), type := 3, pos := "more.go:60", after := #[{ on := 8, ground := Ground.data }, { on := 0, ground := Ground.phase }, { on := 1, ground := Ground.phase }, { on := 2, ground := Ground.phase }, { on := 3, ground := Ground.phase }, { on := 4, ground := Ground.phase }, { on := 5, ground := Ground.phase }, { on := 6, ground := Ground.phase }, { on := 7, ground := Ground.phase }, { on := 8, ground := Ground.phase }], guard := none }) (v := ?_) rfl (by kernel_rfl) (by kernel_rfl) (by kernel_rfl) (fun _ _ _ h => h) (Or.inl ⟨by rfl, ?_⟩) (by assumption) ?_
                  rotate_left
                  · (intro w hSw; (try dsimp only at hSw); go_simp; try with_reducible rfl)
                  try simp only [Act.put, List.setIfInBounds_toArray, List.set_cons_zero, List.set_cons_succ]
                  refine wpAnyH_done (by kernel_rfl) ?_ _
                  refine NoPanic.normal ?_
                  have l0 : (wr.alloc (.cells #[.int .i64 0, .int .i64 2, .int .i64 1] 3)).drew.drew.cell? ⟨wr.heap.size, 0, none⟩ = some (.int .i64 0) := c0
                  have l1 : (wr.alloc (.cells #[.int .i64 0, .int .i64 2, .int .i64 1] 3)).drew.drew.cell? ⟨wr.heap.size, 1, none⟩ = some (.int .i64 2) := c1
                  have l2 : (wr.alloc (.cells #[.int .i64 0, .int .i64 2, .int .i64 1] 3)).drew.drew.cell? ⟨wr.heap.size, 2, none⟩ = some (.int .i64 1) := c2
                  go_wp2_with fail
                  exact ⟨⟨2 + 1, by omega, rfl, congrArg (Value.int .i64) FA.out.symm, congrArg (Value.int .i64) FO.out.symm, (BB.out).drew.drew⟩, by simp [intOf]⟩
                · have hQ' : hasb q 2 = false := by simpa using hQ
                  have gp : (Go.bits .and .i64 (p / 2) 1 == 0) = false := by rw [(bit_is p HPP.out).2.1, hP]; rfl
                  have gp' : (Go.bits .and .i64 (p / 2) 1 = 0) = False := by have := gp; simpa using this
                  have gq : (Go.bits .and .i64 (q / 4) 1 == 0) = true := by rw [(bit_is q HQQ.out).2.2, hQ']; rfl
                  have gq' : (Go.bits .and .i64 (q / 4) 1 = 0) = True := by have := gq; simpa using this
                  have hn : (hasb p (5 / 3) && hasb q (5 % 3)) = false := by rw [show 5 / 3 = 1 from rfl, show 5 % 3 = 2 from rfl, hP, hQ']; rfl
                  have fa : fA p q (5 + 1) = fA p q 5 := if_neg (by rw [hn]; decide)
                  have fo : fO p q (5 + 1) = fO p q 5 := if_neg (by rw [hn]; decide)
                  have FA := Lib.hid fa
                  have FO := Lib.hid fo
                  clear fa fo hn hQ
                  go_wp2_with fail
                  exact ⟨⟨2 + 1, by omega, rfl, congrArg (Value.int .i64) FA.out.symm, congrArg (Value.int .i64) FO.out.symm, HB2.out⟩, by simp [intOf]⟩
              · have hP' : hasb p 1 = false := by simpa using hP
                have gp : (Go.bits .and .i64 (p / 2) 1 == 0) = true := by rw [(bit_is p HPP.out).2.1, hP']; rfl
                have gp' : (Go.bits .and .i64 (p / 2) 1 = 0) = True := by have := gp; simpa using this
                have hn : (hasb p (5 / 3) && hasb q (5 % 3)) = false := by rw [show 5 / 3 = 1 from rfl, hP']; rfl
                have fa : fA p q (5 + 1) = fA p q 5 := if_neg (by rw [hn]; decide)
                have fo : fO p q (5 + 1) = fO p q 5 := if_neg (by rw [hn]; decide)
                have FA := Lib.hid fa
                have FO := Lib.hid fo
                clear fa fo hn hP
                go_wp2_with fail
                exact ⟨⟨2 + 1, by omega, rfl, congrArg (Value.int .i64) FA.out.symm, congrArg (Value.int .i64) FO.out.symm, HB2.out⟩, by simp [intOf]⟩
          · rcases hk3 with rfl | rfl | rfl
            · skip
              by_cases hP : hasb p 2 = true
              · by_cases hQ : hasb q 0 = true
                · skip
                  have gp : (Go.bits .and .i64 (p / 4) 1 == 0) = false := by rw [(bit_is p HPP.out).2.2, hP]; rfl
                  have gp' : (Go.bits .and .i64 (p / 4) 1 = 0) = False := by have := gp; simpa using this
                  have gq : (Go.bits .and .i64 (q) 1 == 0) = false := by rw [(bit_is q HQQ.out).1, hQ]; rfl
                  have gq' : (Go.bits .and .i64 (q) 1 = 0) = False := by have := gq; simpa using this
                  have fa : fA p q (6 + 1) = lor (fA p q 6) (shA 2 0) := if_pos (by show (hasb p (6 / 3) && hasb q (6 % 3)) = true; rw [show 6 / 3 = 2 from rfl, show 6 % 3 = 0 from rfl, hP, hQ]; rfl)
                  have fo : fO p q (6 + 1) = lor (fO p q 6) (shO 2 0) := if_pos (by show (hasb p (6 / 3) && hasb q (6 % 3)) = true; rw [show 6 / 3 = 2 from rfl, show 6 % 3 = 0 from rfl, hP, hQ]; rfl)
                  have FA := Lib.hid fa
                  have FO := Lib.hid fo
                  have hA := (Below.refl wr.heap.size wr).alloc (Nat.le_refl _) (.cells #[.int .i64 0, .int .i64 2, .int .i64 1] 3)
                  have BB := Lib.hid ((HB2.out).trans (hA.mono (HB2.out).size))
                  have c0 : (wr.alloc (.cells #[.int .i64 0, .int .i64 2, .int .i64 1] 3)).cell? ⟨wr.heap.size, 0, none⟩ = some (.int .i64 0) := by rw [cell_of_row _ _ _ _ 3 _ (alloc_here wr _)]; rfl
                  have c1 : (wr.alloc (.cells #[.int .i64 0, .int .i64 2, .int .i64 1] 3)).cell? ⟨wr.heap.size, 1, none⟩ = some (.int .i64 2) := by rw [cell_of_row _ _ _ _ 3 _ (alloc_here wr _)]; rfl
                  have c2 : (wr.alloc (.cells #[.int .i64 0, .int .i64 2, .int .i64 1] 3)).cell? ⟨wr.heap.size, 2, none⟩ = some (.int .i64 1) := by rw [cell_of_row _ _ _ _ 3 _ (alloc_here wr _)]; rfl
                  clear fa fo hA
                  go_upto_region 20 with fail
                  refine wp_region_noPanic ?_
                  refine wp_region_held_drew (S := (fun W => W.cell? ⟨wr.heap.size, 0, none⟩ = some (.int .i64 0) ∧ W.cell? ⟨wr.heap.size, 1, none⟩ = some (.int .i64 2) ∧ W.cell? ⟨wr.heap.size, 2, none⟩ = some (.int .i64 1))) (by kernel_rfl) ?_ (fun hHeld => ?_)
                  · exact ⟨c0, c1, c2⟩
                  refine wpAnyH_take (i := 0) (oi := { dst := some 110, op := Op.move (Operand.tmp 24), type := 51, pos := "more.go:59", after := #[], guard := none }) (v := ?_) rfl (by kernel_rfl) (by kernel_rfl) (by kernel_rfl) (fun _ _ _ h => h) (Or.inl ⟨by rfl, ?_⟩) (by assumption) ?_
                  rotate_left
                  · (intro w hSw; (try dsimp only at hSw); go_simp; try with_reducible rfl)
                  try simp only [Act.put, List.setIfInBounds_toArray, List.set_cons_zero, List.set_cons_succ]
                  refine wpAnyH_take (i := 1) (oi := { dst := some 111, op := Op.move (Operand.tmp 22), type := 3, pos := "more.go:59", after := #[], guard := none }) (v := ?_) rfl (by kernel_rfl) (by kernel_rfl) (by kernel_rfl) (fun _ _ _ h => h) (Or.inl ⟨by rfl, ?_⟩) (by assumption) ?_
                  rotate_left
                  · (intro w hSw; (try dsimp only at hSw); go_simp; try with_reducible rfl)
                  try simp only [Act.put, List.setIfInBounds_toArray, List.set_cons_zero, List.set_cons_succ]
                  refine wpAnyH_take (i := 2) (oi := { dst := some 112, op := Op.indexAddr 51 (Operand.tmp 110) (Operand.tmp 111), type := 0, pos := "more.go:59", after := #[{ on := 0, ground := Ground.data }, { on := 1, ground := Ground.data }], guard := none }) (v := ?_) rfl (by kernel_rfl) (by kernel_rfl) (by kernel_rfl) (fun _ _ _ h => h) (Or.inl ⟨by rfl, ?_⟩) (by assumption) ?_
                  rotate_left
                  · (intro w hSw; (try dsimp only at hSw); go_simp; try with_reducible rfl)
                  try simp only [Act.put, List.setIfInBounds_toArray, List.set_cons_zero, List.set_cons_succ]
                  refine wpAnyH_take (i := 3) (oi := { dst := some 113, op := Op.load 3 (Operand.tmp 112), type := 3, pos := "more.go:59", after := #[{ on := 2, ground := Ground.data }], guard := none }) (v := ?_) rfl (by kernel_rfl) (by kernel_rfl) (by kernel_rfl) (fun _ _ _ h => h) (Or.inl ⟨by rfl, ?_⟩) (by assumption) ?_
                  rotate_left
                  · (intro w hSw; (try dsimp only at hSw); go_simp; try with_reducible rfl)
                  try simp only [Act.put, List.setIfInBounds_toArray, List.set_cons_zero, List.set_cons_succ]
                  refine wpAnyH_take (i := 4) (oi := { dst := some 114, op := Op.move (Operand.tmp 24), type := 51, pos := "more.go:59", after := #[], guard := none }) (v := ?_) rfl (by kernel_rfl) (by kernel_rfl) (by kernel_rfl) (fun _ _ _ h => h) (Or.inl ⟨by rfl, ?_⟩) (by assumption) ?_
                  rotate_left
                  · (intro w hSw; (try dsimp only at hSw); go_simp; try with_reducible rfl)
                  try simp only [Act.put, List.setIfInBounds_toArray, List.set_cons_zero, List.set_cons_succ]
                  refine wpAnyH_take (i := 5) (oi := { dst := some 115, op := Op.move (Operand.tmp 23), type := 3, pos := "more.go:59", after := #[], guard := none }) (v := ?_) rfl (by kernel_rfl) (by kernel_rfl) (by kernel_rfl) (fun _ _ _ h => h) (Or.inl ⟨by rfl, ?_⟩) (by assumption) ?_
                  rotate_left
                  · (intro w hSw; (try dsimp only at hSw); go_simp; try with_reducible rfl)
                  try simp only [Act.put, List.setIfInBounds_toArray, List.set_cons_zero, List.set_cons_succ]
                  refine wpAnyH_take (i := 6) (oi := { dst := some 116, op := Op.indexAddr 51 (Operand.tmp 114) (Operand.tmp 115), type := 0, pos := "more.go:59", after := #[{ on := 4, ground := Ground.data }, { on := 5, ground := Ground.data }], guard := none }) (v := ?_) rfl (by kernel_rfl) (by kernel_rfl) (by kernel_rfl) (fun _ _ _ h => h) (Or.inl ⟨by rfl, ?_⟩) (by assumption) ?_
                  rotate_left
                  · (intro w hSw; (try dsimp only at hSw); go_simp; try with_reducible rfl)
                  try simp only [Act.put, List.setIfInBounds_toArray, List.set_cons_zero, List.set_cons_succ]
                  refine wpAnyH_take (i := 7) (oi := { dst := some 117, op := Op.load 3 (Operand.tmp 116), type := 3, pos := "more.go:59", after := #[{ on := 6, ground := Ground.data }], guard := none }) (v := ?_) rfl (by kernel_rfl) (by kernel_rfl) (by kernel_rfl) (fun _ _ _ h => h) (Or.inl ⟨by rfl, ?_⟩) (by assumption) ?_
                  rotate_left
                  · (intro w hSw; (try dsimp only at hSw); go_simp; try with_reducible rfl)
                  try simp only [Act.put, List.setIfInBounds_toArray, List.set_cons_zero, List.set_cons_succ]
                  refine wpAnyH_take (i := 8) (oi := { dst := some 118, op := Op.call { callee := Callee.builtin Builtin.min, args := #[Operand.tmp 113, Operand.tmp 117], argTypes := #[3, 3] }, type := 3, pos := "more.go:59", after := #[{ on := 3, ground := Ground.data }, { on := 7, ground := Ground.data }], guard := none }) (v := ?_) rfl (by kernel_rfl) (by kernel_rfl) (by kernel_rfl) (fun _ _ _ h => h) (Or.inl ⟨by rfl, ?_⟩) (by assumption) ?_
                  rotate_left
                  · (intro w hSw; (try dsimp only at hSw); go_simp; try with_reducible rfl)
                  try simp only [Act.put, List.setIfInBounds_toArray, List.set_cons_zero, List.set_cons_succ]
                  refine wpAnyH_take (i := 9) (oi := { dst := some 25, op := Op.assign (Operand.tmp 118), type := 3, pos := "more.go:59", after := #[{ on := 8, ground := Ground.data }, { on := 0, ground := Ground.phase }, { on := 1, ground := Ground.phase }, { on := 2, ground := Ground.phase }, { on := 3, ground := Ground.phase }, { on := 4, ground := Ground.phase }, { on := 5, ground := Ground.phase }, { on := 6, ground := Ground.phase }, { on := 7, ground := Ground.phase }, { on := 8, ground := Ground.phase }], guard := none }) (v := ?_) rfl (by kernel_rfl) (by kernel_rfl) (by kernel_rfl) (fun _ _ _ h => h) (Or.inl ⟨by rfl, ?_⟩) (by assumption) ?_
                  rotate_left
                  · (intro w hSw; (try dsimp only at hSw); go_simp; try with_reducible rfl)
                  try simp only [Act.put, List.setIfInBounds_toArray, List.set_cons_zero, List.set_cons_succ]
                  refine wpAnyH_done (by kernel_rfl) ?_ _
                  refine NoPanic.normal ?_
                  have k0 : (wr.alloc (.cells #[.int .i64 0, .int .i64 2, .int .i64 1] 3)).drew.cell? ⟨wr.heap.size, 0, none⟩ = some (.int .i64 0) := c0
                  have k1 : (wr.alloc (.cells #[.int .i64 0, .int .i64 2, .int .i64 1] 3)).drew.cell? ⟨wr.heap.size, 1, none⟩ = some (.int .i64 2) := c1
                  have k2 : (wr.alloc (.cells #[.int .i64 0, .int .i64 2, .int .i64 1] 3)).drew.cell? ⟨wr.heap.size, 2, none⟩ = some (.int .i64 1) := c2
                  go_upto_region 21 with fail
                  refine wp_region_noPanic ?_
                  refine wp_region_held_drew (S := (fun W => W.cell? ⟨wr.heap.size, 0, none⟩ = some (.int .i64 0) ∧ W.cell? ⟨wr.heap.size, 1, none⟩ = some (.int .i64 2) ∧ W.cell? ⟨wr.heap.size, 2, none⟩ = some (.int .i64 1))) (by kernel_rfl) ?_ (fun hHeld => ?_)
                  · exact ⟨k0, k1, k2⟩
                  refine wpAnyH_take (i := 0) (oi := { dst := some 119, op := Op.move (Operand.tmp 24), type := 51, pos := "more.go:60", after := #[], guard := none }) (v := ?_) rfl (by kernel_rfl) (by kernel_rfl) (by kernel_rfl) (fun _ _ _ h => h) (Or.inl ⟨by rfl, ?_⟩) (by assumption) ?_
                  rotate_left
                  · (intro w hSw; (try dsimp only at hSw); go_simp; try with_reducible rfl)
                  try simp only [Act.put, List.setIfInBounds_toArray, List.set_cons_zero, List.set_cons_succ]
                  refine wpAnyH_take (i := 1) (oi := { dst := some 120, op := Op.move (Operand.tmp 22), type := 3, pos := "more.go:60", after := #[], guard := none }) (v := ?_) rfl (by kernel_rfl) (by kernel_rfl) (by kernel_rfl) (fun _ _ _ h => h) (Or.inl ⟨by rfl, ?_⟩) (by assumption) ?_
                  rotate_left
                  · (intro w hSw; (try dsimp only at hSw); go_simp; try with_reducible rfl)
                  try simp only [Act.put, List.setIfInBounds_toArray, List.set_cons_zero, List.set_cons_succ]
                  refine wpAnyH_take (i := 2) (oi := { dst := some 121, op := Op.indexAddr 51 (Operand.tmp 119) (Operand.tmp 120), type := 0, pos := "more.go:60", after := #[{ on := 0, ground := Ground.data }, { on := 1, ground := Ground.data }], guard := none }) (v := ?_) rfl (by kernel_rfl) (by kernel_rfl) (by kernel_rfl) (fun _ _ _ h => h) (Or.inl ⟨by rfl, ?_⟩) (by assumption) ?_
                  rotate_left
                  · (intro w hSw; (try dsimp only at hSw); go_simp; try with_reducible rfl)
                  try simp only [Act.put, List.setIfInBounds_toArray, List.set_cons_zero, List.set_cons_succ]
                  refine wpAnyH_take (i := 3) (oi := { dst := some 122, op := Op.load 3 (Operand.tmp 121), type := 3, pos := "more.go:60", after := #[{ on := 2, ground := Ground.data }], guard := none }) (v := ?_) rfl (by kernel_rfl) (by kernel_rfl) (by kernel_rfl) (fun _ _ _ h => h) (Or.inl ⟨by rfl, ?_⟩) (by assumption) ?_
                  rotate_left
                  · (intro w hSw; (try dsimp only at hSw); go_simp; try with_reducible rfl)
                  try simp only [Act.put, List.setIfInBounds_toArray, List.set_cons_zero, List.set_cons_succ]
                  refine wpAnyH_take (i := 4) (oi := { dst := some 123, op := Op.move (Operand.tmp 24), type := 51, pos := "more.go:60", after := #[], guard := none }) (v := ?_) rfl (by kernel_rfl) (by kernel_rfl) (by kernel_rfl) (fun _ _ _ h => h) (Or.inl ⟨by rfl, ?_⟩) (by assumption) ?_
                  rotate_left
                  · (intro w hSw; (try dsimp only at hSw); go_simp; try with_reducible rfl)
                  try simp only [Act.put, List.setIfInBounds_toArray, List.set_cons_zero, List.set_cons_succ]
                  refine wpAnyH_take (i := 5) (oi := { dst := some 124, op := Op.move (Operand.tmp 23), type := 3, pos := "more.go:60", after := #[], guard := none }) (v := ?_) rfl (by kernel_rfl) (by kernel_rfl) (by kernel_rfl) (fun _ _ _ h => h) (Or.inl ⟨by rfl, ?_⟩) (by assumption) ?_
                  rotate_left
                  · (intro w hSw; (try dsimp only at hSw); go_simp; try with_reducible rfl)
                  try simp only [Act.put, List.setIfInBounds_toArray, List.set_cons_zero, List.set_cons_succ]
                  refine wpAnyH_take (i := 6) (oi := { dst := some 125, op := Op.indexAddr 51 (Operand.tmp 123) (Operand.tmp 124), type := 0, pos := "more.go:60", after := #[{ on := 4, ground := Ground.data }, { on := 5, ground := Ground.data }], guard := none }) (v := ?_) rfl (by kernel_rfl) (by kernel_rfl) (by kernel_rfl) (fun _ _ _ h => h) (Or.inl ⟨by rfl, ?_⟩) (by assumption) ?_
                  rotate_left
                  · (intro w hSw; (try dsimp only at hSw); go_simp; try with_reducible rfl)
                  try simp only [Act.put, List.setIfInBounds_toArray, List.set_cons_zero, List.set_cons_succ]
                  refine wpAnyH_take (i := 7) (oi := { dst := some 126, op := Op.load 3 (Operand.tmp 125), type := 3, pos := "more.go:60", after := #[{ on := 6, ground := Ground.data }], guard := none }) (v := ?_) rfl (by kernel_rfl) (by kernel_rfl) (by kernel_rfl) (fun _ _ _ h => h) (Or.inl ⟨by rfl, ?_⟩) (by assumption) ?_
                  rotate_left
                  · (intro w hSw; (try dsimp only at hSw); go_simp; try with_reducible rfl)
                  try simp only [Act.put, List.setIfInBounds_toArray, List.set_cons_zero, List.set_cons_succ]
                  refine wpAnyH_take (i := 8) (oi := { dst := some 127, op := Op.call { callee := Callee.builtin Builtin.max, args := #[Operand.tmp 122, Operand.tmp 126], argTypes := #[3, 3] }, type := 3, pos := "more.go:60", after := #[{ on := 3, ground := Ground.data }, { on := 7, ground := Ground.data }], guard := none }) (v := ?_) rfl (by kernel_rfl) (by kernel_rfl) (by kernel_rfl) (fun _ _ _ h => h) (Or.inl ⟨by rfl, ?_⟩) (by assumption) ?_
                  rotate_left
                  · (intro w hSw; (try dsimp only at hSw); go_simp; try with_reducible rfl)
                  try simp only [Act.put, List.setIfInBounds_toArray, List.set_cons_zero, List.set_cons_succ]
                  refine wpAnyH_take (i := 9) (oi := { dst := some 26, op := Op.assign (Operand.tmp 127), type := 3, pos := "more.go:60", after := #[{ on := 8, ground := Ground.data }, { on := 0, ground := Ground.phase }, { on := 1, ground := Ground.phase }, { on := 2, ground := Ground.phase }, { on := 3, ground := Ground.phase }, { on := 4, ground := Ground.phase }, { on := 5, ground := Ground.phase }, { on := 6, ground := Ground.phase }, { on := 7, ground := Ground.phase }, { on := 8, ground := Ground.phase }], guard := none }) (v := ?_) rfl (by kernel_rfl) (by kernel_rfl) (by kernel_rfl) (fun _ _ _ h => h) (Or.inl ⟨by rfl, ?_⟩) (by assumption) ?_
                  rotate_left
                  · (intro w hSw; (try dsimp only at hSw); go_simp; try with_reducible rfl)
                  try simp only [Act.put, List.setIfInBounds_toArray, List.set_cons_zero, List.set_cons_succ]
                  refine wpAnyH_done (by kernel_rfl) ?_ _
                  refine NoPanic.normal ?_
                  have l0 : (wr.alloc (.cells #[.int .i64 0, .int .i64 2, .int .i64 1] 3)).drew.drew.cell? ⟨wr.heap.size, 0, none⟩ = some (.int .i64 0) := c0
                  have l1 : (wr.alloc (.cells #[.int .i64 0, .int .i64 2, .int .i64 1] 3)).drew.drew.cell? ⟨wr.heap.size, 1, none⟩ = some (.int .i64 2) := c1
                  have l2 : (wr.alloc (.cells #[.int .i64 0, .int .i64 2, .int .i64 1] 3)).drew.drew.cell? ⟨wr.heap.size, 2, none⟩ = some (.int .i64 1) := c2
                  go_wp2_with fail
                  exact ⟨⟨0 + 1, by omega, rfl, congrArg (Value.int .i64) FA.out.symm, congrArg (Value.int .i64) FO.out.symm, (BB.out).drew.drew⟩, by simp [intOf]⟩
                · have hQ' : hasb q 0 = false := by simpa using hQ
                  have gp : (Go.bits .and .i64 (p / 4) 1 == 0) = false := by rw [(bit_is p HPP.out).2.2, hP]; rfl
                  have gp' : (Go.bits .and .i64 (p / 4) 1 = 0) = False := by have := gp; simpa using this
                  have gq : (Go.bits .and .i64 (q) 1 == 0) = true := by rw [(bit_is q HQQ.out).1, hQ']; rfl
                  have gq' : (Go.bits .and .i64 (q) 1 = 0) = True := by have := gq; simpa using this
                  have hn : (hasb p (6 / 3) && hasb q (6 % 3)) = false := by rw [show 6 / 3 = 2 from rfl, show 6 % 3 = 0 from rfl, hP, hQ']; rfl
                  have fa : fA p q (6 + 1) = fA p q 6 := if_neg (by rw [hn]; decide)
                  have fo : fO p q (6 + 1) = fO p q 6 := if_neg (by rw [hn]; decide)
                  have FA := Lib.hid fa
                  have FO := Lib.hid fo
                  clear fa fo hn hQ
                  go_wp2_with fail
                  exact ⟨⟨0 + 1, by omega, rfl, congrArg (Value.int .i64) FA.out.symm, congrArg (Value.int .i64) FO.out.symm, HB2.out⟩, by simp [intOf]⟩
              · have hP' : hasb p 2 = false := by simpa using hP
                have gp : (Go.bits .and .i64 (p / 4) 1 == 0) = true := by rw [(bit_is p HPP.out).2.2, hP']; rfl
                have gp' : (Go.bits .and .i64 (p / 4) 1 = 0) = True := by have := gp; simpa using this
                have hn : (hasb p (6 / 3) && hasb q (6 % 3)) = false := by rw [show 6 / 3 = 2 from rfl, hP']; rfl
                have fa : fA p q (6 + 1) = fA p q 6 := if_neg (by rw [hn]; decide)
                have fo : fO p q (6 + 1) = fO p q 6 := if_neg (by rw [hn]; decide)
                have FA := Lib.hid fa
                have FO := Lib.hid fo
                clear fa fo hn hP
                go_wp2_with fail
                exact ⟨⟨0 + 1, by omega, rfl, congrArg (Value.int .i64) FA.out.symm, congrArg (Value.int .i64) FO.out.symm, HB2.out⟩, by simp [intOf]⟩
            · skip
              by_cases hP : hasb p 2 = true
              · by_cases hQ : hasb q 1 = true
                · skip
                  have gp : (Go.bits .and .i64 (p / 4) 1 == 0) = false := by rw [(bit_is p HPP.out).2.2, hP]; rfl
                  have gp' : (Go.bits .and .i64 (p / 4) 1 = 0) = False := by have := gp; simpa using this
                  have gq : (Go.bits .and .i64 (q / 2) 1 == 0) = false := by rw [(bit_is q HQQ.out).2.1, hQ]; rfl
                  have gq' : (Go.bits .and .i64 (q / 2) 1 = 0) = False := by have := gq; simpa using this
                  have fa : fA p q (7 + 1) = lor (fA p q 7) (shA 2 1) := if_pos (by show (hasb p (7 / 3) && hasb q (7 % 3)) = true; rw [show 7 / 3 = 2 from rfl, show 7 % 3 = 1 from rfl, hP, hQ]; rfl)
                  have fo : fO p q (7 + 1) = lor (fO p q 7) (shO 2 1) := if_pos (by show (hasb p (7 / 3) && hasb q (7 % 3)) = true; rw [show 7 / 3 = 2 from rfl, show 7 % 3 = 1 from rfl, hP, hQ]; rfl)
                  have FA := Lib.hid fa
                  have FO := Lib.hid fo
                  have hA := (Below.refl wr.heap.size wr).alloc (Nat.le_refl _) (.cells #[.int .i64 0, .int .i64 2, .int .i64 1] 3)
                  have BB := Lib.hid ((HB2.out).trans (hA.mono (HB2.out).size))
                  have c0 : (wr.alloc (.cells #[.int .i64 0, .int .i64 2, .int .i64 1] 3)).cell? ⟨wr.heap.size, 0, none⟩ = some (.int .i64 0) := by rw [cell_of_row _ _ _ _ 3 _ (alloc_here wr _)]; rfl
                  have c1 : (wr.alloc (.cells #[.int .i64 0, .int .i64 2, .int .i64 1] 3)).cell? ⟨wr.heap.size, 1, none⟩ = some (.int .i64 2) := by rw [cell_of_row _ _ _ _ 3 _ (alloc_here wr _)]; rfl
                  have c2 : (wr.alloc (.cells #[.int .i64 0, .int .i64 2, .int .i64 1] 3)).cell? ⟨wr.heap.size, 2, none⟩ = some (.int .i64 1) := by rw [cell_of_row _ _ _ _ 3 _ (alloc_here wr _)]; rfl
                  clear fa fo hA
                  go_upto_region 20 with fail
                  refine wp_region_noPanic ?_
                  refine wp_region_held_drew (S := (fun W => W.cell? ⟨wr.heap.size, 0, none⟩ = some (.int .i64 0) ∧ W.cell? ⟨wr.heap.size, 1, none⟩ = some (.int .i64 2) ∧ W.cell? ⟨wr.heap.size, 2, none⟩ = some (.int .i64 1))) (by kernel_rfl) ?_ (fun hHeld => ?_)
                  · exact ⟨c0, c1, c2⟩
                  refine wpAnyH_take (i := 0) (oi := { dst := some 110, op := Op.move (Operand.tmp 24), type := 51, pos := "more.go:59", after := #[], guard := none }) (v := ?_) rfl (by kernel_rfl) (by kernel_rfl) (by kernel_rfl) (fun _ _ _ h => h) (Or.inl ⟨by rfl, ?_⟩) (by assumption) ?_
                  rotate_left
                  · (intro w hSw; (try dsimp only at hSw); go_simp; try with_reducible rfl)
                  try simp only [Act.put, List.setIfInBounds_toArray, List.set_cons_zero, List.set_cons_succ]
                  refine wpAnyH_take (i := 1) (oi := { dst := some 111, op := Op.move (Operand.tmp 22), type := 3, pos := "more.go:59", after := #[], guard := none }) (v := ?_) rfl (by kernel_rfl) (by kernel_rfl) (by kernel_rfl) (fun _ _ _ h => h) (Or.inl ⟨by rfl, ?_⟩) (by assumption) ?_
                  rotate_left
                  · (intro w hSw; (try dsimp only at hSw); go_simp; try with_reducible rfl)
                  try simp only [Act.put, List.setIfInBounds_toArray, List.set_cons_zero, List.set_cons_succ]
                  refine wpAnyH_take (i := 2) (oi := { dst := some 112, op := Op.indexAddr 51 (Operand.tmp 110) (Operand.tmp 111), type := 0, pos := "more.go:59", after := #[{ on := 0, ground := Ground.data }, { on := 1, ground := Ground.data }], guard := none }) (v := ?_) rfl (by kernel_rfl) (by kernel_rfl) (by kernel_rfl) (fun _ _ _ h => h) (Or.inl ⟨by rfl, ?_⟩) (by assumption) ?_
                  rotate_left
                  · (intro w hSw; (try dsimp only at hSw); go_simp; try with_reducible rfl)
                  try simp only [Act.put, List.setIfInBounds_toArray, List.set_cons_zero, List.set_cons_succ]
                  refine wpAnyH_take (i := 3) (oi := { dst := some 113, op := Op.load 3 (Operand.tmp 112), type := 3, pos := "more.go:59", after := #[{ on := 2, ground := Ground.data }], guard := none }) (v := ?_) rfl (by kernel_rfl) (by kernel_rfl) (by kernel_rfl) (fun _ _ _ h => h) (Or.inl ⟨by rfl, ?_⟩) (by assumption) ?_
                  rotate_left
                  · (intro w hSw; (try dsimp only at hSw); go_simp; try with_reducible rfl)
                  try simp only [Act.put, List.setIfInBounds_toArray, List.set_cons_zero, List.set_cons_succ]
                  refine wpAnyH_take (i := 4) (oi := { dst := some 114, op := Op.move (Operand.tmp 24), type := 51, pos := "more.go:59", after := #[], guard := none }) (v := ?_) rfl (by kernel_rfl) (by kernel_rfl) (by kernel_rfl) (fun _ _ _ h => h) (Or.inl ⟨by rfl, ?_⟩) (by assumption) ?_
                  rotate_left
                  · (intro w hSw; (try dsimp only at hSw); go_simp; try with_reducible rfl)
                  try simp only [Act.put, List.setIfInBounds_toArray, List.set_cons_zero, List.set_cons_succ]
                  refine wpAnyH_take (i := 5) (oi := { dst := some 115, op := Op.move (Operand.tmp 23), type := 3, pos := "more.go:59", after := #[], guard := none }) (v := ?_) rfl (by kernel_rfl) (by kernel_rfl) (by kernel_rfl) (fun _ _ _ h => h) (Or.inl ⟨by rfl, ?_⟩) (by assumption) ?_
                  rotate_left
                  · (intro w hSw; (try dsimp only at hSw); go_simp; try with_reducible rfl)
                  try simp only [Act.put, List.setIfInBounds_toArray, List.set_cons_zero, List.set_cons_succ]
                  refine wpAnyH_take (i := 6) (oi := { dst := some 116, op := Op.indexAddr 51 (Operand.tmp 114) (Operand.tmp 115), type := 0, pos := "more.go:59", after := #[{ on := 4, ground := Ground.data }, { on := 5, ground := Ground.data }], guard := none }) (v := ?_) rfl (by kernel_rfl) (by kernel_rfl) (by kernel_rfl) (fun _ _ _ h => h) (Or.inl ⟨by rfl, ?_⟩) (by assumption) ?_
                  rotate_left
                  · (intro w hSw; (try dsimp only at hSw); go_simp; try with_reducible rfl)
                  try simp only [Act.put, List.setIfInBounds_toArray, List.set_cons_zero, List.set_cons_succ]
                  refine wpAnyH_take (i := 7) (oi := { dst := some 117, op := Op.load 3 (Operand.tmp 116), type := 3, pos := "more.go:59", after := #[{ on := 6, ground := Ground.data }], guard := none }) (v := ?_) rfl (by kernel_rfl) (by kernel_rfl) (by kernel_rfl) (fun _ _ _ h => h) (Or.inl ⟨by rfl, ?_⟩) (by assumption) ?_
                  rotate_left
                  · (intro w hSw; (try dsimp only at hSw); go_simp; try with_reducible rfl)
                  try simp only [Act.put, List.setIfInBounds_toArray, List.set_cons_zero, List.set_cons_succ]
                  refine wpAnyH_take (i := 8) (oi := { dst := some 118, op := Op.call { callee := Callee.builtin Builtin.min, args := #[Operand.tmp 113, Operand.tmp 117], argTypes := #[3, 3] }, type := 3, pos := "more.go:59", after := #[{ on := 3, ground := Ground.data }, { on := 7, ground := Ground.data }], guard := none }) (v := ?_) rfl (by kernel_rfl) (by kernel_rfl) (by kernel_rfl) (fun _ _ _ h => h) (Or.inl ⟨by rfl, ?_⟩) (by assumption) ?_
                  rotate_left
                  · (intro w hSw; (try dsimp only at hSw); go_simp; try with_reducible rfl)
                  try simp only [Act.put, List.setIfInBounds_toArray, List.set_cons_zero, List.set_cons_succ]
                  refine wpAnyH_take (i := 9) (oi := { dst := some 25, op := Op.assign (Operand.tmp 118), type := 3, pos := "more.go:59", after := #[{ on := 8, ground := Ground.data }, { on := 0, ground := Ground.phase }, { on := 1, ground := Ground.phase }, { on := 2, ground := Ground.phase }, { on := 3, ground := Ground.phase }, { on := 4, ground := Ground.phase }, { on := 5, ground := Ground.phase }, { on := 6, ground := Ground.phase }, { on := 7, ground := Ground.phase }, { on := 8, ground := Ground.phase }], guard := none }) (v := ?_) rfl (by kernel_rfl) (by kernel_rfl) (by kernel_rfl) (fun _ _ _ h => h) (Or.inl ⟨by rfl, ?_⟩) (by assumption) ?_
                  rotate_left
                  · (intro w hSw; (try dsimp only at hSw); go_simp; try with_reducible rfl)
                  try simp only [Act.put, List.setIfInBounds_toArray, List.set_cons_zero, List.set_cons_succ]
                  refine wpAnyH_done (by kernel_rfl) ?_ _
                  refine NoPanic.normal ?_
                  have k0 : (wr.alloc (.cells #[.int .i64 0, .int .i64 2, .int .i64 1] 3)).drew.cell? ⟨wr.heap.size, 0, none⟩ = some (.int .i64 0) := c0
                  have k1 : (wr.alloc (.cells #[.int .i64 0, .int .i64 2, .int .i64 1] 3)).drew.cell? ⟨wr.heap.size, 1, none⟩ = some (.int .i64 2) := c1
                  have k2 : (wr.alloc (.cells #[.int .i64 0, .int .i64 2, .int .i64 1] 3)).drew.cell? ⟨wr.heap.size, 2, none⟩ = some (.int .i64 1) := c2
                  go_upto_region 21 with fail
                  refine wp_region_noPanic ?_
                  refine wp_region_held_drew (S := (fun W => W.cell? ⟨wr.heap.size, 0, none⟩ = some (.int .i64 0) ∧ W.cell? ⟨wr.heap.size, 1, none⟩ = some (.int .i64 2) ∧ W.cell? ⟨wr.heap.size, 2, none⟩ = some (.int .i64 1))) (by kernel_rfl) ?_ (fun hHeld => ?_)
                  · exact ⟨k0, k1, k2⟩
                  refine wpAnyH_take (i := 0) (oi := { dst := some 119, op := Op.move (Operand.tmp 24), type := 51, pos := "more.go:60", after := #[], guard := none }) (v := ?_) rfl (by kernel_rfl) (by kernel_rfl) (by kernel_rfl) (fun _ _ _ h => h) (Or.inl ⟨by rfl, ?_⟩) (by assumption) ?_
                  rotate_left
                  · (intro w hSw; (try dsimp only at hSw); go_simp; try with_reducible rfl)
                  try simp only [Act.put, List.setIfInBounds_toArray, List.set_cons_zero, List.set_cons_succ]
                  refine wpAnyH_take (i := 1) (oi := { dst := some 120, op := Op.move (Operand.tmp 22), type := 3, pos := "more.go:60", after := #[], guard := none }) (v := ?_) rfl (by kernel_rfl) (by kernel_rfl) (by kernel_rfl) (fun _ _ _ h => h) (Or.inl ⟨by rfl, ?_⟩) (by assumption) ?_
                  rotate_left
                  · (intro w hSw; (try dsimp only at hSw); go_simp; try with_reducible rfl)
                  try simp only [Act.put, List.setIfInBounds_toArray, List.set_cons_zero, List.set_cons_succ]
                  refine wpAnyH_take (i := 2) (oi := { dst := some 121, op := Op.indexAddr 51 (Operand.tmp 119) (Operand.tmp 120), type := 0, pos := "more.go:60", after := #[{ on := 0, ground := Ground.data }, { on := 1, ground := Ground.data }], guard := none }) (v := ?_) rfl (by kernel_rfl) (by kernel_rfl) (by kernel_rfl) (fun _ _ _ h => h) (Or.inl ⟨by rfl, ?_⟩) (by assumption) ?_
                  rotate_left
                  · (intro w hSw; (try dsimp only at hSw); go_simp; try with_reducible rfl)
                  try simp only [Act.put, List.setIfInBounds_toArray, List.set_cons_zero, List.set_cons_succ]
                  refine wpAnyH_take (i := 3) (oi := { dst := some 122, op := Op.load 3 (Operand.tmp 121), type := 3, pos := "more.go:60", after := #[{ on := 2, ground := Ground.data }], guard := none }) (v := ?_) rfl (by kernel_rfl) (by kernel_rfl) (by kernel_rfl) (fun _ _ _ h => h) (Or.inl ⟨by rfl, ?_⟩) (by assumption) ?_
                  rotate_left
                  · (intro w hSw; (try dsimp only at hSw); go_simp; try with_reducible rfl)
                  try simp only [Act.put, List.setIfInBounds_toArray, List.set_cons_zero, List.set_cons_succ]
                  refine wpAnyH_take (i := 4) (oi := { dst := some 123, op := Op.move (Operand.tmp 24), type := 51, pos := "more.go:60", after := #[], guard := none }) (v := ?_) rfl (by kernel_rfl) (by kernel_rfl) (by kernel_rfl) (fun _ _ _ h => h) (Or.inl ⟨by rfl, ?_⟩) (by assumption) ?_
                  rotate_left
                  · (intro w hSw; (try dsimp only at hSw); go_simp; try with_reducible rfl)
                  try simp only [Act.put, List.setIfInBounds_toArray, List.set_cons_zero, List.set_cons_succ]
                  refine wpAnyH_take (i := 5) (oi := { dst := some 124, op := Op.move (Operand.tmp 23), type := 3, pos := "more.go:60", after := #[], guard := none }) (v := ?_) rfl (by kernel_rfl) (by kernel_rfl) (by kernel_rfl) (fun _ _ _ h => h) (Or.inl ⟨by rfl, ?_⟩) (by assumption) ?_
                  rotate_left
                  · (intro w hSw; (try dsimp only at hSw); go_simp; try with_reducible rfl)
                  try simp only [Act.put, List.setIfInBounds_toArray, List.set_cons_zero, List.set_cons_succ]
                  refine wpAnyH_take (i := 6) (oi := { dst := some 125, op := Op.indexAddr 51 (Operand.tmp 123) (Operand.tmp 124), type := 0, pos := "more.go:60", after := #[{ on := 4, ground := Ground.data }, { on := 5, ground := Ground.data }], guard := none }) (v := ?_) rfl (by kernel_rfl) (by kernel_rfl) (by kernel_rfl) (fun _ _ _ h => h) (Or.inl ⟨by rfl, ?_⟩) (by assumption) ?_
                  rotate_left
                  · (intro w hSw; (try dsimp only at hSw); go_simp; try with_reducible rfl)
                  try simp only [Act.put, List.setIfInBounds_toArray, List.set_cons_zero, List.set_cons_succ]
                  refine wpAnyH_take (i := 7) (oi := { dst := some 126, op := Op.load 3 (Operand.tmp 125), type := 3, pos := "more.go:60", after := #[{ on := 6, ground := Ground.data }], guard := none }) (v := ?_) rfl (by kernel_rfl) (by kernel_rfl) (by kernel_rfl) (fun _ _ _ h => h) (Or.inl ⟨by rfl, ?_⟩) (by assumption) ?_
                  rotate_left
                  · (intro w hSw; (try dsimp only at hSw); go_simp; try with_reducible rfl)
                  try simp only [Act.put, List.setIfInBounds_toArray, List.set_cons_zero, List.set_cons_succ]
                  refine wpAnyH_take (i := 8) (oi := { dst := some 127, op := Op.call { callee := Callee.builtin Builtin.max, args := #[Operand.tmp 122, Operand.tmp 126], argTypes := #[3, 3] }, type := 3, pos := "more.go:60", after := #[{ on := 3, ground := Ground.data }, { on := 7, ground := Ground.data }], guard := none }) (v := ?_) rfl (by kernel_rfl) (by kernel_rfl) (by kernel_rfl) (fun _ _ _ h => h) (Or.inl ⟨by rfl, ?_⟩) (by assumption) ?_
                  rotate_left
                  · (intro w hSw; (try dsimp only at hSw); go_simp; try with_reducible rfl)
                  try simp only [Act.put, List.setIfInBounds_toArray, List.set_cons_zero, List.set_cons_succ]
                  refine wpAnyH_take (i := 9) (oi := { dst := some 26, op := Op.assign (Operand.tmp 127), type := 3, pos := "more.go:60", after := #[{ on := 8, ground := Ground.data }, { on := 0, ground := Ground.phase }, { on := 1, ground := Ground.phase }, { on := 2, ground := Ground.phase }, { on := 3, ground := Ground.phase }, { on := 4, ground := Ground.phase }, { on := 5, ground := Ground.phase }, { on := 6, ground := Ground.phase }, { on := 7, ground := Ground.phase }, { on := 8, ground := Ground.phase }], guard := none }) (v := ?_) rfl (by kernel_rfl) (by kernel_rfl) (by kernel_rfl) (fun _ _ _ h => h) (Or.inl ⟨by rfl, ?_⟩) (by assumption) ?_
                  rotate_left
                  · (intro w hSw; (try dsimp only at hSw); go_simp; try with_reducible rfl)
                  try simp only [Act.put, List.setIfInBounds_toArray, List.set_cons_zero, List.set_cons_succ]
                  refine wpAnyH_done (by kernel_rfl) ?_ _
                  refine NoPanic.normal ?_
                  have l0 : (wr.alloc (.cells #[.int .i64 0, .int .i64 2, .int .i64 1] 3)).drew.drew.cell? ⟨wr.heap.size, 0, none⟩ = some (.int .i64 0) := c0
                  have l1 : (wr.alloc (.cells #[.int .i64 0, .int .i64 2, .int .i64 1] 3)).drew.drew.cell? ⟨wr.heap.size, 1, none⟩ = some (.int .i64 2) := c1
                  have l2 : (wr.alloc (.cells #[.int .i64 0, .int .i64 2, .int .i64 1] 3)).drew.drew.cell? ⟨wr.heap.size, 2, none⟩ = some (.int .i64 1) := c2
                  go_wp2_with fail
                  exact ⟨⟨1 + 1, by omega, rfl, congrArg (Value.int .i64) FA.out.symm, congrArg (Value.int .i64) FO.out.symm, (BB.out).drew.drew⟩, by simp [intOf]⟩
                · have hQ' : hasb q 1 = false := by simpa using hQ
                  have gp : (Go.bits .and .i64 (p / 4) 1 == 0) = false := by rw [(bit_is p HPP.out).2.2, hP]; rfl
                  have gp' : (Go.bits .and .i64 (p / 4) 1 = 0) = False := by have := gp; simpa using this
                  have gq : (Go.bits .and .i64 (q / 2) 1 == 0) = true := by rw [(bit_is q HQQ.out).2.1, hQ']; rfl
                  have gq' : (Go.bits .and .i64 (q / 2) 1 = 0) = True := by have := gq; simpa using this
                  have hn : (hasb p (7 / 3) && hasb q (7 % 3)) = false := by rw [show 7 / 3 = 2 from rfl, show 7 % 3 = 1 from rfl, hP, hQ']; rfl
                  have fa : fA p q (7 + 1) = fA p q 7 := if_neg (by rw [hn]; decide)
                  have fo : fO p q (7 + 1) = fO p q 7 := if_neg (by rw [hn]; decide)
                  have FA := Lib.hid fa
                  have FO := Lib.hid fo
                  clear fa fo hn hQ
                  go_wp2_with fail
                  exact ⟨⟨1 + 1, by omega, rfl, congrArg (Value.int .i64) FA.out.symm, congrArg (Value.int .i64) FO.out.symm, HB2.out⟩, by simp [intOf]⟩
              · have hP' : hasb p 2 = false := by simpa using hP
                have gp : (Go.bits .and .i64 (p / 4) 1 == 0) = true := by rw [(bit_is p HPP.out).2.2, hP']; rfl
                have gp' : (Go.bits .and .i64 (p / 4) 1 = 0) = True := by have := gp; simpa using this
                have hn : (hasb p (7 / 3) && hasb q (7 % 3)) = false := by rw [show 7 / 3 = 2 from rfl, hP']; rfl
                have fa : fA p q (7 + 1) = fA p q 7 := if_neg (by rw [hn]; decide)
                have fo : fO p q (7 + 1) = fO p q 7 := if_neg (by rw [hn]; decide)
                have FA := Lib.hid fa
                have FO := Lib.hid fo
                clear fa fo hn hP
                go_wp2_with fail
                exact ⟨⟨1 + 1, by omega, rfl, congrArg (Value.int .i64) FA.out.symm, congrArg (Value.int .i64) FO.out.symm, HB2.out⟩, by simp [intOf]⟩
            · skip
              by_cases hP : hasb p 2 = true
              · by_cases hQ : hasb q 2 = true
                · skip
                  have gp : (Go.bits .and .i64 (p / 4) 1 == 0) = false := by rw [(bit_is p HPP.out).2.2, hP]; rfl
                  have gp' : (Go.bits .and .i64 (p / 4) 1 = 0) = False := by have := gp; simpa using this
                  have gq : (Go.bits .and .i64 (q / 4) 1 == 0) = false := by rw [(bit_is q HQQ.out).2.2, hQ]; rfl
                  have gq' : (Go.bits .and .i64 (q / 4) 1 = 0) = False := by have := gq; simpa using this
                  have fa : fA p q (8 + 1) = lor (fA p q 8) (shA 2 2) := if_pos (by show (hasb p (8 / 3) && hasb q (8 % 3)) = true; rw [show 8 / 3 = 2 from rfl, show 8 % 3 = 2 from rfl, hP, hQ]; rfl)
                  have fo : fO p q (8 + 1) = lor (fO p q 8) (shO 2 2) := if_pos (by show (hasb p (8 / 3) && hasb q (8 % 3)) = true; rw [show 8 / 3 = 2 from rfl, show 8 % 3 = 2 from rfl, hP, hQ]; rfl)
                  have FA := Lib.hid fa
                  have FO := Lib.hid fo
                  have hA := (Below.refl wr.heap.size wr).alloc (Nat.le_refl _) (.cells #[.int .i64 0, .int .i64 2, .int .i64 1] 3)
                  have BB := Lib.hid ((HB2.out).trans (hA.mono (HB2.out).size))
                  have c0 : (wr.alloc (.cells #[.int .i64 0, .int .i64 2, .int .i64 1] 3)).cell? ⟨wr.heap.size, 0, none⟩ = some (.int .i64 0) := by rw [cell_of_row _ _ _ _ 3 _ (alloc_here wr _)]; rfl
                  have c1 : (wr.alloc (.cells #[.int .i64 0, .int .i64 2, .int .i64 1] 3)).cell? ⟨wr.heap.size, 1, none⟩ = some (.int .i64 2) := by rw [cell_of_row _ _ _ _ 3 _ (alloc_here wr _)]; rfl
                  have c2 : (wr.alloc (.cells #[.int .i64 0, .int .i64 2, .int .i64 1] 3)).cell? ⟨wr.heap.size, 2, none⟩ = some (.int .i64 1) := by rw [cell_of_row _ _ _ _ 3 _ (alloc_here wr _)]; rfl
                  clear fa fo hA
                  go_upto_region 20 with fail
                  refine wp_region_noPanic ?_
                  refine wp_region_held_drew (S := (fun W => W.cell? ⟨wr.heap.size, 0, none⟩ = some (.int .i64 0) ∧ W.cell? ⟨wr.heap.size, 1, none⟩ = some (.int .i64 2) ∧ W.cell? ⟨wr.heap.size, 2, none⟩ = some (.int .i64 1))) (by kernel_rfl) ?_ (fun hHeld => ?_)
                  · exact ⟨c0, c1, c2⟩
                  refine wpAnyH_take (i := 0) (oi := { dst := some 110, op := Op.move (Operand.tmp 24), type := 51, pos := "more.go:59", after := #[], guard := none }) (v := ?_) rfl (by kernel_rfl) (by kernel_rfl) (by kernel_rfl) (fun _ _ _ h => h) (Or.inl ⟨by rfl, ?_⟩) (by assumption) ?_
                  rotate_left
                  · (intro w hSw; (try dsimp only at hSw); go_simp; try with_reducible rfl)
                  try simp only [Act.put, List.setIfInBounds_toArray, List.set_cons_zero, List.set_cons_succ]
                  refine wpAnyH_take (i := 1) (oi := { dst := some 111, op := Op.move (Operand.tmp 22), type := 3, pos := "more.go:59", after := #[], guard := none }) (v := ?_) rfl (by kernel_rfl) (by kernel_rfl) (by kernel_rfl) (fun _ _ _ h => h) (Or.inl ⟨by rfl, ?_⟩) (by assumption) ?_
                  rotate_left
                  · (intro w hSw; (try dsimp only at hSw); go_simp; try with_reducible rfl)
                  try simp only [Act.put, List.setIfInBounds_toArray, List.set_cons_zero, List.set_cons_succ]
                  refine wpAnyH_take (i := 2) (oi := { dst := some 112, op := Op.indexAddr 51 (Operand.tmp 110) (Operand.tmp 111), type := 0, pos := "more.go:59", after := #[{ on := 0, ground := Ground.data }, { on := 1, ground := Ground.data }], guard := none }) (v := ?_) rfl (by kernel_rfl) (by kernel_rfl) (by kernel_rfl) (fun _ _ _ h => h) (Or.inl ⟨by rfl, ?_⟩) (by assumption) ?_
                  rotate_left
                  · (intro w hSw; (try dsimp only at hSw); go_simp; try with_reducible rfl)
                  try simp only [Act.put, List.setIfInBounds_toArray, List.set_cons_zero, List.set_cons_succ]
                  refine wpAnyH_take (i := 3) (oi := { dst := some 113, op := Op.load 3 (Operand.tmp 112), type := 3, pos := "more.go:59", after := #[{ on := 2, ground := Ground.data }], guard := none }) (v := ?_) rfl (by kernel_rfl) (by kernel_rfl) (by kernel_rfl) (fun _ _ _ h => h) (Or.inl ⟨by rfl, ?_⟩) (by assumption) ?_
                  rotate_left
                  · (intro w hSw; (try dsimp only at hSw); go_simp; try with_reducible rfl)
                  try simp only [Act.put, List.setIfInBounds_toArray, List.set_cons_zero, List.set_cons_succ]
                  refine wpAnyH_take (i := 4) (oi := { dst := some 114, op := Op.move (Operand.tmp 24), type := 51, pos := "more.go:59", after := #[], guard := none }) (v := ?_) rfl (by kernel_rfl) (by kernel_rfl) (by kernel_rfl) (fun _ _ _ h => h) (Or.inl ⟨by rfl, ?_⟩) (by assumption) ?_
                  rotate_left
                  · (intro w hSw; (try dsimp only at hSw); go_simp; try with_reducible rfl)
                  try simp only [Act.put, List.setIfInBounds_toArray, List.set_cons_zero, List.set_cons_succ]
                  refine wpAnyH_take (i := 5) (oi := { dst := some 115, op := Op.move (Operand.tmp 23), type := 3, pos := "more.go:59", after := #[], guard := none }) (v := ?_) rfl (by kernel_rfl) (by kernel_rfl) (by kernel_rfl) (fun _ _ _ h => h) (Or.inl ⟨by rfl, ?_⟩) (by assumption) ?_
                  rotate_left
                  · (intro w hSw; (try dsimp only at hSw); go_simp; try with_reducible rfl)
                  try simp only [Act.put, List.setIfInBounds_toArray, List.set_cons_zero, List.set_cons_succ]
                  refine wpAnyH_take (i := 6) (oi := { dst := some 116, op := Op.indexAddr 51 (Operand.tmp 114) (Operand.tmp 115), type := 0, pos := "more.go:59", after := #[{ on := 4, ground := Ground.data }, { on := 5, ground := Ground.data }], guard := none }) (v := ?_) rfl (by kernel_rfl) (by kernel_rfl) (by kernel_rfl) (fun _ _ _ h => h) (Or.inl ⟨by rfl, ?_⟩) (by assumption) ?_
                  rotate_left
                  · (intro w hSw; (try dsimp only at hSw); go_simp; try with_reducible rfl)
                  try simp only [Act.put, List.setIfInBounds_toArray, List.set_cons_zero, List.set_cons_succ]
                  refine wpAnyH_take (i := 7) (oi := { dst := some 117, op := Op.load 3 (Operand.tmp 116), type := 3, pos := "more.go:59", after := #[{ on := 6, ground := Ground.data }], guard := none }) (v := ?_) rfl (by kernel_rfl) (by kernel_rfl) (by kernel_rfl) (fun _ _ _ h => h) (Or.inl ⟨by rfl, ?_⟩) (by assumption) ?_
                  rotate_left
                  · (intro w hSw; (try dsimp only at hSw); go_simp; try with_reducible rfl)
                  try simp only [Act.put, List.setIfInBounds_toArray, List.set_cons_zero, List.set_cons_succ]
                  refine wpAnyH_take (i := 8) (oi := { dst := some 118, op := Op.call { callee := Callee.builtin Builtin.min, args := #[Operand.tmp 113, Operand.tmp 117], argTypes := #[3, 3] }, type := 3, pos := "more.go:59", after := #[{ on := 3, ground := Ground.data }, { on := 7, ground := Ground.data }], guard := none }) (v := ?_) rfl (by kernel_rfl) (by kernel_rfl) (by kernel_rfl) (fun _ _ _ h => h) (Or.inl ⟨by rfl, ?_⟩) (by assumption) ?_
                  rotate_left
                  · (intro w hSw; (try dsimp only at hSw); go_simp; try with_reducible rfl)
                  try simp only [Act.put, List.setIfInBounds_toArray, List.set_cons_zero, List.set_cons_succ]
                  refine wpAnyH_take (i := 9) (oi := { dst := some 25, op := Op.assign (Operand.tmp 118), type := 3, pos := "more.go:59", after := #[{ on := 8, ground := Ground.data }, { on := 0, ground := Ground.phase }, { on := 1, ground := Ground.phase }, { on := 2, ground := Ground.phase }, { on := 3, ground := Ground.phase }, { on := 4, ground := Ground.phase }, { on := 5, ground := Ground.phase }, { on := 6, ground := Ground.phase }, { on := 7, ground := Ground.phase }, { on := 8, ground := Ground.phase }], guard := none }) (v := ?_) rfl (by kernel_rfl) (by kernel_rfl) (by kernel_rfl) (fun _ _ _ h => h) (Or.inl ⟨by rfl, ?_⟩) (by assumption) ?_
                  rotate_left
                  · (intro w hSw; (try dsimp only at hSw); go_simp; try with_reducible rfl)
                  try simp only [Act.put, List.setIfInBounds_toArray, List.set_cons_zero, List.set_cons_succ]
                  refine wpAnyH_done (by kernel_rfl) ?_ _
                  refine NoPanic.normal ?_
                  have k0 : (wr.alloc (.cells #[.int .i64 0, .int .i64 2, .int .i64 1] 3)).drew.cell? ⟨wr.heap.size, 0, none⟩ = some (.int .i64 0) := c0
                  have k1 : (wr.alloc (.cells #[.int .i64 0, .int .i64 2, .int .i64 1] 3)).drew.cell? ⟨wr.heap.size, 1, none⟩ = some (.int .i64 2) := c1
                  have k2 : (wr.alloc (.cells #[.int .i64 0, .int .i64 2, .int .i64 1] 3)).drew.cell? ⟨wr.heap.size, 2, none⟩ = some (.int .i64 1) := c2
                  go_upto_region 21 with fail
                  refine wp_region_noPanic ?_
                  refine wp_region_held_drew (S := (fun W => W.cell? ⟨wr.heap.size, 0, none⟩ = some (.int .i64 0) ∧ W.cell? ⟨wr.heap.size, 1, none⟩ = some (.int .i64 2) ∧ W.cell? ⟨wr.heap.size, 2, none⟩ = some (.int .i64 1))) (by kernel_rfl) ?_ (fun hHeld => ?_)
                  · exact ⟨k0, k1, k2⟩
                  refine wpAnyH_take (i := 0) (oi := { dst := some 119, op := Op.move (Operand.tmp 24), type := 51, pos := "more.go:60", after := #[], guard := none }) (v := ?_) rfl (by kernel_rfl) (by kernel_rfl) (by kernel_rfl) (fun _ _ _ h => h) (Or.inl ⟨by rfl, ?_⟩) (by assumption) ?_
                  rotate_left
                  · (intro w hSw; (try dsimp only at hSw); go_simp; try with_reducible rfl)
                  try simp only [Act.put, List.setIfInBounds_toArray, List.set_cons_zero, List.set_cons_succ]
                  refine wpAnyH_take (i := 1) (oi := { dst := some 120, op := Op.move (Operand.tmp 22), type := 3, pos := "more.go:60", after := #[], guard := none }) (v := ?_) rfl (by kernel_rfl) (by kernel_rfl) (by kernel_rfl) (fun _ _ _ h => h) (Or.inl ⟨by rfl, ?_⟩) (by assumption) ?_
                  rotate_left
                  · (intro w hSw; (try dsimp only at hSw); go_simp; try with_reducible rfl)
                  try simp only [Act.put, List.setIfInBounds_toArray, List.set_cons_zero, List.set_cons_succ]
                  refine wpAnyH_take (i := 2) (oi := { dst := some 121, op := Op.indexAddr 51 (Operand.tmp 119) (Operand.tmp 120), type := 0, pos := "more.go:60", after := #[{ on := 0, ground := Ground.data }, { on := 1, ground := Ground.data }], guard := none }) (v := ?_) rfl (by kernel_rfl) (by kernel_rfl) (by kernel_rfl) (fun _ _ _ h => h) (Or.inl ⟨by rfl, ?_⟩) (by assumption) ?_
                  rotate_left
                  · (intro w hSw; (try dsimp only at hSw); go_simp; try with_reducible rfl)
                  try simp only [Act.put, List.setIfInBounds_toArray, List.set_cons_zero, List.set_cons_succ]
                  refine wpAnyH_take (i := 3) (oi := { dst := some 122, op := Op.load 3 (Operand.tmp 121), type := 3, pos := "more.go:60", after := #[{ on := 2, ground := Ground.data }], guard := none }) (v := ?_) rfl (by kernel_rfl) (by kernel_rfl) (by kernel_rfl) (fun _ _ _ h => h) (Or.inl ⟨by rfl, ?_⟩) (by assumption) ?_
                  rotate_left
                  · (intro w hSw; (try dsimp only at hSw); go_simp; try with_reducible rfl)
                  try simp only [Act.put, List.setIfInBounds_toArray, List.set_cons_zero, List.set_cons_succ]
                  refine wpAnyH_take (i := 4) (oi := { dst := some 123, op := Op.move (Operand.tmp 24), type := 51, pos := "more.go:60", after := #[], guard := none }) (v := ?_) rfl (by kernel_rfl) (by kernel_rfl) (by kernel_rfl) (fun _ _ _ h => h) (Or.inl ⟨by rfl, ?_⟩) (by assumption) ?_
                  rotate_left
                  · (intro w hSw; (try dsimp only at hSw); go_simp; try with_reducible rfl)
                  try simp only [Act.put, List.setIfInBounds_toArray, List.set_cons_zero, List.set_cons_succ]
                  refine wpAnyH_take (i := 5) (oi := { dst := some 124, op := Op.move (Operand.tmp 23), type := 3, pos := "more.go:60", after := #[], guard := none }) (v := ?_) rfl (by kernel_rfl) (by kernel_rfl) (by kernel_rfl) (fun _ _ _ h => h) (Or.inl ⟨by rfl, ?_⟩) (by assumption) ?_
                  rotate_left
                  · (intro w hSw; (try dsimp only at hSw); go_simp; try with_reducible rfl)
                  try simp only [Act.put, List.setIfInBounds_toArray, List.set_cons_zero, List.set_cons_succ]
                  refine wpAnyH_take (i := 6) (oi := { dst := some 125, op := Op.indexAddr 51 (Operand.tmp 123) (Operand.tmp 124), type := 0, pos := "more.go:60", after := #[{ on := 4, ground := Ground.data }, { on := 5, ground := Ground.data }], guard := none }) (v := ?_) rfl (by kernel_rfl) (by kernel_rfl) (by kernel_rfl) (fun _ _ _ h => h) (Or.inl ⟨by rfl, ?_⟩) (by assumption) ?_
                  rotate_left
                  · (intro w hSw; (try dsimp only at hSw); go_simp; try with_reducible rfl)
                  try simp only [Act.put, List.setIfInBounds_toArray, List.set_cons_zero, List.set_cons_succ]
                  refine wpAnyH_take (i := 7) (oi := { dst := some 126, op := Op.load 3 (Operand.tmp 125), type := 3, pos := "more.go:60", after := #[{ on := 6, ground := Ground.data }], guard := none }) (v := ?_) rfl (by kernel_rfl) (by kernel_rfl) (by kernel_rfl) (fun _ _ _ h => h) (Or.inl ⟨by rfl, ?_⟩) (by assumption) ?_
                  rotate_left
                  · (intro w hSw; (try dsimp only at hSw); go_simp; try with_reducible rfl)
                  try simp only [Act.put, List.setIfInBounds_toArray, List.set_cons_zero, List.set_cons_succ]
                  refine wpAnyH_take (i := 8) (oi := { dst := some 127, op := Op.call { callee := Callee.builtin Builtin.max, args := #[Operand.tmp 122, Operand.tmp 126], argTypes := #[3, 3] }, type := 3, pos := "more.go:60", after := #[{ on := 3, ground := Ground.data }, { on := 7, ground := Ground.data }], guard := none }) (v := ?_) rfl (by kernel_rfl) (by kernel_rfl) (by kernel_rfl) (fun _ _ _ h => h) (Or.inl ⟨by rfl, ?_⟩) (by assumption) ?_
                  rotate_left
                  · (intro w hSw; (try dsimp only at hSw); go_simp; try with_reducible rfl)
                  try simp only [Act.put, List.setIfInBounds_toArray, List.set_cons_zero, List.set_cons_succ]
                  refine wpAnyH_take (i := 9) (oi := { dst := some 26, op := Op.assign (Operand.tmp 127), type := 3, pos := "more.go:60", after := #[{ on := 8, ground := Ground.data }, { on := 0, ground := Ground.phase }, { on := 1, ground := Ground.phase }, { on := 2, ground := Ground.phase }, { on := 3, ground := Ground.phase }, { on := 4, ground := Ground.phase }, { on := 5, ground := Ground.phase }, { on := 6, ground := Ground.phase }, { on := 7, ground := Ground.phase }, { on := 8, ground := Ground.phase }], guard := none }) (v := ?_) rfl (by kernel_rfl) (by kernel_rfl) (by kernel_rfl) (fun _ _ _ h => h) (Or.inl ⟨by rfl, ?_⟩) (by assumption) ?_
                  rotate_left
                  · (intro w hSw; (try dsimp only at hSw); go_simp; try with_reducible rfl)
                  try simp only [Act.put, List.setIfInBounds_toArray, List.set_cons_zero, List.set_cons_succ]
                  refine wpAnyH_done (by kernel_rfl) ?_ _
                  refine NoPanic.normal ?_
                  have l0 : (wr.alloc (.cells #[.int .i64 0, .int .i64 2, .int .i64 1] 3)).drew.drew.cell? ⟨wr.heap.size, 0, none⟩ = some (.int .i64 0) := c0
                  have l1 : (wr.alloc (.cells #[.int .i64 0, .int .i64 2, .int .i64 1] 3)).drew.drew.cell? ⟨wr.heap.size, 1, none⟩ = some (.int .i64 2) := c1
                  have l2 : (wr.alloc (.cells #[.int .i64 0, .int .i64 2, .int .i64 1] 3)).drew.drew.cell? ⟨wr.heap.size, 2, none⟩ = some (.int .i64 1) := c2
                  go_wp2_with fail
                  exact ⟨⟨2 + 1, by omega, rfl, congrArg (Value.int .i64) FA.out.symm, congrArg (Value.int .i64) FO.out.symm, (BB.out).drew.drew⟩, by simp [intOf]⟩
                · have hQ' : hasb q 2 = false := by simpa using hQ
                  have gp : (Go.bits .and .i64 (p / 4) 1 == 0) = false := by rw [(bit_is p HPP.out).2.2, hP]; rfl
                  have gp' : (Go.bits .and .i64 (p / 4) 1 = 0) = False := by have := gp; simpa using this
                  have gq : (Go.bits .and .i64 (q / 4) 1 == 0) = true := by rw [(bit_is q HQQ.out).2.2, hQ']; rfl
                  have gq' : (Go.bits .and .i64 (q / 4) 1 = 0) = True := by have := gq; simpa using this
                  have hn : (hasb p (8 / 3) && hasb q (8 % 3)) = false := by rw [show 8 / 3 = 2 from rfl, show 8 % 3 = 2 from rfl, hP, hQ']; rfl
                  have fa : fA p q (8 + 1) = fA p q 8 := if_neg (by rw [hn]; decide)
                  have fo : fO p q (8 + 1) = fO p q 8 := if_neg (by rw [hn]; decide)
                  have FA := Lib.hid fa
                  have FO := Lib.hid fo
                  clear fa fo hn hQ
                  go_wp2_with fail
                  exact ⟨⟨2 + 1, by omega, rfl, congrArg (Value.int .i64) FA.out.symm, congrArg (Value.int .i64) FO.out.symm, HB2.out⟩, by simp [intOf]⟩
              · have hP' : hasb p 2 = false := by simpa using hP
                have gp : (Go.bits .and .i64 (p / 4) 1 == 0) = true := by rw [(bit_is p HPP.out).2.2, hP']; rfl
                have gp' : (Go.bits .and .i64 (p / 4) 1 = 0) = True := by have := gp; simpa using this
                have hn : (hasb p (8 / 3) && hasb q (8 % 3)) = false := by rw [show 8 / 3 = 2 from rfl, hP']; rfl
                have fa : fA p q (8 + 1) = fA p q 8 := if_neg (by rw [hn]; decide)
                have fo : fO p q (8 + 1) = fO p q 8 := if_neg (by rw [hn]; decide)
                have FA := Lib.hid fa
                have FO := Lib.hid fo
                clear fa fo hn hP
                go_wp2_with fail
                exact ⟨⟨2 + 1, by omega, rfl, congrArg (Value.int .i64) FA.out.symm, congrArg (Value.int .i64) FO.out.symm, HB2.out⟩, by simp [intOf]⟩
        · obtain rfl : k = 3 := by omega
          have hE : decide (((3 : Nat) : Int) < 3) = false := by decide
          go_wp2_with fail
          exact ⟨⟨i + 1, by omega, rfl, rfl, rfl, HB2.out⟩, by simp [intOf]; omega⟩
    · obtain rfl : i = 3 := by omega
      have hD : decide (((3 : Nat) : Int) < 3) = false := by decide
      clear hlt hi
      have hfa := fA_is p q HPP.out HQQ.out
      have hfo := fO_is p q HPP.out HQQ.out
      have e9 : 3 * 3 = 9 := rfl
      rw [e9, hfa, hfo]
      clear hfa hfo e9
      have PAr := Lib.hid ((PA11.out).below HB.out)
      have PBr := Lib.hid ((PB11.out).below HB.out)
      have Sr := Lib.hid ((S11.out).below HB.out)
      have Br := Lib.hid ((B11.out).trans ((HB.out).mono (B11.out).size))
      clear HB PA11 PB11 S11 B11
      have ar0 : wr.cell? ⟨w7.heap.size, 0, none⟩ = some (.int .i64 oo1) := (PAr.out).c 0
      have ar1 : wr.cell? ⟨w7.heap.size, 1, none⟩ = some (.int .i64 0) := (PAr.out).c 1
      have ar2 : wr.cell? ⟨w7.heap.size, 2, none⟩ = some (.int .i64 1) := (PAr.out).c 2
      have ar3 : wr.cell? ⟨w7.heap.size, 3, none⟩ = some (.int .i64 a) := (PAr.out).c 3
      have ar4 : wr.cell? ⟨w7.heap.size, 4, none⟩ = some (.string ⟨#[]⟩) := (PAr.out).c 4
      have ar5 : wr.cell? ⟨w7.heap.size, 5, none⟩ = some (.complex .f64 0 0) := (PAr.out).c 5
      have ar6 : wr.cell? ⟨w7.heap.size, 6, none⟩ = some (.complex .f64 0 0) := (PAr.out).c 6
      have ar7 : wr.cell? ⟨w7.heap.size, 7, none⟩ = some (.complex .f64 0 0) := (PAr.out).c 7
      have ar8 : wr.cell? ⟨w7.heap.size, 8, none⟩ = some (.slice none 0 0) := (PAr.out).c 8
      have br0 : wr.cell? ⟨w7.heap.size + 1, 0, none⟩ = some (.int .i64 oo2) := (PBr.out).c 0
      have br1 : wr.cell? ⟨w7.heap.size + 1, 1, none⟩ = some (.int .i64 0) := (PBr.out).c 1
      have br2 : wr.cell? ⟨w7.heap.size + 1, 2, none⟩ = some (.int .i64 1) := (PBr.out).c 2
      have br3 : wr.cell? ⟨w7.heap.size + 1, 3, none⟩ = some (.int .i64 b) := (PBr.out).c 3
      have br4 : wr.cell? ⟨w7.heap.size + 1, 4, none⟩ = some (.string ⟨#[]⟩) := (PBr.out).c 4
      have br5 : wr.cell? ⟨w7.heap.size + 1, 5, none⟩ = some (.complex .f64 0 0) := (PBr.out).c 5
      have br6 : wr.cell? ⟨w7.heap.size + 1, 6, none⟩ = some (.complex .f64 0 0) := (PBr.out).c 6
      have br7 : wr.cell? ⟨w7.heap.size + 1, 7, none⟩ = some (.complex .f64 0 0) := (PBr.out).c 7
      have br8 : wr.cell? ⟨w7.heap.size + 1, 8, none⟩ = some (.slice none 0 0) := (PBr.out).c 8
      have hlr1 := (PAr.out).lt
      have hlr2 := (PBr.out).lt
      go_wp2_with fail
      refine (Try.notP oo1 a wr).mono ?_
      rintro e wn ⟨g, rfl, hk, hb⟩
      unfold predB
      have PAn := Lib.hid ((PAr.out).below hb)
      have PBn := Lib.hid ((PBr.out).below hb)
      have Sn := Lib.hid ((Sr.out).below hb)
      have Bn := Lib.hid ((Br.out).trans (hb.mono (Br.out).size))
      have KN := Lib.hid hk
      clear hb hk PAr PBr Sr Br hlr1 hlr2
      clear ar0 ar1 ar2 ar3 ar4 ar5 ar6 ar7 ar8 br0 br1 br2 br3 br4 br5 br6 br7 br8
      go_wp2_with fail
      have hmn := Try.mayNT (cap := 1) (ck := 1) KN.out HO1.out Sn.out HNE.out HR1.out (Nat.le_refl 1)
      rw [HEP.out] at hmn
      refine hmn.mono ?_
      clear hmn
      rintro e wo ⟨rfl, hb⟩
      have PAo := Lib.hid ((PAn.out).below hb)
      have PBo := Lib.hid ((PBn.out).below hb)
      have So := Lib.hid ((Sn.out).below hb)
      have Bo := Lib.hid ((Bn.out).trans (hb.mono (Bn.out).size))
      clear hb PAn PBn Sn Bn KN
      have ao0 : wo.cell? ⟨w7.heap.size, 0, none⟩ = some (.int .i64 oo1) := (PAo.out).c 0
      have ao1 : wo.cell? ⟨w7.heap.size, 1, none⟩ = some (.int .i64 0) := (PAo.out).c 1
      have ao2 : wo.cell? ⟨w7.heap.size, 2, none⟩ = some (.int .i64 1) := (PAo.out).c 2
      have ao3 : wo.cell? ⟨w7.heap.size, 3, none⟩ = some (.int .i64 a) := (PAo.out).c 3
      have ao4 : wo.cell? ⟨w7.heap.size, 4, none⟩ = some (.string ⟨#[]⟩) := (PAo.out).c 4
      have ao5 : wo.cell? ⟨w7.heap.size, 5, none⟩ = some (.complex .f64 0 0) := (PAo.out).c 5
      have ao6 : wo.cell? ⟨w7.heap.size, 6, none⟩ = some (.complex .f64 0 0) := (PAo.out).c 6
      have ao7 : wo.cell? ⟨w7.heap.size, 7, none⟩ = some (.complex .f64 0 0) := (PAo.out).c 7
      have ao8 : wo.cell? ⟨w7.heap.size, 8, none⟩ = some (.slice none 0 0) := (PAo.out).c 8
      have bo0 : wo.cell? ⟨w7.heap.size + 1, 0, none⟩ = some (.int .i64 oo2) := (PBo.out).c 0
      have bo1 : wo.cell? ⟨w7.heap.size + 1, 1, none⟩ = some (.int .i64 0) := (PBo.out).c 1
      have bo2 : wo.cell? ⟨w7.heap.size + 1, 2, none⟩ = some (.int .i64 1) := (PBo.out).c 2
      have bo3 : wo.cell? ⟨w7.heap.size + 1, 3, none⟩ = some (.int .i64 b) := (PBo.out).c 3
      have bo4 : wo.cell? ⟨w7.heap.size + 1, 4, none⟩ = some (.string ⟨#[]⟩) := (PBo.out).c 4
      have bo5 : wo.cell? ⟨w7.heap.size + 1, 5, none⟩ = some (.complex .f64 0 0) := (PBo.out).c 5
      have bo6 : wo.cell? ⟨w7.heap.size + 1, 6, none⟩ = some (.complex .f64 0 0) := (PBo.out).c 6
      have bo7 : wo.cell? ⟨w7.heap.size + 1, 7, none⟩ = some (.complex .f64 0 0) := (PBo.out).c 7
      have bo8 : wo.cell? ⟨w7.heap.size + 1, 8, none⟩ = some (.slice none 0 0) := (PBo.out).c 8
      have hlo1 := (PAo.out).lt
      have hlo2 := (PBo.out).lt
      go_wp2_with fail
      clear ao0 ao1 ao2 ao3 ao4 ao5 ao6 ao7 ao8 bo0 bo1 bo2 bo3 bo4 bo5 bo6 bo7 bo8
      have hA1 := (Below.refl wo.heap.size wo).alloc (Nat.le_refl _) (.cells (#[.int .i64 oo1, .int .i64 0, .int .i64 1, .int .i64 a, .string ⟨#[]⟩, .complex .f64 0 0, .complex .f64 0 0, .complex .f64 0 0, .slice none 0 0, .int .i64 oo2, .int .i64 0, .int .i64 1, .int .i64 b, .string ⟨#[]⟩, .complex .f64 0 0, .complex .f64 0 0, .complex .f64 0 0, .slice none 0 0]) 42)
      have ka1 := pc_two1 wo oo1 a oo2 b
      have kb1 := pc_two2 wo oo1 a oo2 b
      have hm1 := Try.mayAT (cap := 1) (ck := 2) ka1 HO1.out kb1 HO2.out ((So.out).below hA1) HNE.out HR1.out (Nat.le_refl 2)
      rw [HEP.out, HEQ.out] at hm1
      refine hm1.mono ?_
      rintro e wa ⟨rfl, hb⟩
      have hc1 := hA1.trans (Below.mono hb hA1.size)
      have PAa := Lib.hid ((PAo.out).below hc1)
      have PBa := Lib.hid ((PBo.out).below hc1)
      have Sa := Lib.hid ((So.out).below hc1)
      have Ba := Lib.hid ((Bo.out).trans (hc1.mono (Bo.out).size))
      clear hb hA1 ka1 kb1 hm1 hc1 PAo PBo So Bo hlo1 hlo2
      have aa0 : wa.cell? ⟨w7.heap.size, 0, none⟩ = some (.int .i64 oo1) := (PAa.out).c 0
      have aa1 : wa.cell? ⟨w7.heap.size, 1, none⟩ = some (.int .i64 0) := (PAa.out).c 1
      have aa2 : wa.cell? ⟨w7.heap.size, 2, none⟩ = some (.int .i64 1) := (PAa.out).c 2
      have aa3 : wa.cell? ⟨w7.heap.size, 3, none⟩ = some (.int .i64 a) := (PAa.out).c 3
      have aa4 : wa.cell? ⟨w7.heap.size, 4, none⟩ = some (.string ⟨#[]⟩) := (PAa.out).c 4
      have aa5 : wa.cell? ⟨w7.heap.size, 5, none⟩ = some (.complex .f64 0 0) := (PAa.out).c 5
      have aa6 : wa.cell? ⟨w7.heap.size, 6, none⟩ = some (.complex .f64 0 0) := (PAa.out).c 6
      have aa7 : wa.cell? ⟨w7.heap.size, 7, none⟩ = some (.complex .f64 0 0) := (PAa.out).c 7
      have aa8 : wa.cell? ⟨w7.heap.size, 8, none⟩ = some (.slice none 0 0) := (PAa.out).c 8
      have ba0 : wa.cell? ⟨w7.heap.size + 1, 0, none⟩ = some (.int .i64 oo2) := (PBa.out).c 0
      have ba1 : wa.cell? ⟨w7.heap.size + 1, 1, none⟩ = some (.int .i64 0) := (PBa.out).c 1
      have ba2 : wa.cell? ⟨w7.heap.size + 1, 2, none⟩ = some (.int .i64 1) := (PBa.out).c 2
      have ba3 : wa.cell? ⟨w7.heap.size + 1, 3, none⟩ = some (.int .i64 b) := (PBa.out).c 3
      have ba4 : wa.cell? ⟨w7.heap.size + 1, 4, none⟩ = some (.string ⟨#[]⟩) := (PBa.out).c 4
      have ba5 : wa.cell? ⟨w7.heap.size + 1, 5, none⟩ = some (.complex .f64 0 0) := (PBa.out).c 5
      have ba6 : wa.cell? ⟨w7.heap.size + 1, 6, none⟩ = some (.complex .f64 0 0) := (PBa.out).c 6
      have ba7 : wa.cell? ⟨w7.heap.size + 1, 7, none⟩ = some (.complex .f64 0 0) := (PBa.out).c 7
      have ba8 : wa.cell? ⟨w7.heap.size + 1, 8, none⟩ = some (.slice none 0 0) := (PBa.out).c 8
      have hla1 := (PAa.out).lt
      have hla2 := (PBa.out).lt
      go_wp2_with fail
      clear aa0 aa1 aa2 aa3 aa4 aa5 aa6 aa7 aa8 ba0 ba1 ba2 ba3 ba4 ba5 ba6 ba7 ba8
      have hA2 := (Below.refl wa.heap.size wa).alloc (Nat.le_refl _) (.cells (#[.int .i64 oo1, .int .i64 0, .int .i64 1, .int .i64 a, .string ⟨#[]⟩, .complex .f64 0 0, .complex .f64 0 0, .complex .f64 0 0, .slice none 0 0, .int .i64 oo2, .int .i64 0, .int .i64 1, .int .i64 b, .string ⟨#[]⟩, .complex .f64 0 0, .complex .f64 0 0, .complex .f64 0 0, .slice none 0 0]) 42)
      have ka2 := pc_two1 wa oo1 a oo2 b
      have kb2 := pc_two2 wa oo1 a oo2 b
      have hm2 := Try.mayOT (cap := 1) (ck := 2) ka2 HO1.out kb2 HO2.out ((Sa.out).below hA2) HNE.out HR1.out (Nat.le_refl 2)
      rw [HEP.out, HEQ.out] at hm2
      refine hm2.mono ?_
      rintro e wb ⟨rfl, hb⟩
      have hc2 := hA2.trans (Below.mono hb hA2.size)
      have Bb := Lib.hid ((Ba.out).trans (hc2.mono (Ba.out).size))
      clear hb hA2 ka2 kb2 hm2 hc2
      go_wp2_with fail
      go_ret
      exact ⟨rfl, Bb.out⟩
end Go.Proofs
end

section
namespace Go.Proofs
open Go.RowKit
set_option maxRecDepth 100000
theorem wf_i8 {n : Int} (h : (Lit.int .i8 n).wf = true) : -128 ≤ n ∧ n ≤ 127 := by
  simp [Lit.wf, IntKind.min, IntKind.max, IntKind.bits, IntKind.signed] at h
  omega
theorem wf_u8n {n : Int} (h : (Lit.int .u8 n).wf = true) : ∃ s : Nat, n = s ∧ s < 256 := by
  simp [Lit.wf, IntKind.min, IntKind.max, IntKind.bits, IntKind.signed] at h
  exact ⟨n.toNat, by omega, by omega⟩
theorem Try.turns_all (w : World) (a b lw n o : Int) (w0 : (Lit.int .i8 a).wf = true) (w1 : (Lit.int .i8 b).wf = true) (w2 : (Lit.int .i8 lw).wf = true) (w3 : (Lit.int .u8 n).wf = true) (w4 : (Lit.int .u8 o).wf = true) :
    Calls Try.prog 6 #[.int .i8 a, .int .i8 b, .int .i8 lw, .int .u8 n, .int .u8 o] w (YesV w) := by
  obtain ⟨n, rfl, hn⟩ := wf_u8n w3
  obtain ⟨o, rfl, ho⟩ := wf_u8n w4
  exact Try.turns w a b lw (wf_i8 w0) (wf_i8 w1) (wf_i8 w2) n o hn ho
end Go.Proofs
end
