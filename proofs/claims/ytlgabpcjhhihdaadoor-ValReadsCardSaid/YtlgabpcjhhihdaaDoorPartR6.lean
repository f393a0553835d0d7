/-
  Texts of a proof over the translated program: proved evaluators and walks, part 6 of 13.
-/
import Derived.Test.YtlgabpcjhhihdaaDoorPartR5
import Derived.Below
import Derived.Deep.RegionHeld3
import Derived.Deep.RegionWith
import Derived.Handy
import Derived.IntWalk
import Derived.Laws.Cells
import Derived.Laws.CopyRow
import Derived.Laws.Strings
import Derived.Laws.Strings2
import Derived.Laws.Strings3
import Derived.Laws.StructEq
import Derived.Lib.AppendIntMem
import Derived.Lib.Hide
import Derived.Lib.ItoaLen
import Derived.LoopTactic
import Derived.Outline
import Derived.OwnWalk
import Derived.ProofKit
import Derived.Scope
import Derived.ScopeJumps
import Derived.Shelf.LaysC
import Derived.Shelf.LaysM
import Derived.Shelf.Small.Strs
import Derived.Shelf.Small.Wraps
import Derived.Shelf.Strconv.Clone
import Derived.Shelf.Strconv.ErrVarParseInt
import Derived.Shelf.Strconv.Itoa0
import Derived.Shelf.Strconv.Itoa1
import Derived.Shelf.Strconv.Itoa2
import Derived.Shelf.Strconv.Itoa3
import Derived.Shelf.Strconv.Itoa4
import Derived.Shelf.Strconv.Lower
import Derived.Shelf.Strconv.ParseInt10
import Derived.Shelf.Strconv.ParseInt10All
import Derived.Shelf.Strconv.ParseInt10At16
import Derived.Shelf.Strconv.ParseInt10At32
import Derived.Shelf.Strconv.ParseInt10At64
import Derived.Shelf.Strconv.ParseInt10At8
import Derived.Shelf.Strconv.ParseIntEmpty
import Derived.Shelf.Strconv.ParseIntPublic10
import Derived.Shelf.Strconv.ParseUint10
import Derived.Shelf.Strconv.ParseUint10Any
import Derived.Shelf.Strconv.ParseUint10At
import Derived.Shelf.Strconv.ParseUint10Empty
import Derived.Shelf.Strconv.ParseUint10b16
import Derived.Shelf.Strconv.ParseUint10b32
import Derived.Shelf.Strconv.ParseUint10b64
import Derived.Shelf.Strconv.ParseUint10b8
import Derived.Shelf.Strconv.ParseUintEmpty
import Derived.Shelf.Strconv.RangeError
import Derived.Shelf.Strconv.SyntaxError
import Derived.Shelf.Strconv.ToError
import Derived.Shelf.Strconv.ToErrorRange
import Derived.Shelf.Strings.Builder1
import Derived.Shelf.Strings.BuilderF
import Derived.Shelf.Strings.BuilderK
import Derived.Shelf.Strings.Prefix
import Derived.Shelf.Strings.Search1
import Derived.Test.YtlgabpcjhhihdaaDoorProg
import Derived.WalkKit
import Derived.WalkMore
import Derived.WalkSpells
set_option linter.unusedVariables false
set_option linter.unusedSimpArgs false
set_option linter.unusedSectionVars false
set_option linter.unnecessarySimpa false
section
namespace Go.Proofs.YtlgabpcjhhihdaaDoor
open Go.RowKit Go.NW
set_option maxRecDepth 100000
theorem Tryd.formatC {B : Nat} {w : World} (hD : DoorI B w) (n : Int) (h0 : -9223372036854775808 ≤ n) (h1 : n ≤ 9223372036854775807) :
    Calls Tryd.prog 26 #[.int .i64 n, .int .i64 10] w fun e w' => e = .returned (.string (bs (Lib.itoa n))) ∧ Below w.heap.size w w' := by
  refine (Tryd.strconv_FormatInt_10 n h0 h1 w (hD w (Below.refl _ _)).1).mono ?_
  rintro e w' ⟨rfl, k, os, rfl⟩
  exact ⟨rfl, Lib.below_grow _ w (Nat.le_refl _) k os⟩
theorem Tryd.textN {B : Nat} {w : World} (hD : DoorI B w) (hB : B ≤ w.heap.size) (n : Int) (h0 : -9223372036854775808 ≤ n) (h1 : n ≤ 9223372036854775807) :
    Calls Tryd.prog 10 #[vN n] w fun e w' => e = .returned (.string (bs (Lib.itoa n))) ∧ Below w.heap.size w w' := by
  have HD := Lib.hid (hD.on ((Below.refl _ w).alloc hB (.cells #[.int .i64 1, .int .i64 n, .string ⟨#[]⟩, .complex .f64 0 0] 25)))
  clear hD
  unfold vN
  go_enter Tryd.func10, Tryd.ntmps10
  go_wp2
  refine wp_scope_fwd 1 ?_
  go_wp2_with fail
  go_step3
  refine ⟨_, rfl, ?_⟩
  go_wp2_with fail
  refine (Tryd.formatC HD.out n h0 h1).mono ?_
  rintro e w1 ⟨rfl, hb⟩
  go_wp2_with fail
  refine (Fwd.other (by intro l; simp)).2 ?_
  go_ret
  refine ⟨rfl, ?_⟩
  exact ((Below.refl _ w).alloc (Nat.le_refl _) _).trans (hb.mono (by simp))
def V4 (CS : Array Value) : Prop := CS.size = 4 ∧ ∀ u ∈ CS.toList, u.oneCell' = true
theorem v4 (k n : Int) (s : ByteArray) (x y : Nat) : V4 (cells4 k n s x y) := ⟨rfl, one4 k n s x y⟩
theorem pint_v4 (l : List UInt8) : ∃ CS, (pint l).1 = .agg CS ∧ V4 CS := by
  unfold pint
  split
  · split
    · exact ⟨_, rfl, v4 _ _ _ _ _⟩
    · exact ⟨_, rfl, v4 _ _ _ _ _⟩
  · exact ⟨_, rfl, v4 _ _ _ _ _⟩
theorem Tryd.parseN {B : Nat} {w : World} (hD : DoorI B w) (hB : B ≤ w.heap.size) (l : List UInt8) (hl : l.length < 2 ^ 40) (h1 : (l == [45]) = false) (h2 : (l.head? == some 34) = false) (h3 : (l.getLast? == some 105) = false) :
    Calls Tryd.prog 7 #[.string (bs l)] w fun e w' => e = .returned (.tuple #[(pint l).1, .int .i64 (pint l).2]) ∧ Below w.heap.size w w' := by
  have hsc := storeC
  have hB' := bs_list
  have HD := Lib.hid (hD.on ((Below.refl _ w).alloc hB (.cells #[.int .i64 0, .int .i64 0, .string ⟨#[]⟩, .complex .f64 0 0] 25)))
  have hp := Tryd.pre l 34 (by omega)
  have hs := Tryd.suf l 105 (by omega)
  rw [h2] at hp
  rw [h3] at hs
  have hc := Tryd.parseInt HD.out (Nat.le_trans hB (by simp)) l hl
  have HC := Lib.hid hc
  obtain ⟨CS, hCS, hsz4, ho⟩ := pint_v4 l
  have hsz : CS.size = zero4.size := hsz4
  have HSZ := Lib.hid hsz
  have HSZ4 := Lib.hid hsz4
  have HO := Lib.hid ho
  generalize pint l = R at HC hCS ⊢
  obtain ⟨R1, R2⟩ := R
  obtain rfl : R1 = .agg CS := hCS
  clear hsz hsz4 ho
  clear hD h2 h3 hc
  go_enter Tryd.func7, Tryd.ntmps7
  go_wp2
  refine wp_scope_fwd 0 ?_
  go_wp2_with (first | (go_at_call 18; refine (hp _).mono ?_; rintro e w1 ⟨rfl, rfl⟩) | (go_at_call 19; refine (hs _).mono ?_; rintro e w1 ⟨rfl, rfl⟩))
  refine (HC.out).mono ?_
  rintro e w1 ⟨rfl, hb⟩
  have HB := Lib.hid (((Below.refl _ w).alloc (Nat.le_refl _) (.cells #[.int .i64 0, .int .i64 0, .string ⟨#[]⟩, .complex .f64 0 0] 25)).trans (hb.mono (by simp)))
  have hcell : w1.heap[w.heap.size]? = some (.cells #[.int .i64 0, .int .i64 0, .string ⟨#[]⟩, .complex .f64 0 0] 25 (0, 0)) := (hb.block _ (by simp)).trans (heap_alloc_new _ _)
  clear hb
  go_wp2_with (refine nw_store_row _ rfl 25 (.tmp 2) (.tmp 13) rfl w.heap.size 25 CS zero4 rfl rfl hcell HSZ.out (Tryd.size25 _ HSZ4.out) HO.out ?_)
  refine (Fwd.other (by intro l; simp)).2 ?_
  refine bodyPost_ret (v := .tuple #[.agg CS, .int .i64 R2]) (nw_results (show Tryd.f7.results = #[.cell 2 25, .tmp 3] from rfl) _ _ w.heap.size 25 CS _ rfl (setRow_heap' _ _ _ _ _ hcell) (Tryd.size25 _ HSZ4.out) Tryd.st25) rfl ⟨rfl, below_setRow HB.out (Nat.le_refl _) _⟩
end Go.Proofs.YtlgabpcjhhihdaaDoor
end

section
namespace Go.Proofs.YtlgabpcjhhihdaaDoor
open Go.Lib
theorem ofNat_digit (k : Nat) (h : k < 10) : (UInt8.ofNat (48 + k)).toNat = 48 + k := by
  rw [UInt8.toNat_ofNat']
  omega
theorem dec_all : ∀ (u : Nat), (decDigits u).all dig = true := by
  intro u
  induction u using Nat.strongRecOn with
  | ind u ih =>
    rw [decDigits]
    by_cases h : u < 10
    · rw [dif_pos h]
      simp only [List.all_cons, List.all_nil, Bool.and_true, dig, ofNat_digit u h]
      simp
      omega
    · rw [dif_neg h, List.all_append, ih (u / 10) (by omega)]
      simp only [List.all_cons, List.all_nil, Bool.and_true, Bool.true_and, dig, ofNat_digit (u % 10) (by omega)]
      simp
      omega
theorem dig_no {c d : UInt8} (h : dig c = true) (hd : dig d = false) : c ≠ d := fun e => by rw [e, hd] at h; cases h
end Go.Proofs.YtlgabpcjhhihdaaDoor
end

section
namespace Go.Proofs.YtlgabpcjhhihdaaDoor
open Go.RowKit Go.NW
set_option maxRecDepth 100000
theorem Tryd.held25 : Tryd.prog.stoodInHeld 25 = false := by kernel_rfl
theorem Tryd.guard25 : Tryd.prog.eqGuardType Tryd.prog.depth 25 = false := by kernel_rfl
theorem fields25 : ∃ f1 f2 f3 f4 : Field, (Tryd.prog.fieldsOf 25).toList = [f1, f2, f3, f4] ∧ (f1.name ≠ "_" ∧ f1.type = 3 ∧ f1.offset = 0) ∧ (f2.name ≠ "_" ∧ f2.type = 2 ∧ f2.offset = 1) ∧ (f3.name ≠ "_" ∧ f3.type = 9 ∧ f3.offset = 2) ∧ (f4.name ≠ "_" ∧ f4.type = 23 ∧ f4.offset = 3) :=
  by
  have h : (Tryd.prog.fieldsOf 25).toList.map (fun f => (f.name == "_", f.type, f.offset)) = [(false, 3, 0), (false, 2, 1), (false, 9, 2), (false, 23, 3)] := by kernel_rfl
  generalize (Tryd.prog.fieldsOf 25).toList = L at h
  rcases L with _ | ⟨f1, _ | ⟨f2, _ | ⟨f3, _ | ⟨f4, _ | ⟨f5, L⟩⟩⟩⟩⟩ <;> simp at h
  exact ⟨f1, f2, f3, f4, rfl, h.1, h.2.1, h.2.2.1, h.2.2.2⟩
theorem eqC0 (w : World) (d : Nat) : (Op.equalIn (d + 1) 23 (.complex .f64 0 0) (.complex .f64 0 0)).run Tryd.prog w = .ok true w := by
  simp [Op.equalIn, run_underlying Tryd.underlying23]
  kernel_rfl
theorem eqA (w : World) (k a k' b : Int) (s t : ByteArray) (x y x' y' : Nat) (q : Bool) (hq : (Op.equalIn 9999 23 (.complex .f64 x y) (.complex .f64 x' y')).run Tryd.prog w = .ok q w) : (Op.equalIn 10000 25 (.agg #[.int .i64 k, .int .i64 a, .string s, .complex .f64 x y]) (.agg #[.int .i64 k', .int .i64 b, .string t, .complex .f64 x' y'])).run Tryd.prog w = .ok ((k == k') && ((a == b) && ((s.toList == t.toList) && q))) w := by
  rw [run_equalIn_agg w 9999 25 _ _ Tryd.st25 Tryd.held25]
  obtain ⟨f1, f2, f3, f4, h, ⟨a1, a2, a3⟩, ⟨b1, b2, b3⟩, ⟨c1, c2, c3⟩, d1, d2, d3⟩ := fields25
  rw [h]
  have q3 : (Op.equalIn 9999 3 (.int .i64 k) (.int .i64 k')).run Tryd.prog w = .ok (k == k') w := run_equalIn_int w 9998 3 .i64 .i64 k k' Tryd.underlying3
  have q2 : (Op.equalIn 9999 2 (.int .i64 a) (.int .i64 b)).run Tryd.prog w = .ok (a == b) w := run_equalIn_int w 9998 2 .i64 .i64 a b Tryd.underlying2
  have q9 : (Op.equalIn 9999 9 (.string s) (.string t)).run Tryd.prog w = .ok (s.toList == t.toList) w := run_equalIn_string w 9998 9 _ _ Tryd.underlying9
  simp only [Op.eqFields, a1, a2, a3, b1, b2, b3, c1, c2, c3, d1, d2, d3, if_true, ne_eq, not_false_eq_true]
  simp [part, go_sem, q3, q2, q9, hq]
  by_cases hk : k = k' <;> by_cases ha : a = b <;> by_cases hs : s.toList = t.toList <;> cases q <;> simp [hk, ha, hs, q9, hq]
theorem eqG (op : BinOp) (x y : Operand) (xs ys : Array Value) (w : World) : (eqGuard op 25 x y (.agg xs) (.agg ys)).run Tryd.prog w = .ok () w := run_eqGuard_agg w op 25 x y xs ys Tryd.guard25
theorem eqlV (w : World) (k a k' b : Int) (s t : ByteArray) (x y x' y' : Nat) (q : Bool) (hq : (Op.equalIn 9999 23 (.complex .f64 x y) (.complex .f64 x' y')).run Tryd.prog w = .ok q w) : (binOp .eql 25 (.agg #[.int .i64 k, .int .i64 a, .string s, .complex .f64 x y]) (.agg #[.int .i64 k', .int .i64 b, .string t, .complex .f64 x' y'])).run Tryd.prog w = .ok (.bool ((k == k') && ((a == b) && ((s.toList == t.toList) && q)))) w := by
  rw [run_eql_struct, eqA _ _ _ _ _ _ _ _ _ _ _ _ hq, Result.andThen_ok]
theorem neqV (w : World) (k a k' b : Int) (s t : ByteArray) (x y x' y' : Nat) (q : Bool) (hq : (Op.equalIn 9999 23 (.complex .f64 x y) (.complex .f64 x' y')).run Tryd.prog w = .ok q w) : (binOp .neq 25 (.agg #[.int .i64 k, .int .i64 a, .string s, .complex .f64 x y]) (.agg #[.int .i64 k', .int .i64 b, .string t, .complex .f64 x' y'])).run Tryd.prog w = .ok (.bool (!((k == k') && ((a == b) && ((s.toList == t.toList) && q))))) w := by
  rw [run_neq_struct, eqA _ _ _ _ _ _ _ _ _ _ _ _ hq, Result.andThen_ok]
theorem eqN (w : World) (a : Int) : (binOp .eql 25 (.agg #[.int .i64 1, .int .i64 a, .string ⟨#[]⟩, .complex .f64 0 0]) (.agg #[.int .i64 1, .int .i64 a, .string ⟨#[]⟩, .complex .f64 0 0])).run Tryd.prog w = .ok (.bool true) w := by
  rw [eqlV w 1 a 1 a _ _ 0 0 0 0 true (eqC0 w 9998)]
  simp
end Go.Proofs.YtlgabpcjhhihdaaDoor
end
