/-
  Texts of a proof over the translated program: proved evaluators and walks, part 19 of 23.
-/
import Derived.Test.YtcogajgikmcfpaaGreatDoorPartQ18
import Derived.Below
import Derived.Deep.Cut
import Derived.Deep.RegionHeld3
import Derived.Deep.RegionWith
import Derived.Handy
import Derived.IntWalk
import Derived.Laws.Cells
import Derived.Laws.CopyRow
import Derived.Laws.Externs
import Derived.Laws.Strings
import Derived.Laws.Strings2
import Derived.Laws.Strings3
import Derived.Laws.StructEq
import Derived.Lib.AppendIntMem
import Derived.Lib.Builder
import Derived.Lib.Hide
import Derived.Lib.ItoaLen
import Derived.LoopTactic
import Derived.Outline
import Derived.OwnWalk
import Derived.ProofKit
import Derived.Scope
import Derived.ScopeJumps
import Derived.Shelf.LaysC
import Derived.Shelf.LaysM
import Derived.Shelf.Small.Strs
import Derived.Shelf.Strconv.Clone
import Derived.Shelf.Strconv.ErrVarParseInt
import Derived.Shelf.Strconv.Itoa0
import Derived.Shelf.Strconv.Itoa1
import Derived.Shelf.Strconv.Itoa2
import Derived.Shelf.Strconv.Itoa3
import Derived.Shelf.Strconv.Itoa4
import Derived.Shelf.Strconv.Lower
import Derived.Shelf.Strconv.ParseInt10
import Derived.Shelf.Strconv.ParseInt10All
import Derived.Shelf.Strconv.ParseInt10At16
import Derived.Shelf.Strconv.ParseInt10At32
import Derived.Shelf.Strconv.ParseInt10At64
import Derived.Shelf.Strconv.ParseInt10At8
import Derived.Shelf.Strconv.ParseIntEmpty
import Derived.Shelf.Strconv.ParseIntPublic10
import Derived.Shelf.Strconv.ParseUint10
import Derived.Shelf.Strconv.ParseUint10Any
import Derived.Shelf.Strconv.ParseUint10At
import Derived.Shelf.Strconv.ParseUint10Empty
import Derived.Shelf.Strconv.ParseUint10b16
import Derived.Shelf.Strconv.ParseUint10b32
import Derived.Shelf.Strconv.ParseUint10b64
import Derived.Shelf.Strconv.ParseUint10b8
import Derived.Shelf.Strconv.ParseUintEmpty
import Derived.Shelf.Strconv.RangeError
import Derived.Shelf.Strconv.SyntaxError
import Derived.Shelf.Strconv.ToError
import Derived.Shelf.Strconv.ToErrorRange
import Derived.Shelf.Strings.Builder1
import Derived.Shelf.Strings.BuilderF
import Derived.Shelf.Strings.BuilderK
import Derived.Shelf.Strings.Prefix
import Derived.Shelf.Strings.Search1
import Derived.Test.YtcogajgikmcfpaaGreatDoorProg
import Derived.WalkKit
import Derived.WalkMore
import Derived.WalkSpells
set_option linter.unusedVariables false
set_option linter.unusedSimpArgs false
set_option linter.unusedSectionVars false
set_option linter.unnecessarySimpa false
section
namespace Go.Proofs.YtcogajgikmcfpaaGreatDoor
open Go.RowKit Go.NW
set_option maxRecDepth 100000
theorem Tryz.formatC {B : Nat} {w : World} (hD : DoorI B w) (n : Int) (h0 : -9223372036854775808 ≤ n) (h1 : n ≤ 9223372036854775807) :
    Calls Tryz.prog 67 #[.int .i64 n, .int .i64 10] w fun e w' => e = .returned (.string (bs (Lib.itoa n))) ∧ Below w.heap.size w w' := by
  refine (Tryz.strconv_FormatInt_10 n h0 h1 w (hD w (Below.refl _ _)).1).mono ?_
  rintro e w' ⟨rfl, k, os, rfl⟩
  exact ⟨rfl, Lib.below_grow _ w (Nat.le_refl _) k os⟩
theorem Tryz.textN {B : Nat} {w : World} (hD : DoorI B w) (hB : B ≤ w.heap.size) (n : Int) (h0 : -9223372036854775808 ≤ n) (h1 : n ≤ 9223372036854775807) :
    Calls Tryz.prog 48 #[vN n] w fun e w' => e = .returned (.string (bs (Lib.itoa n))) ∧ Below w.heap.size w w' := by
  have HD := Lib.hid (hD.on ((Below.refl _ w).alloc hB (.cells #[.int .i64 1, .int .i64 n, .string ⟨#[]⟩, .complex .f64 0 0] 25)))
  clear hD
  unfold vN
  go_enter Tryz.func48, Tryz.ntmps48
  go_wp2
  refine wp_scope_fwd 1 ?_
  go_wp2_with fail
  go_step3
  refine ⟨_, rfl, ?_⟩
  go_wp2_with fail
  refine (Tryz.formatC HD.out n h0 h1).mono ?_
  rintro e w1 ⟨rfl, hb⟩
  go_wp2_with fail
  refine (Fwd.other (by intro l; simp)).2 ?_
  go_ret
  refine ⟨rfl, ?_⟩
  exact ((Below.refl _ w).alloc (Nat.le_refl _) _).trans (hb.mono (by simp))
def V4 (CS : Array Value) : Prop := CS.size = 4 ∧ ∀ u ∈ CS.toList, u.oneCell' = true
theorem v4 (k n : Int) (s : ByteArray) (x y : Nat) : V4 (cells4 k n s x y) := ⟨rfl, one4 k n s x y⟩
theorem pint_v4 (l : List UInt8) : ∃ CS, (pint l).1 = .agg CS ∧ V4 CS := by
  unfold pint
  split
  · split
    · exact ⟨_, rfl, v4 _ _ _ _ _⟩
    · exact ⟨_, rfl, v4 _ _ _ _ _⟩
  · exact ⟨_, rfl, v4 _ _ _ _ _⟩
theorem Tryz.parseN {B : Nat} {w : World} (hD : DoorI B w) (hB : B ≤ w.heap.size) (l : List UInt8) (hl : l.length < 2 ^ 40) (h1 : (l == [45]) = false) (h2 : (l.head? == some 34) = false) (h3 : (l.getLast? == some 105) = false) :
    Calls Tryz.prog 72 #[.string (bs l)] w fun e w' => e = .returned (.tuple #[(pint l).1, .int .i64 (pint l).2]) ∧ Below w.heap.size w w' := by
  have hsc := storeC
  have hB' := bs_list
  have HD := Lib.hid (hD.on ((Below.refl _ w).alloc hB (.cells #[.int .i64 0, .int .i64 0, .string ⟨#[]⟩, .complex .f64 0 0] 25)))
  have hp := Tryz.pre l 34 (by omega)
  have hs := Tryz.suf l 105 (by omega)
  rw [h2] at hp
  rw [h3] at hs
  have hc := Tryz.parseInt HD.out (Nat.le_trans hB (by simp)) l hl
  have HC := Lib.hid hc
  obtain ⟨CS, hCS, hsz4, ho⟩ := pint_v4 l
  have hsz : CS.size = zero4.size := hsz4
  have HSZ := Lib.hid hsz
  have HSZ4 := Lib.hid hsz4
  have HO := Lib.hid ho
  generalize pint l = R at HC hCS ⊢
  obtain ⟨R1, R2⟩ := R
  obtain rfl : R1 = .agg CS := hCS
  clear hsz hsz4 ho
  clear hD h2 h3 hc
  go_enter Tryz.func72, Tryz.ntmps72
  go_wp2
  refine wp_scope_fwd 0 ?_
  go_wp2_with (first | (go_at_call 96; refine (hp _).mono ?_; rintro e w1 ⟨rfl, rfl⟩) | (go_at_call 97; refine (hs _).mono ?_; rintro e w1 ⟨rfl, rfl⟩))
  refine (HC.out).mono ?_
  rintro e w1 ⟨rfl, hb⟩
  have HB := Lib.hid (((Below.refl _ w).alloc (Nat.le_refl _) (.cells #[.int .i64 0, .int .i64 0, .string ⟨#[]⟩, .complex .f64 0 0] 25)).trans (hb.mono (by simp)))
  have hcell : w1.heap[w.heap.size]? = some (.cells #[.int .i64 0, .int .i64 0, .string ⟨#[]⟩, .complex .f64 0 0] 25 (0, 0)) := (hb.block _ (by simp)).trans (heap_alloc_new _ _)
  clear hb
  go_wp2_with (refine nw_store_row _ rfl 25 (.tmp 2) (.tmp 13) rfl w.heap.size 25 CS zero4 rfl rfl hcell HSZ.out (Tryz.size25 _ HSZ4.out) HO.out ?_)
  refine (Fwd.other (by intro l; simp)).2 ?_
  refine bodyPost_ret (v := .tuple #[.agg CS, .int .i64 R2]) (nw_results (show Tryz.f72.results = #[.cell 2 25, .tmp 3] from rfl) _ _ w.heap.size 25 CS _ rfl (setRow_heap' _ _ _ _ _ hcell) (Tryz.size25 _ HSZ4.out) Tryz.st25) rfl ⟨rfl, below_setRow HB.out (Nat.le_refl _) _⟩
end Go.Proofs.YtcogajgikmcfpaaGreatDoor
end

section
namespace Go.Proofs.YtcogajgikmcfpaaGreatDoor
open Go.Lib
theorem ofNat_digit (k : Nat) (h : k < 10) : (UInt8.ofNat (48 + k)).toNat = 48 + k := by
  rw [UInt8.toNat_ofNat']
  omega
theorem parseM_one (M v : Nat) (c : UInt8) (h : 48 ≤ c.toNat ∧ c.toNat ≤ 57) (h1 : v < 1844674407370955162) (h2 : v * 10 + (c.toNat - 48) ≤ M) : parseUintM M v [c] = .ok (v * 10 + (c.toNat - 48)) := by
  simp only [parseUintM]
  rw [if_pos h, if_neg (by omega), if_neg (by omega)]
theorem parseM_snoc (M : Nat) (d : UInt8) : ∀ (l : List UInt8) (acc v : Nat), parseUintM M acc l = .ok v → parseUintM M acc (l ++ [d]) = parseUintM M v [d]
  | [], acc, v, h => by
    simp only [parseUintM] at h
    injection h with h
    subst h
    rfl
  | c :: r, acc, v, h => by
    simp only [parseUintM] at h
    rw [List.cons_append, parseUintM]
    split at h
    · rename_i h1
      rw [if_pos h1]
      split at h
      · cases h
      · rename_i h2
        rw [if_neg h2]
        split at h
        · cases h
        · rename_i h3
          rw [if_neg h3]
          exact parseM_snoc M d r _ v h
    · cases h
theorem parseM_dec (M : Nat) (hM : M ≤ 18446744073709551615) : ∀ (u : Nat), u ≤ M → parseUintM M 0 (decDigits u) = .ok u := by
  intro u
  induction u using Nat.strongRecOn with
  | ind u ih =>
    intro hu
    rw [decDigits]
    by_cases h : u < 10
    · rw [dif_pos h]
      simp only [parseUintM, ofNat_digit u h]
      rw [if_pos (by omega), if_neg (by omega), if_neg (by omega)]
      congr 1
      omega
    · rw [dif_neg h, parseM_snoc M _ _ _ _ (ih (u / 10) (by omega) (by omega))]
      have hd := ofNat_digit (u % 10) (by omega)
      rw [parseM_one M (u / 10) _ (by rw [hd]; omega) (by omega) (by rw [hd]; omega), hd]
      congr 1
      omega
theorem dec_all : ∀ (u : Nat), (decDigits u).all dig = true := by
  intro u
  induction u using Nat.strongRecOn with
  | ind u ih =>
    rw [decDigits]
    by_cases h : u < 10
    · rw [dif_pos h]
      simp only [List.all_cons, List.all_nil, Bool.and_true, dig, ofNat_digit u h]
      simp
      omega
    · rw [dif_neg h, List.all_append, ih (u / 10) (by omega)]
      simp only [List.all_cons, List.all_nil, Bool.and_true, Bool.true_and, dig, ofNat_digit (u % 10) (by omega)]
      simp
      omega
theorem dec_head : ∀ (u : Nat), 0 < u → ∃ c r, decDigits u = c :: r ∧ c ≠ 48 := by
  intro u
  induction u using Nat.strongRecOn with
  | ind u ih =>
    intro hu
    rw [decDigits]
    by_cases h : u < 10
    · rw [dif_pos h]
      refine ⟨_, _, rfl, fun e => ?_⟩
      have := congrArg UInt8.toNat e
      rw [ofNat_digit u h] at this
      have e2 : (48 : UInt8).toNat = 48 := rfl
      omega
    · rw [dif_neg h]
      obtain ⟨c, r, e, hc⟩ := ih (u / 10) (by omega) (by omega)
      exact ⟨c, r ++ [UInt8.ofNat (48 + u % 10)], by rw [e]; rfl, hc⟩
theorem dig_no {c d : UInt8} (h : dig c = true) (hd : dig d = false) : c ≠ d := fun e => by rw [e, hd] at h; cases h
theorem itoa_form (n : Int) : ∃ c r, decDigits n.natAbs = c :: r ∧ dig c = true ∧ (c = 48 → n = 0) ∧ ((0 ≤ n ∧ itoa n = c :: r) ∨ (n < 0 ∧ itoa n = 45 :: c :: r)) := by
  have hall := dec_all n.natAbs
  by_cases h0 : n.natAbs = 0
  · have hn : n = 0 := by omega
    subst hn
    refine ⟨48, [], ?_, rfl, fun _ => rfl, .inl ⟨Int.le_refl _, ?_⟩⟩
    · show decDigits 0 = _
      rw [decDigits]
      rfl
    · unfold itoa
      rw [if_neg (by omega)]
      show decDigits 0 = _
      rw [decDigits]
      rfl
  · obtain ⟨c, r, e, hc⟩ := dec_head n.natAbs (by omega)
    rw [e] at hall
    rw [List.all_cons, Bool.and_eq_true] at hall
    refine ⟨c, r, e, hall.1, fun h => absurd h hc, ?_⟩
    by_cases hn : n < 0
    · refine .inr ⟨hn, ?_⟩
      unfold itoa
      rw [if_pos hn, e]
    · refine .inl ⟨by omega, ?_⟩
      unfold itoa
      rw [if_neg hn, ← e]
      congr 1
      omega
theorem itoa_dec (n : Int) : decB (itoa n) = true := by
  obtain ⟨c, r, e, hc, h0, h⟩ := itoa_form n
  have hall := dec_all n.natAbs
  rw [e] at hall
  have h45 : c ≠ 45 := dig_no hc rfl
  unfold decB
  rcases h with ⟨hn, hi⟩ | ⟨hn, hi⟩
  · have hb : bare (itoa n) = c :: r := by
      unfold bare
      rw [hi, if_neg (by simpa using h45)]
    rw [hb]
    show (!(c == 48 && !(itoa n == [48])) && (c :: r).all dig) = true
    rw [hall, Bool.and_true]
    by_cases hc0 : c = 48
    · have h0' := h0 hc0
      have h1 : itoa 0 = [48] := by
        unfold itoa
        rw [if_neg (by omega)]
        show decDigits 0 = _
        rw [decDigits]
        rfl
      rw [h0', h1]
      simp
    · simp [hc0]
  · have hb : bare (itoa n) = c :: r := by
      unfold bare
      rw [hi]
      simp
    rw [hb]
    show (!(c == 48 && !(itoa n == [48])) && (c :: r).all dig) = true
    rw [hall, Bool.and_true]
    by_cases hc0 : c = 48
    · have := h0 hc0
      omega
    · simp [hc0]
theorem itoa_parse (n : Int) (h0 : -9223372036854775808 ≤ n) (h1 : n ≤ 9223372036854775807) : parseIntB 64 (itoa n) = .ok n := by
  obtain ⟨c, r, e, hc, h48, h⟩ := itoa_form n
  have hM := parseM_dec (2 ^ 64 - 1) (by decide) n.natAbs (by omega)
  rw [e] at hM
  have hd : 48 ≤ c.toNat ∧ c.toNat ≤ 57 := by simpa [dig] using hc
  rcases h with ⟨hn, hi⟩ | ⟨hn, hi⟩
  · rw [hi]
    unfold parseIntB
    dsimp only
    rw [if_neg (by omega)]
    unfold parseUintB
    rw [if_neg (by simp), hM]
    dsimp only
    rw [if_neg (by omega), if_neg (by omega), if_neg (by omega)]
    congr 1
    omega
  · rw [hi]
    unfold parseIntB
    dsimp only
    have e45 : (45 : UInt8).toNat = 45 := rfl
    rw [if_pos (by rw [e45]; omega)]
    unfold parseUintB
    rw [if_neg (by simp), hM]
    dsimp only
    rw [if_neg (by rw [e45]; omega), if_neg (by rw [e45]; omega), if_pos e45]
    congr 1
    omega
theorem itoa_pint (n : Int) (h0 : -9223372036854775808 ≤ n) (h1 : n ≤ 9223372036854775807) : pint (itoa n) = (vN n, 0) := pint_ok (itoa_dec n) (itoa_parse n h0 h1)
theorem itoa_1 (n : Int) : (itoa n == [45]) = false := by
  obtain ⟨c, r, e, hc, h48, h⟩ := itoa_form n
  rcases h with ⟨hn, hi⟩ | ⟨hn, hi⟩
  · rw [hi]
    have := dig_no hc (d := 45) rfl
    simp [this]
  · rw [hi]
    simp
theorem itoa_2 (n : Int) : ((itoa n).head? == some 34) = false := by
  obtain ⟨c, r, e, hc, h48, h⟩ := itoa_form n
  rcases h with ⟨hn, hi⟩ | ⟨hn, hi⟩
  · rw [hi]
    have := dig_no hc (d := 34) rfl
    simp [this]
  · rw [hi]
    rfl
theorem itoa_3 (n : Int) : ((itoa n).getLast? == some 105) = false := by
  obtain ⟨c, r, e, hc, h48, h⟩ := itoa_form n
  have hall := dec_all n.natAbs
  rw [e] at hall
  have hl : (c :: r).getLast? ≠ some 105 := fun hl => by
    have hm := List.mem_of_getLast? hl
    have := List.all_eq_true.1 hall _ hm
    cases this
  rcases h with ⟨hn, hi⟩ | ⟨hn, hi⟩
  · rw [hi]; simpa using hl
  · rw [hi, List.getLast?_cons_cons]; simpa using hl
end Go.Proofs.YtcogajgikmcfpaaGreatDoor
end

section
namespace Go.Proofs.YtcogajgikmcfpaaGreatDoor
open Go.RowKit Go.NW
set_option maxRecDepth 100000
theorem Tryz.held25 : Tryz.prog.stoodInHeld 25 = false := by kernel_rfl
theorem Tryz.guard25 : Tryz.prog.eqGuardType Tryz.prog.depth 25 = false := by kernel_rfl
theorem fields25 : ∃ f1 f2 f3 f4 : Field, (Tryz.prog.fieldsOf 25).toList = [f1, f2, f3, f4] ∧ (f1.name ≠ "_" ∧ f1.type = 3 ∧ f1.offset = 0) ∧ (f2.name ≠ "_" ∧ f2.type = 2 ∧ f2.offset = 1) ∧ (f3.name ≠ "_" ∧ f3.type = 9 ∧ f3.offset = 2) ∧ (f4.name ≠ "_" ∧ f4.type = 23 ∧ f4.offset = 3) :=
  by
  have h : (Tryz.prog.fieldsOf 25).toList.map (fun f => (f.name == "_", f.type, f.offset)) = [(false, 3, 0), (false, 2, 1), (false, 9, 2), (false, 23, 3)] := by kernel_rfl
  generalize (Tryz.prog.fieldsOf 25).toList = L at h
  rcases L with _ | ⟨f1, _ | ⟨f2, _ | ⟨f3, _ | ⟨f4, _ | ⟨f5, L⟩⟩⟩⟩⟩ <;> simp at h
  exact ⟨f1, f2, f3, f4, rfl, h.1, h.2.1, h.2.2.1, h.2.2.2⟩
theorem eqC0 (w : World) (d : Nat) : (Op.equalIn (d + 1) 23 (.complex .f64 0 0) (.complex .f64 0 0)).run Tryz.prog w = .ok true w := by
  simp [Op.equalIn, run_underlying Tryz.underlying23]
  kernel_rfl
theorem eqA (w : World) (k a k' b : Int) (s t : ByteArray) (x y x' y' : Nat) (q : Bool) (hq : (Op.equalIn 9999 23 (.complex .f64 x y) (.complex .f64 x' y')).run Tryz.prog w = .ok q w) : (Op.equalIn 10000 25 (.agg #[.int .i64 k, .int .i64 a, .string s, .complex .f64 x y]) (.agg #[.int .i64 k', .int .i64 b, .string t, .complex .f64 x' y'])).run Tryz.prog w = .ok ((k == k') && ((a == b) && ((s.toList == t.toList) && q))) w := by
  rw [run_equalIn_agg w 9999 25 _ _ Tryz.st25 Tryz.held25]
  obtain ⟨f1, f2, f3, f4, h, ⟨a1, a2, a3⟩, ⟨b1, b2, b3⟩, ⟨c1, c2, c3⟩, d1, d2, d3⟩ := fields25
  rw [h]
  have q3 : (Op.equalIn 9999 3 (.int .i64 k) (.int .i64 k')).run Tryz.prog w = .ok (k == k') w := run_equalIn_int w 9998 3 .i64 .i64 k k' Tryz.underlying3
  have q2 : (Op.equalIn 9999 2 (.int .i64 a) (.int .i64 b)).run Tryz.prog w = .ok (a == b) w := run_equalIn_int w 9998 2 .i64 .i64 a b Tryz.underlying2
  have q9 : (Op.equalIn 9999 9 (.string s) (.string t)).run Tryz.prog w = .ok (s.toList == t.toList) w := run_equalIn_string w 9998 9 _ _ Tryz.underlying9
  simp only [Op.eqFields, a1, a2, a3, b1, b2, b3, c1, c2, c3, d1, d2, d3, if_true, ne_eq, not_false_eq_true]
  simp [part, go_sem, q3, q2, q9, hq]
  by_cases hk : k = k' <;> by_cases ha : a = b <;> by_cases hs : s.toList = t.toList <;> cases q <;> simp [hk, ha, hs, q9, hq]
theorem eqG (op : BinOp) (x y : Operand) (xs ys : Array Value) (w : World) : (eqGuard op 25 x y (.agg xs) (.agg ys)).run Tryz.prog w = .ok () w := run_eqGuard_agg w op 25 x y xs ys Tryz.guard25
theorem neqV (w : World) (k a k' b : Int) (s t : ByteArray) (x y x' y' : Nat) (q : Bool) (hq : (Op.equalIn 9999 23 (.complex .f64 x y) (.complex .f64 x' y')).run Tryz.prog w = .ok q w) : (binOp .neq 25 (.agg #[.int .i64 k, .int .i64 a, .string s, .complex .f64 x y]) (.agg #[.int .i64 k', .int .i64 b, .string t, .complex .f64 x' y'])).run Tryz.prog w = .ok (.bool (!((k == k') && ((a == b) && ((s.toList == t.toList) && q))))) w := by
  rw [run_neq_struct, eqA _ _ _ _ _ _ _ _ _ _ _ _ hq, Result.andThen_ok]
end Go.Proofs.YtcogajgikmcfpaaGreatDoor
end
