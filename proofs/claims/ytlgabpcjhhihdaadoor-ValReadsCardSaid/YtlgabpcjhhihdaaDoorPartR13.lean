/-
  Texts of a proof over the translated program: proved evaluators and walks, part 13 of 13.
-/
import Derived.Test.YtlgabpcjhhihdaaDoorPartR12
import Derived.Below
import Derived.Deep.Cut
import Derived.Deep.RegionHeld3
import Derived.Deep.RegionWith
import Derived.Handy
import Derived.IntWalk
import Derived.LaidLaws
import Derived.LaidMore
import Derived.Laws.AppendOwn
import Derived.Laws.Cells
import Derived.Laws.Concat
import Derived.Laws.CopyRow
import Derived.Laws.Cover1
import Derived.Laws.Cover2
import Derived.Laws.Externs
import Derived.Laws.FloatArith
import Derived.Laws.IdiomStrings
import Derived.Laws.Strings
import Derived.Laws.Strings2
import Derived.Laws.Strings3
import Derived.Laws.StructEq
import Derived.Lib.AppendIntMem
import Derived.Lib.Builder
import Derived.Lib.Hide
import Derived.Lib.ItoaLen
import Derived.Lib.LaidTab
import Derived.LoopTactic
import Derived.Outline
import Derived.OwnWalk
import Derived.ProofKit
import Derived.Scope
import Derived.ScopeJumps
import Derived.Shelf.LaysC
import Derived.Shelf.LaysM
import Derived.Shelf.Small.Strs
import Derived.Shelf.Small.Wraps
import Derived.Shelf.Strconv.Clone
import Derived.Shelf.Strconv.ErrVarParseInt
import Derived.Shelf.Strconv.Itoa0
import Derived.Shelf.Strconv.Itoa1
import Derived.Shelf.Strconv.Itoa2
import Derived.Shelf.Strconv.Itoa3
import Derived.Shelf.Strconv.Itoa4
import Derived.Shelf.Strconv.Lower
import Derived.Shelf.Strconv.ParseInt10
import Derived.Shelf.Strconv.ParseInt10All
import Derived.Shelf.Strconv.ParseInt10At16
import Derived.Shelf.Strconv.ParseInt10At32
import Derived.Shelf.Strconv.ParseInt10At64
import Derived.Shelf.Strconv.ParseInt10At8
import Derived.Shelf.Strconv.ParseIntEmpty
import Derived.Shelf.Strconv.ParseIntPublic10
import Derived.Shelf.Strconv.ParseUint10
import Derived.Shelf.Strconv.ParseUint10Any
import Derived.Shelf.Strconv.ParseUint10At
import Derived.Shelf.Strconv.ParseUint10Empty
import Derived.Shelf.Strconv.ParseUint10b16
import Derived.Shelf.Strconv.ParseUint10b32
import Derived.Shelf.Strconv.ParseUint10b64
import Derived.Shelf.Strconv.ParseUint10b8
import Derived.Shelf.Strconv.ParseUintEmpty
import Derived.Shelf.Strconv.RangeError
import Derived.Shelf.Strconv.SyntaxError
import Derived.Shelf.Strconv.ToError
import Derived.Shelf.Strconv.ToErrorRange
import Derived.Shelf.Strings.Builder1
import Derived.Shelf.Strings.BuilderF
import Derived.Shelf.Strings.BuilderK
import Derived.Shelf.Strings.Prefix
import Derived.Shelf.Strings.Search1
import Derived.Stop.Joined
import Derived.Stop.LaidErr
import Derived.Test.YtlgabpcjhhihdaaDoorProg
import Derived.Test.YtlgabpcjhhihdaaDoorRows
import Derived.WalkKit
import Derived.WalkMore
import Derived.WalkSpells
set_option linter.unusedVariables false
set_option linter.unusedSimpArgs false
set_option linter.unusedSectionVars false
set_option linter.unnecessarySimpa false
section
namespace Go.Proofs.YtlgabpcjhhihdaaDoor
open Ieee
theorem write_small (s : Bool) (m L : Nat) (hm : m ≠ 0) (hL : m.log2 = L) (h : L ≤ 20) :
    double.write (.number s m 0) = double.word s ((L + 1022) * 2 ^ 52 + m * 2 ^ (52 - L)) := by
  have h1 : m < 2 ^ (L + 1) := by rw [← hL]; exact Nat.lt_log2_self
  have h2 : m * 2 ^ (52 - L) < 2 ^ 53 := by
    have : m * 2 ^ (52 - L) < 2 ^ (L + 1) * 2 ^ (52 - L) := Nat.mul_lt_mul_of_pos_right h1 (Nat.pow_pos (by omega))
    rw [← Nat.pow_add, show L + 1 + (52 - L) = 53 from by omega] at this
    exact this
  show double.nearest s m 0 = _
  unfold Format.nearest
  rw [if_neg hm, hL]
  have hlp : double.leastPlace = -1074 := by decide
  have hfb : (double.fractionBits : Int) = 52 := rfl
  have hlast : max ((0 : Int) + (L : Int) - (double.fractionBits : Int)) double.leastPlace = (L : Int) - 52 := by
    rw [hlp, hfb]; omega
  dsimp only
  rw [hlast, hlp]
  have e1 : ((0 : Int) - ((L : Int) - 52)).toNat = 52 - L := by omega
  have e2 : (((L : Int) - 52) - (0 : Int)).toNat = 0 := by omega
  have e3 : (((L : Int) - 52) - (-1074)).toNat = L + 1022 := by omega
  rw [e1, e2, e3]
  have hcut : Toward.even.cut s (m <<< (52 - L)) 0 = m * 2 ^ (52 - L) := by
    unfold Toward.cut
    simp [Nat.mod_one, Nat.shiftLeft_eq]
  have hb : double.binade = 2 ^ 52 := rfl
  have hi : double.infRung = 2047 * 2 ^ 52 := by decide
  rw [hcut, hb, hi]
  generalize m * 2 ^ (52 - L) = X at h2 ⊢
  rw [Nat.min_eq_left (by omega)]
theorem read_small (s : Bool) (m L : Nat) (hm : m ≠ 0) (hL : m.log2 = L) (h : L ≤ 20) :
    double.read (double.word s ((L + 1022) * 2 ^ 52 + m * 2 ^ (52 - L))) = .number s (m * 2 ^ (52 - L)) ((L : Int) - 52) := by
  have h1 : m < 2 ^ (L + 1) := by rw [← hL]; exact Nat.lt_log2_self
  have h0 : 2 ^ L ≤ m := by rw [← hL]; exact Nat.log2_self_le hm
  have h2 : m * 2 ^ (52 - L) < 2 ^ 53 := by
    have : m * 2 ^ (52 - L) < 2 ^ (L + 1) * 2 ^ (52 - L) := Nat.mul_lt_mul_of_pos_right h1 (Nat.pow_pos (by omega))
    rw [← Nat.pow_add, show L + 1 + (52 - L) = 53 from by omega] at this
    exact this
  have h3 : 2 ^ 52 ≤ m * 2 ^ (52 - L) := by
    have : 2 ^ L * 2 ^ (52 - L) ≤ m * 2 ^ (52 - L) := Nat.mul_le_mul_right _ h0
    rw [← Nat.pow_add, show L + (52 - L) = 52 from by omega] at this
    exact this
  generalize m * 2 ^ (52 - L) = X at h2 h3 ⊢
  have hb : double.binade = 2 ^ 52 := rfl
  have hi : double.infRung = 2047 * 2 ^ 52 := by decide
  have hs : double.signWeight = 2 ^ 63 := rfl
  have hlp : double.leastPlace = -1074 := by decide
  unfold Format.read
  rw [hb, hi, hs, hlp]
  have hw1 : (double.word s ((L + 1022) * 2 ^ 52 + X) / 2 ^ 63 % 2 == 1) = s := by
    unfold Format.word
    rw [hs]
    cases s
    · simp only [Bool.false_eq_true, if_false]
      rw [show ((L + 1022) * 2 ^ 52 + X) / 2 ^ 63 = 0 from by omega]; rfl
    · simp only [if_true]
      rw [show (2 ^ 63 + ((L + 1022) * 2 ^ 52 + X)) / 2 ^ 63 = 1 from by omega]; rfl
  have hw2 : double.word s ((L + 1022) * 2 ^ 52 + X) % 2 ^ 63 = (L + 1022) * 2 ^ 52 + X := by
    unfold Format.word
    rw [hs]
    cases s
    · simp only [Bool.false_eq_true, if_false]; omega
    · simp only [if_true]; omega
  rw [hw1, hw2]
  dsimp only
  rw [if_neg (by omega), if_pos (by omega)]
  congr 1
  · omega
  · omega
theorem Fl_decode {n : Int} (h : inP n) : ∃ s m i, FloatKind.f64.decode (Fl n) = .number s m i ∧ i ≤ 0 ∧ (∀ b : Int, b ≤ i → signed s m (i - b).toNat = n * ((2 ^ (-b).toNat : Nat) : Int)) ∧ Toward.zero.cut s (m <<< i.toNat) (-i).toNat = n.natAbs ∧ (n ≠ 0 → s = decide (n < 0)) := by
  unfold inP at h
  by_cases hn : n = 0
  · subst hn
    refine ⟨false, 0, -1074, by decide +kernel, by omega, fun b hb => by simp [signed], ?_, fun h => absurd rfl h⟩
    unfold Toward.cut
    simp
  · obtain ⟨L, hL⟩ : ∃ L, n.natAbs.log2 = L := ⟨_, rfl⟩
    have hm : n.natAbs ≠ 0 := by omega
    have hL20 : L ≤ 20 := by
      rw [← hL]
      have : n.natAbs.log2 < 21 := (Nat.log2_lt hm).2 (by omega)
      omega
    have h0 : 2 ^ L ≤ n.natAbs := by rw [← hL]; exact Nat.log2_self_le hm
    have h3 : 2 ^ 52 ≤ n.natAbs * 2 ^ (52 - L) := by
      have : 2 ^ L * 2 ^ (52 - L) ≤ n.natAbs * 2 ^ (52 - L) := Nat.mul_le_mul_right _ h0
      rw [← Nat.pow_add, show L + (52 - L) = 52 from by omega] at this
      exact this
    have hr : FloatKind.f64.decode (Fl n) = .number (decide (n < 0)) (n.natAbs * 2 ^ (52 - L)) ((L : Int) - 52) := by
      show double.read (double.write (.number (decide (n < 0)) n.natAbs 0)) = _
      rw [write_small _ _ L hm hL hL20, read_small _ _ L hm hL hL20]
    refine ⟨_, _, _, hr, by omega, fun b hb => ?_, ?_, fun _ => rfl⟩
    · have he : (n.natAbs * 2 ^ (52 - L)) <<< ((L : Int) - 52 - b).toNat = n.natAbs * 2 ^ (-b).toNat := by
        rw [Nat.shiftLeft_eq, Nat.mul_assoc, ← Nat.pow_add, show 52 - L + ((L : Int) - 52 - b).toNat = (-b).toNat from by omega]
      unfold signed
      rw [he]
      by_cases hneg : n < 0
      · rw [if_pos (by simp [hneg]), Int.natCast_mul]
        rw [show ((n.natAbs : Nat) : Int) = -n from by omega, Int.neg_mul, Int.neg_neg]
      · rw [if_neg (by simp [hneg]), Int.natCast_mul]
        rw [show ((n.natAbs : Nat) : Int) = n from by omega]
    · rw [show ((L : Int) - 52).toNat = 0 from by omega, show (-((L : Int) - 52)).toNat = 52 - L from by omega]
      unfold Toward.cut
      have hlog : 52 ≤ (n.natAbs * 2 ^ (52 - L)).log2 := (Nat.le_log2 (by omega)).2 h3
      rw [Nat.shiftLeft_zero, show min (52 - L) ((n.natAbs * 2 ^ (52 - L)).log2 + 2) = 52 - L from by omega]
      simp only [Nat.shiftLeft_eq, Nat.one_mul, Bool.toNat_false, Nat.add_zero]
      exact Nat.mul_div_cancel _ (Nat.pow_pos (by omega))
theorem Fl_toInt {n : Int} (h : inP n) : (FloatKind.f64.decode (Fl n)).toInt .zero = some n := by
  obtain ⟨s, m, i, hd, hi, _, hc, hs⟩ := Fl_decode h
  rw [hd]
  unfold Datum.toInt Datum.integral
  dsimp only
  rw [hc]
  congr 1
  unfold signed
  rw [Nat.shiftLeft_zero]
  by_cases hn : n = 0
  · subst hn; cases s <;> simp
  · rw [hs hn]
    by_cases hneg : n < 0
    · rw [if_pos (by simp [hneg])]; omega
    · rw [if_neg (by simp [hneg])]; omega
theorem cmp_mul (a b : Int) (k : Nat) (hk : 0 < k) : compare (a * (k : Int)) (b * (k : Int)) = compare a b := by
  have hk' : (0 : Int) < k := by omega
  show compareOfLessAndEq _ _ = compareOfLessAndEq _ _
  unfold compareOfLessAndEq
  rcases Int.lt_trichotomy a b with h | h | h
  · have h2 : a * (k : Int) < b * (k : Int) := Int.mul_lt_mul_of_pos_right h hk'
    rw [if_pos h, if_pos h2]
  · subst h
    rw [if_neg (Int.lt_irrefl _), if_neg (Int.lt_irrefl _), if_pos rfl, if_pos rfl]
  · have h2 : b * (k : Int) < a * (k : Int) := Int.mul_lt_mul_of_pos_right h hk'
    rw [if_neg (Int.lt_asymm h2), if_neg (fun e => by rw [e] at h2; exact Int.lt_irrefl _ h2), if_neg (Int.lt_asymm h), if_neg (fun e => by rw [e] at h; exact Int.lt_irrefl _ h)]
theorem Fl_order {a b : Int} (ha : inP a) (hb : inP b) : FloatKind.f64.format.order (Fl a) (Fl b) = some (compare a b) := by
  obtain ⟨s, m, i, hd, hi, h1, _, _⟩ := Fl_decode ha
  obtain ⟨t, k, j, hd2, hj, h2, _, _⟩ := Fl_decode hb
  show (FloatKind.f64.decode (Fl a)).order (FloatKind.f64.decode (Fl b)) = _
  rw [hd, hd2]
  unfold Datum.order
  dsimp only
  rw [h1 _ (by omega), h2 _ (by omega), cmp_mul _ _ _ (Nat.pow_pos (by omega))]
theorem Fl_max : Fl 1048576 = 4697254411347427328 ∧ Fl (-1048576) = 13920626448202203136 := by decide +kernel
theorem cvI {n : Int} (h : inP n) (w : World) : (convert 57 2 (.float .f64 (Fl n))).run Tryd.prog w = .ok (.int .i64 n) w := by
  refine run_convert_float_int w 57 2 .f64 .i64 (Fl n) n (by rw [Tryd.underlying57]; rfl) Tryd.underlying2 ?_
  unfold floatToIntVal
  rw [Fl_toInt h]
  have h' := h
  unfold inP at h'
  dsimp only
  rw [if_pos]
  constructor
  · show -9223372036854775808 ≤ n; omega
  · show n ≤ 9223372036854775807; omega
end Go.Proofs.YtlgabpcjhhihdaaDoor
end

section
namespace Go.Proofs.YtlgabpcjhhihdaaDoor
open Go.RowKit Go.NW
set_option maxRecDepth 100000
theorem inP_ends : inP 1048576 ∧ inP (-1048576) := by constructor <;> unfold inP <;> omega
theorem fl_ge {n : Int} (h : inP n) : (FloatKind.f64.format.order (Fl n) 13920626448202203136 == some .gt || FloatKind.f64.format.order (Fl n) 13920626448202203136 == some .eq) = true := by
  rw [← Fl_max.2, Fl_order h inP_ends.2]
  have h' : -1048576 ≤ n := h.1
  rcases Int.lt_or_eq_of_le h' with h1 | h1
  · rw [show compare n (-1048576) = .gt from by show compareOfLessAndEq _ _ = _; unfold compareOfLessAndEq; rw [if_neg (by omega), if_neg (by omega)]]
    rfl
  · rw [← h1]; rfl
theorem fl_le {n : Int} (h : inP n) : (FloatKind.f64.format.order (Fl n) 4697254411347427328 == some .lt || FloatKind.f64.format.order (Fl n) 4697254411347427328 == some .eq) = true := by
  rw [← Fl_max.1, Fl_order h inP_ends.1]
  have h' : n ≤ 1048576 := h.2
  rcases Int.lt_or_eq_of_le h' with h1 | h1
  · rw [show compare n 1048576 = .lt from by show compareOfLessAndEq _ _ = _; unfold compareOfLessAndEq; rw [if_pos h1]]
    rfl
  · rw [h1]; rfl
theorem fl_eq {n : Int} (h : inP n) : (FloatKind.f64.format.order (Fl n) (Fl n) == some .eq) = true := by
  rw [Fl_order h h]
  rw [show compare n n = .eq from by show compareOfLessAndEq _ _ = _; unfold compareOfLessAndEq; rw [if_neg (Int.lt_irrefl _), if_pos rfl]]
  rfl
theorem Tryd.goodPart {n : Int} (h : inP n) (w : World) : Calls Tryd.prog 45 #[.float .f64 (Fl n)] w fun e w' => e = .returned (.bool true) ∧ w = w' := by
  have h1 := fl_ge h
  have h2 := fl_le h
  have h3 := fl_eq h
  have h4 := cvI h
  have h5 := cvF2 n
  generalize Fl n = F at h1 h2 h3 h4 h5 ⊢
  go_enter Tryd.func45, Tryd.ntmps45
  go_wp2_with fail
  go_ret
  exact ⟨rfl, rfl⟩
theorem Tryd.good {a b : Int} (ha : inP a) (hb : inP b) (w : World) : Calls Tryd.prog 29 #[.complex .f64 (Fl a) (Fl b)] w fun e w' => e = .returned (.bool true) ∧ w = w' := by
  have h3 := realC
  have h4 := imagC
  have HA := Lib.hid (fun w => Tryd.goodPart ha w)
  have HB := Lib.hid (fun w => Tryd.goodPart hb w)
  generalize Fl a = F at HA ⊢
  generalize Fl b = G at HB ⊢
  go_enter Tryd.func29, Tryd.ntmps29
  go_wp2_with fail
  refine (HA.out _).mono ?_
  rintro e w1 ⟨rfl, rfl⟩
  go_wp2_with fail
  refine (HB.out _).mono ?_
  rintro e w1 ⟨rfl, rfl⟩
  go_wp2_with fail
  go_ret
  exact ⟨rfl, rfl⟩
theorem Tryd.vcheckC {a b : Int} (ha : inP a) (hb : inP b) (w : World) : Calls Tryd.prog 11 #[vC (Fl a) (Fl b)] w fun e w' => e = .returned (.int .i64 0) ∧ Below w.heap.size w w' := by
  have hsc := storeC
  have hN := neqS (k := 3) (b := true) (n := 0) (hb := rfl)
  have hG := eqG
  have HA := Lib.hid (fun w => Tryd.good ha hb w)
  unfold vC
  generalize Fl a = F at HA ⊢
  generalize Fl b = G at HA ⊢
  go_enter Tryd.func11, Tryd.ntmps11
  go_wp2
  refine wp_scope_fwd 1 ?_
  go_wp2_with fail
  refine (HA.out _).mono ?_
  rintro e w1 ⟨rfl, rfl⟩
  go_wp2_with fail
  go_step3
  refine ⟨_, rfl, ?_⟩
  go_wp2_with fail
  refine (Fwd.other (by intro l; simp)).2 ?_
  go_ret
  refine ⟨rfl, ?_⟩
  first
    | exact ((Below.refl _ w).alloc (Nat.le_refl _) _).alloc (by simp) _
    | exact (((Below.refl _ w).alloc (Nat.le_refl _) _).alloc (by simp) _).setCell (by simp) _
theorem Tryd.vcheckN (n : Int) (w : World) : Calls Tryd.prog 11 #[vN n] w fun e w' => e = .returned (.int .i64 0) ∧ Below w.heap.size w w' := by
  have hsc := storeC
  have hN := neqS (k := 1) (b := true) (n := 0) (hb := rfl)
  have hG := eqG
  unfold vN
  go_enter Tryd.func11, Tryd.ntmps11
  go_wp2
  refine wp_scope_fwd 2 ?_
  go_wp2_with fail
  go_step3
  refine ⟨_, rfl, ?_⟩
  go_wp2_with fail
  go_step3
  refine ⟨_, rfl, ?_⟩
  go_wp2_with fail
  refine (Fwd.other (by intro l; simp)).2 ?_
  go_ret
  refine ⟨rfl, ?_⟩
  first
    | exact ((Below.refl _ w).alloc (Nat.le_refl _) _).alloc (by simp) _
    | exact (((Below.refl _ w).alloc (Nat.le_refl _) _).alloc (by simp) _).setCell (by simp) _
theorem Tryd.vcheck0 (w : World) : Calls Tryd.prog 11 #[v0] w fun e w' => e = .returned (.int .i64 0) ∧ Below w.heap.size w w' := by
  have hsc := storeC
  have hN := neqS (k := 0) (b := true) (n := 0) (hb := rfl)
  have hG := eqG
  unfold v0
  go_enter Tryd.func11, Tryd.ntmps11
  go_wp2
  refine wp_scope_fwd 1 ?_
  go_wp2_with fail
  go_step3
  refine ⟨_, rfl, ?_⟩
  go_wp2_with fail
  refine (Fwd.other (by intro l; simp)).2 ?_
  go_ret
  refine ⟨rfl, ?_⟩
  exact ((Below.refl _ w).alloc (Nat.le_refl _) _).alloc (by simp) _
theorem bs_add (x y : List UInt8) (h : x.length + y.length ≤ 1000) (w : World) : (Op.stringOp .add (bs x) (bs y)).run Tryd.prog w = .ok (.string (bs (x ++ y))) w := by
  rw [run_string_add_sum w _ _ (by rw [bs_size, bs_size]; omega)]
  have : bs x ++ bs y = bs (x ++ y) := by
    apply ByteArray.ext
    simp [bs]
  rw [this]
def pText (a b : Int) : List UInt8 := ((Lib.itoa a ++ (if b < 0 then [] else [43])) ++ Lib.itoa b) ++ [105]
theorem Tryd.ptextC {B : Nat} {w : World} (hD : DoorI B w) (hB : B ≤ w.heap.size) {a b : Int} (ha : inP a) (hb : inP b) : Calls Tryd.prog 28 #[.complex .f64 (Fl a) (Fl b)] w fun e w' => e = .returned (.string (bs (pText a b))) ∧ Below w.heap.size w w' := by
  have h1 := cvI ha
  have h2 := cvI hb
  have h3 := realC
  have h4 := imagC
  have ha' : -9223372036854775808 ≤ a ∧ a ≤ 9223372036854775807 := by unfold inP at ha; omega
  have hb' : -9223372036854775808 ≤ b ∧ b ≤ 9223372036854775807 := by unfold inP at hb; omega
  have la := Lib.itoa_length_le a ha'.1 ha'.2
  have lb := Lib.itoa_length_le b hb'.1 hb'.2
  have HD := Lib.hid hD
  generalize Fl a = F at h1 ⊢
  generalize Fl b = G at h2 ⊢
  unfold pText
  by_cases hneg : b < 0
  · have d1 : decide (b < 0) = true := decide_eq_true hneg
    rw [if_pos hneg]
    have a1 : ∀ w, (Op.stringOp .add (bs (Lib.itoa a)) ⟨#[]⟩).run Tryd.prog w = .ok (.string (bs (Lib.itoa a ++ []))) w := fun w => bs_add _ [] (by simp; omega) w
    have a2 := bs_add (Lib.itoa a ++ []) (Lib.itoa b) (by simp; omega)
    have a3 : ∀ w, (Op.stringOp .add (bs (Lib.itoa a ++ [] ++ Lib.itoa b)) ⟨#[105]⟩).run Tryd.prog w = .ok (.string (bs (Lib.itoa a ++ [] ++ Lib.itoa b ++ [105]))) w := fun w => bs_add _ [105] (by simp; omega) w
    generalize bs (Lib.itoa a ++ [] ++ Lib.itoa b ++ [105]) = R at a3 ⊢
    generalize bs (Lib.itoa a ++ [] ++ Lib.itoa b) = R2 at a2 a3
    generalize bs (Lib.itoa a ++ []) = R1 at a1 a2
    clear hD hneg ha hb la lb
    go_enter Tryd.func28, Tryd.ntmps28
    go_wp2_with fail
    refine (Tryd.formatC HD.out a ha'.1 ha'.2).mono ?_
    rintro e w1 ⟨rfl, hb⟩
    have W1 := Lib.hid hb
    clear hb
    go_wp2_with fail
    refine (Tryd.formatC (HD.out.on (W1.out.mono hB)) b hb'.1 hb'.2).mono ?_
    rintro e w2 ⟨rfl, hb⟩
    have W2 := Lib.hid (W1.out.trans (hb.mono W1.out.size))
    clear hb
    go_wp2_with fail
    go_ret
    exact ⟨rfl, W2.out⟩
  · have d1 : decide (b < 0) = false := decide_eq_false hneg
    rw [if_neg hneg]
    have a1 : ∀ w, (Op.stringOp .add (bs (Lib.itoa a)) ⟨#[43]⟩).run Tryd.prog w = .ok (.string (bs (Lib.itoa a ++ [43]))) w := fun w => bs_add _ [43] (by simp; omega) w
    have a2 := bs_add (Lib.itoa a ++ [43]) (Lib.itoa b) (by simp; omega)
    have a3 : ∀ w, (Op.stringOp .add (bs (Lib.itoa a ++ [43] ++ Lib.itoa b)) ⟨#[105]⟩).run Tryd.prog w = .ok (.string (bs (Lib.itoa a ++ [43] ++ Lib.itoa b ++ [105]))) w := fun w => bs_add _ [105] (by simp; omega) w
    generalize bs (Lib.itoa a ++ [43] ++ Lib.itoa b ++ [105]) = R at a3 ⊢
    generalize bs (Lib.itoa a ++ [43] ++ Lib.itoa b) = R2 at a2 a3
    generalize bs (Lib.itoa a ++ [43]) = R1 at a1 a2
    clear hD hneg ha hb la lb
    go_enter Tryd.func28, Tryd.ntmps28
    go_wp2_with fail
    refine (Tryd.formatC HD.out a ha'.1 ha'.2).mono ?_
    rintro e w1 ⟨rfl, hb⟩
    have W1 := Lib.hid hb
    clear hb
    go_wp2_with fail
    refine (Tryd.formatC (HD.out.on (W1.out.mono hB)) b hb'.1 hb'.2).mono ?_
    rintro e w2 ⟨rfl, hb⟩
    have W2 := Lib.hid (W1.out.trans (hb.mono W1.out.size))
    clear hb
    go_wp2_with fail
    go_ret
    exact ⟨rfl, W2.out⟩
theorem Tryd.textC {B : Nat} {w : World} (hD : DoorI B w) (hB : B ≤ w.heap.size) {a b : Int} (ha : inP a) (hb : inP b) : Calls Tryd.prog 10 #[vC (Fl a) (Fl b)] w fun e w' => e = .returned (.string (bs (pText a b))) ∧ Below w.heap.size w w' := by
  have HD := Lib.hid (hD.on ((Below.refl _ w).alloc hB (.cells #[.int .i64 3, .int .i64 0, .string ⟨#[]⟩, .complex .f64 (Fl a) (Fl b)] 25)))
  clear hD
  unfold vC
  go_enter Tryd.func10, Tryd.ntmps10
  go_wp2
  refine wp_scope_fwd 1 ?_
  go_wp2_with fail
  go_step3
  refine ⟨_, rfl, ?_⟩
  go_wp2_with fail
  refine (Tryd.ptextC HD.out (Nat.le_trans hB (by simp)) ha hb).mono ?_
  rintro e w1 ⟨rfl, hb⟩
  have HB := Lib.hid (((Below.refl _ w).alloc (Nat.le_refl _) (.cells #[.int .i64 3, .int .i64 0, .string ⟨#[]⟩, .complex .f64 (Fl a) (Fl b)] 25)).trans (hb.mono (by simp)))
  clear hb
  go_wp2_with fail
  refine (Fwd.other (by intro l; simp)).2 ?_
  go_ret
  exact ⟨rfl, HB.out⟩
end Go.Proofs.YtlgabpcjhhihdaaDoor
end

section
namespace Go.Proofs.YtlgabpcjhhihdaaDoor
open Go.RowKit Go.NW
set_option maxRecDepth 100000
theorem Tryd.held29 : Tryd.prog.stoodInHeld 29 = false := by kernel_rfl
theorem Tryd.guard29 : Tryd.prog.eqGuardType Tryd.prog.depth 29 = false := by kernel_rfl
theorem fields29 : ∃ f1 f2 f3 f4 : Field, (Tryd.prog.fieldsOf 29).toList = [f1, f2, f3, f4] ∧ (f1.name ≠ "_" ∧ f1.type = 3 ∧ f1.offset = 0) ∧ (f2.name ≠ "_" ∧ f2.type = 2 ∧ f2.offset = 1) ∧ (f3.name ≠ "_" ∧ f3.type = 9 ∧ f3.offset = 2) ∧ (f4.name ≠ "_" ∧ f4.type = 23 ∧ f4.offset = 3) :=
  by
  have h : (Tryd.prog.fieldsOf 29).toList.map (fun f => (f.name == "_", f.type, f.offset)) = [(false, 3, 0), (false, 2, 1), (false, 9, 2), (false, 23, 3)] := by kernel_rfl
  generalize (Tryd.prog.fieldsOf 29).toList = L at h
  rcases L with _ | ⟨f1, _ | ⟨f2, _ | ⟨f3, _ | ⟨f4, _ | ⟨f5, L⟩⟩⟩⟩⟩ <;> simp at h
  exact ⟨f1, f2, f3, f4, rfl, h.1, h.2.1, h.2.2.1, h.2.2.2⟩
theorem eqA29 (w : World) (k a k' b : Int) (s t : ByteArray) (x y x' y' : Nat) (q : Bool) (hq : (Op.equalIn 9999 23 (.complex .f64 x y) (.complex .f64 x' y')).run Tryd.prog w = .ok q w) : (Op.equalIn 10000 29 (.agg #[.int .i64 k, .int .i64 a, .string s, .complex .f64 x y]) (.agg #[.int .i64 k', .int .i64 b, .string t, .complex .f64 x' y'])).run Tryd.prog w = .ok ((k == k') && ((a == b) && ((s.toList == t.toList) && q))) w := by
  rw [run_equalIn_agg w 9999 29 _ _ Tryd.st29 Tryd.held29]
  obtain ⟨f1, f2, f3, f4, h, ⟨a1, a2, a3⟩, ⟨b1, b2, b3⟩, ⟨c1, c2, c3⟩, d1, d2, d3⟩ := fields29
  rw [h]
  have q3 : (Op.equalIn 9999 3 (.int .i64 k) (.int .i64 k')).run Tryd.prog w = .ok (k == k') w := run_equalIn_int w 9998 3 .i64 .i64 k k' Tryd.underlying3
  have q2 : (Op.equalIn 9999 2 (.int .i64 a) (.int .i64 b)).run Tryd.prog w = .ok (a == b) w := run_equalIn_int w 9998 2 .i64 .i64 a b Tryd.underlying2
  have q9 : (Op.equalIn 9999 9 (.string s) (.string t)).run Tryd.prog w = .ok (s.toList == t.toList) w := run_equalIn_string w 9998 9 _ _ Tryd.underlying9
  simp only [Op.eqFields, a1, a2, a3, b1, b2, b3, c1, c2, c3, d1, d2, d3, if_true, ne_eq, not_false_eq_true]
  simp [part, go_sem, q3, q2, q9, hq]
  by_cases hk : k = k' <;> by_cases ha : a = b <;> by_cases hs : s.toList = t.toList <;> cases q <;> simp [hk, ha, hs, q9, hq]
theorem eqG29 (op : BinOp) (x y : Operand) (xs ys : Array Value) (w : World) : (eqGuard op 29 x y (.agg xs) (.agg ys)).run Tryd.prog w = .ok () w := run_eqGuard_agg w op 29 x y xs ys Tryd.guard29
theorem neqV29 (w : World) (k a k' b : Int) (s t : ByteArray) (x y x' y' : Nat) (q : Bool) (hq : (Op.equalIn 9999 23 (.complex .f64 x y) (.complex .f64 x' y')).run Tryd.prog w = .ok q w) : (binOp .neq 29 (.agg #[.int .i64 k, .int .i64 a, .string s, .complex .f64 x y]) (.agg #[.int .i64 k', .int .i64 b, .string t, .complex .f64 x' y'])).run Tryd.prog w = .ok (.bool (!((k == k') && ((a == b) && ((s.toList == t.toList) && q))))) w := by
  rw [run_neq_struct, eqA29 _ _ _ _ _ _ _ _ _ _ _ _ hq, Result.andThen_ok]
theorem Tryd.lawOf (k n : Int) (s : ByteArray) (x y : Nat) (w : World) : Calls Tryd.prog 9 #[.agg #[.int .i64 k, .int .i64 n, .string s, .complex .f64 x y]] w fun e w' => e = .returned (.agg #[.int .i64 k, .int .i64 n, .string s, .complex .f64 x y]) ∧ Below w.heap.size w w' := by
  have hsc := storeC
  go_enter Tryd.func9, Tryd.ntmps9
  go_wp2_with fail
  refine bodyPost_ret (v := .agg #[.int .i64 k, .int .i64 n, .string s, .complex .f64 x y]) (by simp [results, Tryd.results9, go_sem]) rfl ⟨rfl, ?_⟩
  exact ((Below.refl _ w).alloc (Nat.le_refl _) _).alloc (by simp) _
theorem ccEq {a b : Int} (ha : inP a) (hb : inP b) (d : Nat) (w : World) : (Op.equalIn (d + 1) 23 (.complex .f64 (Fl a) (Fl b)) (.complex .f64 (Fl a) (Fl b))).run Tryd.prog w = .ok true w := by
  have h1 : Op.floatEq .f64 (Fl a) (Fl a) = true := fl_eq ha
  have h2 : Op.floatEq .f64 (Fl b) (Fl b) = true := fl_eq hb
  simp [Op.equalIn, run_underlying Tryd.underlying23, h1, h2]
theorem Bx.of29 (Z : World) (k n : Int) (s : ByteArray) (x y : Nat) : Bx (Z.alloc (.cells #[.int .i64 k, .int .i64 n, .string s, .complex .f64 x y] 29)) Z.heap.size k n s x y := by
  refine ⟨?_, ?_, ?_, ?_⟩ <;> (rw [cell_of_row _ _ _ _ 29 _ (heap_alloc_new _ _)]; rfl)
set_option maxHeartbeats 4000000 in
theorem Tryd.readsWalk {w : World} (hK : Calls Tryd.prog 6 #[] w fun e w' => e = .returned (.bool true) ∧ Below w.heap.size w w') (l : List UInt8) (hl : l.length ≤ 700) (k n : Int) (s : ByteArray) (x y : Nat) (er : Int)
    (hq : ∀ w, (Op.equalIn 9999 23 (.complex .f64 x y) (.complex .f64 x y)).run Tryd.prog w = .ok true w)
    (hP : ∀ w', Below w.heap.size w w' → Calls Tryd.prog 7 #[.string (bs l)] w' fun e w'' => e = .returned (.tuple #[.agg #[.int .i64 k, .int .i64 n, .string s, .complex .f64 x y], .int .i64 er]) ∧ Below w'.heap.size w' w'')
    (hR : ∀ w', Calls Tryd.prog 8 #[.string (bs l)] w' fun e w'' => e = .returned (.tuple #[.agg #[.int .i64 k, .int .i64 n, .string s, .complex .f64 x y], .int .i64 er]) ∧ Below w'.heap.size w' w'')
    (hT : er = 0 → ∀ w', Below w.heap.size w w' → Calls Tryd.prog 10 #[.agg #[.int .i64 k, .int .i64 n, .string s, .complex .f64 x y]] w' fun e w'' => e = .returned (.string (bs l)) ∧ Below w'.heap.size w' w'')
    (hC : er = 0 → ∀ w', Calls Tryd.prog 11 #[.agg #[.int .i64 k, .int .i64 n, .string s, .complex .f64 x y]] w' fun e w'' => e = .returned (.int .i64 0) ∧ Below w'.heap.size w' w'') :
    Calls Tryd.prog 3 #[.string (bs l)] w fun e w' => e = .returned (.bool true) ∧ Below w.heap.size w w' := by
  have hsc := storeC
  have hB' := bs_list
  have HK := Lib.hid hK
  have HP := Lib.hid hP
  have HR := Lib.hid hR
  have HT := Lib.hid hT
  have HC := Lib.hid hC
  obtain ⟨m, hm⟩ : ∃ m, m = l.length := ⟨_, rfl⟩
  have hS1 : (bs l).size = m := by rw [bs_size, hm]
  have g1 : decide ((m : Int) > 700) = false := decide_eq_false (by omega)
  have g2 : decide (700 < m) = false := decide_eq_false (by omega)
  have hG := eqG29
  have hE : ∀ w, (binOp .neq 29 (.agg #[.int .i64 k, .int .i64 n, .string s, .complex .f64 x y]) (.agg #[.int .i64 k, .int .i64 n, .string s, .complex .f64 x y])).run Tryd.prog w = .ok (.bool false) w := fun w => by
    rw [neqV29 w k n k n s s x y x y true (hq w)]
    simp
  have HE := Lib.hid hE
  have HG := Lib.hid hG
  clear hK hP hR hT hC hm hq hE hG hl
  go_enter Tryd.func3, Tryd.ntmps3
  go_wp2_with fail
  refine HK.out.mono ?_
  rintro e v1 ⟨rfl, hb⟩
  have U1 := Lib.hid hb
  clear hb
  go_wp2_with fail
  refine (HP.out _ U1.out).mono ?_
  rintro e v2 ⟨rfl, hb⟩
  have U2 := Lib.hid (U1.out.trans (hb.mono U1.out.size))
  clear hb
  go_wp2_with fail
  have U3 := Lib.hid (U2.out.alloc U2.out.size (.cells #[.int .i64 k, .int .i64 n, .string s, .complex .f64 x y] 25))
  have S3 := Lib.hid (Bx.of v2 k n s x y)
  generalize v2.alloc (.cells #[.int .i64 k, .int .i64 n, .string s, .complex .f64 x y] 25) = v3 at U3 S3 ⊢
  generalize v2.heap.size = x1 at S3 ⊢
  refine (HR.out _).mono ?_
  rintro e v4 ⟨rfl, hb⟩
  have U4 := Lib.hid (U3.out.trans (hb.mono U3.out.size))
  have S4 := Lib.hid (Bx.below S3.out hb)
  clear hb
  have hG := HG.out
  have hE := HE.out
  go_upto_region 7 with fail
  have U5 := Lib.hid (U4.out.alloc U4.out.size (.cells #[.int .i64 k, .int .i64 n, .string s, .complex .f64 x y] 29))
  have S5 := Lib.hid (And.intro (Bx.below S4.out ((Below.refl _ v4).alloc (Nat.le_refl _) (.cells #[.int .i64 k, .int .i64 n, .string s, .complex .f64 x y] 29))) (Bx.of29 v4 k n s x y))
  generalize v4.alloc (.cells #[.int .i64 k, .int .i64 n, .string s, .complex .f64 x y] 29) = V0 at U5 S5 ⊢
  generalize v4.heap.size = x2 at S5 ⊢
  have S0a := S5
  have B0 := Lib.hid U5.out.drew
  have S0 := Lib.hid (And.intro (Bx.below S5.out.1 (Below.refl _ V0).drew) (Bx.below S5.out.2 (Below.refl _ V0).drew))
  refine wp_region_noPanic ?_
  refine wp_region_held_drew (S := (fun Z => Bx Z x1 k n s x y ∧ Bx Z x2 k n s x y)) (by kernel_rfl) ?_ (fun hHeld => ?_)
  · exact S0a.out
  refine wpAnyH_take (i := 0) (oi := { dst := some 22, op := Op.move (Operand.tmp 4), type := 26, pos := "law.go:124", after := #[], guard := none }) (v := ?_) rfl (by kernel_rfl) (by kernel_rfl) (by kernel_rfl) (fun _ _ _ h => h) (Or.inl ⟨by rfl, ?_⟩) (by assumption) ?_
  rotate_left
  · (intro w hSw; (try dsimp only at hSw); go_simp; try with_reducible rfl)
  try simp only [Act.put, List.setIfInBounds_toArray, List.set_cons_zero, List.set_cons_succ]
  refine wpAnyH_take (i := 1) (oi := { dst := some 23, op := Op.move (Operand.tmp 6), type := 3, pos := "law.go:124", after := #[], guard := none }) (v := ?_) rfl (by kernel_rfl) (by kernel_rfl) (by kernel_rfl) (fun _ _ _ h => h) (Or.inl ⟨by rfl, ?_⟩) (by assumption) ?_
  rotate_left
  · (intro w hSw; (try dsimp only at hSw); go_simp; try with_reducible rfl)
  try simp only [Act.put, List.setIfInBounds_toArray, List.set_cons_zero, List.set_cons_succ]
  refine wpAnyH_take (i := 2) (oi := { dst := some 24, op := Op.binOp BinOp.neq 3 (Operand.tmp 22) (Operand.tmp 23) 3, type := 4, pos := "law.go:124", after := #[{ on := 0, ground := Ground.data }, { on := 1, ground := Ground.data }], guard := none }) (v := ?_) rfl (by kernel_rfl) (by kernel_rfl) (by kernel_rfl) (fun _ _ _ h => h) (Or.inl ⟨by rfl, ?_⟩) (by assumption) ?_
  rotate_left
  · (intro w hSw; (try dsimp only at hSw); go_simp; try with_reducible rfl)
  try simp only [Act.put, List.setIfInBounds_toArray, List.set_cons_zero, List.set_cons_succ]
  refine wpAnyH_take (i := 3) (oi := { dst := some 25, op := Op.move (Operand.tmp 24), type := 4, pos := "law.go:124", after := #[{ on := 2, ground := Ground.data }], guard := none }) (v := ?_) rfl (by kernel_rfl) (by kernel_rfl) (by kernel_rfl) (fun _ _ _ h => h) (Or.inl ⟨by rfl, ?_⟩) (by assumption) ?_
  rotate_left
  · (intro w hSw; (try dsimp only at hSw); go_simp; try with_reducible rfl)
  try simp only [Act.put, List.setIfInBounds_toArray, List.set_cons_zero, List.set_cons_succ]
  refine wpAnyH_take (i := 4) (oi := { dst := some 26, op := Op.load 25 (Operand.tmp 3), type := 25, pos := "law.go:124", after := #[{ on := 3, ground := Ground.guard }], guard := some (3, false) }) (v := ?_) rfl (by kernel_rfl) (by kernel_rfl) (by kernel_rfl) (fun _ _ _ h => h) (Or.inl ⟨by rfl, ?_⟩) (by assumption) ?_
  rotate_left
  · (intro w hSw; (try dsimp only at hSw); (obtain ⟨⟨p1, p2, p3, p4⟩, q1, q2, q3, q4⟩ := hSw); go_simp; try with_reducible rfl)
  try simp only [Act.put, List.setIfInBounds_toArray, List.set_cons_zero, List.set_cons_succ]
  refine wpAnyH_take (i := 6) (oi := { dst := some 28, op := Op.load 29 (Operand.tmp 5), type := 29, pos := "law.go:124", after := #[{ on := 3, ground := Ground.guard }], guard := some (3, false) }) (v := ?_) rfl (by kernel_rfl) (by kernel_rfl) (by kernel_rfl) (fun _ _ _ h => h) (Or.inl ⟨by rfl, ?_⟩) (by assumption) ?_
  rotate_left
  · (intro w hSw; (try dsimp only at hSw); (obtain ⟨⟨p1, p2, p3, p4⟩, q1, q2, q3, q4⟩ := hSw); go_simp; try with_reducible rfl)
  try simp only [Act.put, List.setIfInBounds_toArray, List.set_cons_zero, List.set_cons_succ]
  refine wpAnyH_ready (rs := [5]) (by kernel_rfl) (by simp) ?_
  refine AllReadyH.cons (o := { dst := some 27, op := Op.call { callee := Callee.value (Operand.func 9), args := #[Operand.tmp 26], argTypes := #[25] }, type := 29, pos := "law.go:124", after := #[{ on := 4, ground := Ground.data }, { on := 3, ground := Ground.chain }, { on := 3, ground := Ground.guard }], guard := some (3, false) }) rfl (fun K hK => ?_) AllReadyH.nil
  go_simp
  refine (Tryd.lawOf k n s x y _).mono ?_
  rintro e V1 ⟨rfl, hb⟩
  have B1 := Lib.hid (B0.out.trans (hb.mono B0.out.size))
  have S1 := Lib.hid (And.intro (Bx.below S0.out.1 hb) (Bx.below S0.out.2 hb))
  clear hb
  refine hK.out _ _ ?_ (fun hHeld => ?_)
  · exact S1.out
  clear hK K
  try simp only [Act.put, List.setIfInBounds_toArray, List.set_cons_zero, List.set_cons_succ]
  refine wpAnyH_take (i := 7) (oi := { dst := some 29, op := Op.binOp BinOp.neq 29 (Operand.tmp 27) (Operand.tmp 28) 29, type := 4, pos := "law.go:124", after := #[{ on := 5, ground := Ground.data }, { on := 6, ground := Ground.data }, { on := 3, ground := Ground.guard }], guard := some (3, false) }) (v := ?_) rfl (by kernel_rfl) (by kernel_rfl) (by kernel_rfl) (fun _ _ _ h => h) (Or.inl ⟨by rfl, ?_⟩) (by assumption) ?_
  rotate_left
  · (intro w hSw; (try dsimp only at hSw); go_simp; try with_reducible rfl)
  try simp only [Act.put, List.setIfInBounds_toArray, List.set_cons_zero, List.set_cons_succ]
  refine wpAnyH_take (i := 8) (oi := { dst := some 30, op := Op.pick (Operand.tmp 25) (Operand.const (Value.bool true)) (Operand.tmp 29), type := 4, pos := "law.go:124", after := #[{ on := 3, ground := Ground.data }, { on := 7, ground := Ground.data }], guard := none }) (v := ?_) rfl (by kernel_rfl) (by kernel_rfl) (by kernel_rfl) (fun _ _ _ h => h) (Or.inl ⟨by rfl, ?_⟩) (by assumption) ?_
  rotate_left
  · (intro w hSw; (try dsimp only at hSw); go_simp; try with_reducible rfl)
  try simp only [Act.put, List.setIfInBounds_toArray, List.set_cons_zero, List.set_cons_succ]
  refine wpAnyH_done (by kernel_rfl) ?_ _
  refine NoPanic.normal ?_
  clear hHeld
  by_cases h0 : er = 0
  · have HT2 := Lib.hid (HT.out h0)
    have HC2 := Lib.hid (HC.out h0)
    subst h0
    obtain ⟨p1, p2, p3, p4⟩ := S1.out.1
    go_wp2_with fail
    refine (HT2.out _ B1.out).mono ?_
    rintro e v7 ⟨rfl, hb⟩
    have U7 := Lib.hid (B1.out.trans (hb.mono B1.out.size))
    have S7 := Lib.hid (Bx.below S1.out.1 hb)
    clear hb p1 p2 p3 p4
    obtain ⟨p1, p2, p3, p4⟩ := S7.out
    go_wp2_with fail
    refine (HC2.out _).mono ?_
    rintro e v8 ⟨rfl, hb⟩
    have U8 := Lib.hid (U7.out.trans (hb.mono U7.out.size))
    clear hb p1 p2 p3 p4
    go_wp2_with fail
    go_ret
    exact ⟨rfl, U8.out⟩
  · have e1 : (er != 0) = true := by simpa using h0
    have e2 : (er == 0) = false := by simpa using h0
    have e3 : decide (er = 0) = false := decide_eq_false h0
    go_wp2_with fail
    go_ret
    exact ⟨rfl, B1.out⟩
end Go.Proofs.YtlgabpcjhhihdaaDoor
end

section
namespace Go.Proofs.YtlgabpcjhhihdaaDoor
open Go.RowKit Go.NW
set_option maxRecDepth 100000
theorem hexD_qhv : ∀ n, n < 256 → 0 ≤ hv (UInt8.ofNat n) → hexD (hv (UInt8.ofNat n)).toNat = UInt8.ofNat n := by decide +kernel
theorem hexD_ofhv {c : UInt8} (h : ¬ hv c < 0) : hexD (hv c).toNat = c ∧ (hv c).toNat < 16 := by
  have h1 := hexD_qhv c.toNat c.toNat_lt
  rw [UInt8.ofNat_toNat] at h1
  refine ⟨h1 (by omega), ?_⟩
  rcases hv_range c with h2 | ⟨p, hp, h2⟩ <;> omega
theorem unhex_back : ∀ (t X : List UInt8), unhex t = some X → hexL X = t
  | [], X, h => by
    simp [unhex] at h
    subst h
    rfl
  | [_], X, h => by simp [unhex] at h
  | a :: b :: r, X, h => by
    simp only [unhex] at h
    split at h
    · cases h
    · rename_i hn
      rcases hu : unhex r with _ | Y
      · rw [hu] at h; cases h
      · rw [hu] at h
        simp only [Option.map_some, Option.some.injEq] at h
        subst h
        have ih := unhex_back r Y hu
        obtain ⟨ha, ha'⟩ := hexD_ofhv (c := a) (fun h => hn (.inl h))
        obtain ⟨hb, hb'⟩ := hexD_ofhv (c := b) (fun h => hn (.inr h))
        have hbo : (byteOf a b).toNat = (hv a).toNat * 16 + (hv b).toNat := by
          unfold byteOf
          rw [UInt8.toNat_ofNat']
          show _ % 256 = _
          omega
        show hexD ((byteOf a b).toNat / 16) :: hexD ((byteOf a b).toNat % 16) :: hexL Y = _
        rw [hbo, ih, show ((hv a).toNat * 16 + (hv b).toNat) / 16 = (hv a).toNat from by omega, show ((hv a).toNat * 16 + (hv b).toNat) % 16 = (hv b).toNat from by omega, ha, hb]
theorem pbytes_cases (t : List UInt8) : (∃ k : Int, k ≠ 0 ∧ pbytes t = (v0, k)) ∨ ∃ X, unhex t = some X ∧ X.length ≤ 255 ∧ pbytes t = (vS (bs X), 0) := by
  unfold pbytes
  split
  · rcases hu : unhex t with _ | X
    · exact .inl ⟨2, by omega, rfl⟩
    · dsimp only
      split
      · exact .inl ⟨4, by omega, rfl⟩
      · exact .inr ⟨X, rfl, by omega, rfl⟩
  · exact .inl ⟨2, by omega, rfl⟩
theorem form_text {l X Y : List UInt8} (hf : Form l X Y) {a b : Int} (ha : Lib.parseIntB 64 X = .ok a) (hb : Lib.parseIntB 64 Y = .ok b) : pText a b = l := by
  obtain ⟨hX, hY, h⟩ := hf
  have i1 := (itoa_of_parse hX ha).1
  have i2 := (itoa_of_parse hY hb).1
  unfold pText
  rw [i1, i2]
  have hsg : (b < 0 ↔ Y.head? = some 45) := by
    have hp := parse_dv hY
    rw [hb] at hp
    by_cases h45 : Y.head? = some 45
    · refine ⟨fun _ => h45, fun _ => ?_⟩
      rcases Int.lt_or_le b 0 with h0 | h0
      · exact h0
      · exfalso
        have : Lib.itoa b = Lib.decDigits b.toNat := by unfold Lib.itoa; rw [if_neg (by omega)]
        rw [this] at i2
        rw [← i2] at h45
        have hall := dec_all b.toNat
        rcases hd : Lib.decDigits b.toNat with _ | ⟨c, r⟩
        · rw [hd] at h45; cases h45
        · rw [hd] at h45 hall
          simp only [List.head?_cons, Option.some.injEq] at h45
          rw [List.all_cons, Bool.and_eq_true, h45] at hall
          exact absurd hall.1 (by decide)
    · rw [if_neg h45] at hp
      refine ⟨fun h0 => ?_, fun h => absurd h h45⟩
      split at hp
      · injection hp with hp
        omega
      · cases hp
  rcases h with ⟨rfl, h45⟩ | ⟨rfl, h45⟩
  · rw [if_neg (fun h => h45 (hsg.1 h))]
    simp
  · rw [if_pos (hsg.2 h45)]
    simp
theorem ppt_split (l : List UInt8) : (∃ k : Int, k ≠ 0 ∧ ppt l = (v0, k)) ∨ ∃ a b, inP a ∧ inP b ∧ pText a b = l ∧ ppt l = (vC (Fl a) (Fl b), 0) := by
  unfold ppt
  rcases hp : ppS l with _ | ⟨X, Y⟩
  · exact .inl ⟨2, by omega, rfl⟩
  · dsimp only
    unfold ptOf
    rcases hx : Lib.parseIntB 64 X with a | _ | _
    · rcases hy : Lib.parseIntB 64 Y with b | _ | _
      · dsimp only
        by_cases h : inP a ∧ inP b
        · rw [if_pos h]
          exact .inr ⟨a, b, h.1, h.2, form_text (form_ppS hp) hx hy, rfl⟩
        · rw [if_neg h]
          exact .inl ⟨1, by omega, rfl⟩
      · exact .inl ⟨1, by omega, rfl⟩
      · exact .inl ⟨1, by omega, rfl⟩
    · exact .inl ⟨1, by omega, rfl⟩
    · exact .inl ⟨1, by omega, rfl⟩
theorem pint_split (l : List UInt8) : (∃ k : Int, k ≠ 0 ∧ pint l = (v0, k)) ∨ ∃ v : Int, -9223372036854775808 ≤ v ∧ v ≤ 9223372036854775807 ∧ Lib.itoa v = l ∧ pint l = (vN v, 0) := by
  rcases hd : decB l with _ | _
  · exact .inl ⟨2, by omega, pint_no hd⟩
  · by_cases hp : ∃ v, Lib.parseIntB 64 l = .ok v
    · obtain ⟨v, hp⟩ := hp
      obtain ⟨h1, h2, h3⟩ := itoa_of_parse hd hp
      exact .inr ⟨v, h2, h3, h1, pint_ok hd hp⟩
    · exact .inl ⟨1, by omega, pint_err hd fun v h => hp ⟨v, h⟩⟩
theorem Tryd.readsSmall {B : Nat} {w : World} (hD : DoorI B w) (hB : B ≤ w.heap.size) (hK : Calls Tryd.prog 6 #[] w fun e w' => e = .returned (.bool true) ∧ Below w.heap.size w w') (l : List UInt8) (hl : l.length ≤ 700) :
    Calls Tryd.prog 3 #[.string (bs l)] w fun e w' => e = .returned (.bool true) ∧ Below w.heap.size w w' := by
  have hDn : ∀ w', Below w.heap.size w w' → DoorI B w' ∧ B ≤ w'.heap.size := fun w' hb => ⟨hD.on (hb.mono hB), Nat.le_trans hB hb.size⟩
  by_cases h1 : l = [45]
  · subst h1
    exact Tryd.readsWalk hK [45] hl 0 0 ⟨#[]⟩ 0 0 0 (fun w => eqC0 w 9998) (fun w' _ => Tryd.parseNull w') (fun w' => Tryd.rvalNull w') (fun _ w' _ => Tryd.text0 w') (fun _ w' => Tryd.vcheck0 w')
  · have h1' : (l == [45]) = false := beq_eq_false_iff_ne.2 h1
    by_cases h2 : l.head? = some 34
    · obtain ⟨t, rfl⟩ : ∃ t, l = 34 :: t := by
        match l, h2 with
        | x :: t, h2 => exact ⟨t, by simpa using h2⟩
      have ht : t.length < 2 ^ 39 := by rw [List.length_cons] at hl; omega
      have hP := fun w' => Tryd.parseB t ht w'
      have hR := fun w' => Tryd.rvalB t ht w'
      rcases pbytes_cases t with ⟨k, hk, hp⟩ | ⟨X, hX, hX2, hp⟩
      · rw [hp] at hP hR
        exact Tryd.readsWalk hK _ hl 0 0 ⟨#[]⟩ 0 0 k (fun w => eqC0 w 9998) (fun w' _ => hP w') hR (fun h => absurd h hk) (fun h => absurd h hk)
      · rw [hp] at hP hR
        have hT := fun w' => Tryd.textS X (by omega) w'
        rw [unhex_back t X hX] at hT
        refine Tryd.readsWalk hK _ hl 2 0 (bs X) 0 0 0 (fun w => eqC0 w 9998) (fun w' _ => hP w') hR (fun _ w' _ => hT w') (fun _ w' => ?_)
        have h := Tryd.vcheckS (bs X) (by rw [bs_size]; omega) w'
        rw [if_pos (by rw [bs_size]; exact hX2)] at h
        exact h
    · have h2' : (l.head? == some 34) = false := beq_eq_false_iff_ne.2 h2
      by_cases h3 : l.getLast? = some 105
      · have h3' : (l.getLast? == some 105) = true := by rw [h3]; rfl
        have hP := fun w' hb => Tryd.parsePC (hDn w' hb).1 (hDn w' hb).2 l (by omega) h1' h2' h3'
        have hR := fun w' => Tryd.rvalP l (by omega) h2' h3 w'
        rcases ppt_split l with ⟨k, hk, hp⟩ | ⟨a, b, ha, hb, hpt, hp⟩
        · rw [hp] at hP hR
          exact Tryd.readsWalk hK _ hl 0 0 ⟨#[]⟩ 0 0 k (fun w => eqC0 w 9998) hP hR (fun h => absurd h hk) (fun h => absurd h hk)
        · rw [hp] at hP hR
          have hT := fun w' hb' => Tryd.textC (hDn w' hb').1 (hDn w' hb').2 ha hb
          rw [hpt] at hT
          exact Tryd.readsWalk hK _ hl 3 0 ⟨#[]⟩ (Fl a) (Fl b) 0 (fun w => ccEq ha hb 9998 w) hP hR (fun _ => hT) (fun _ w' => Tryd.vcheckC ha hb w')
      · have h3' : (l.getLast? == some 105) = false := beq_eq_false_iff_ne.2 h3
        have hP := fun w' hb => Tryd.parseN (hDn w' hb).1 (hDn w' hb).2 l (by omega) h1' h2' h3'
        by_cases h0 : l = []
        · subst h0
          have he : pint [] = (v0, 2) := pint_no rfl
          rw [he] at hP
          exact Tryd.readsWalk hK _ hl 0 0 ⟨#[]⟩ 0 0 2 (fun w => eqC0 w 9998) hP (fun w' => Tryd.rvalEmpty w') (fun h => absurd h (by omega)) (fun h => absurd h (by omega))
        · have hR := fun w' => Tryd.rvalN l (by omega) h0 h1' h2' h3' w'
          rcases pint_split l with ⟨k, hk, hp⟩ | ⟨v, hv0, hv1, hit, hp⟩
          · rw [hp] at hP hR
            exact Tryd.readsWalk hK _ hl 0 0 ⟨#[]⟩ 0 0 k (fun w => eqC0 w 9998) hP hR (fun h => absurd h hk) (fun h => absurd h hk)
          · rw [hp] at hP hR
            have hT := fun w' hb' => Tryd.textN (hDn w' hb').1 (hDn w' hb').2 v hv0 hv1
            rw [hit] at hT
            exact Tryd.readsWalk hK _ hl 1 v ⟨#[]⟩ 0 0 0 (fun w => eqC0 w 9998) hP hR (fun _ => hT) (fun _ w' => Tryd.vcheckN v w')
theorem Tryd.readsBig {w : World} (hK : Calls Tryd.prog 6 #[] w fun e w' => e = .returned (.bool true) ∧ Below w.heap.size w w') (s : ByteArray) (h : 700 < s.size) :
    Calls Tryd.prog 3 #[.string s] w fun e w' => e = .returned (.bool true) ∧ Below w.heap.size w w' := by
  have HK := Lib.hid hK
  obtain ⟨n, hn⟩ : ∃ n, s.size = n := ⟨_, rfl⟩
  rw [hn] at h
  have g1 : decide ((n : Int) > 700) = true := decide_eq_true (by omega)
  have g2 : decide (700 < n) = true := decide_eq_true h
  clear hK h
  go_enter Tryd.func3, Tryd.ntmps3
  go_wp2_with fail
  refine HK.out.mono ?_
  rintro e v1 ⟨rfl, hb⟩
  have U1 := Lib.hid hb
  clear hb
  go_wp2_with fail
  go_ret
  exact ⟨rfl, U1.out⟩
theorem readsZ (a : ByteArray) (W : World) (hL : laidMet Tryd.prog laid5 W) (wa : a.size ≤ 140737488355328) : Calls Tryd.prog 3 #[.string a] W fun e w' => e = .returned (.bool true) ∧ Below W.heap.size W w' := by
  have hD := doorI_of hL
  have hK := Tryd.knownC hD (Nat.le_refl _)
  by_cases h : 700 < a.size
  · exact Tryd.readsBig hK a h
  · have ha : a.data.toList.length ≤ 700 := by
      have : a.size = a.data.toList.length := by rw [Array.length_toList]; rfl
      omega
    exact Tryd.readsSmall hD (Nat.le_refl _) hK a.data.toList ha
end Go.Proofs.YtlgabpcjhhihdaaDoor
end
